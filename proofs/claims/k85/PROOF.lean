import PyProof.Rows.All
import Wide.All
import OpenK.AllK
import Wide.FinOn
import Lean
import PyProof.EqAt
import PyProof.EqKinds
import PyProof.TupleCall
import PyProof.StrCalls2
import PyProof.SumAny
import PyProof.Rows.Range3
import PyProof.StrBlockI
import PyProof.SliceStr2
import PyProof.IsRules
import PyProof.StrBlock2
import PyProof.Seq
import KE.KDictOf
import PyProof.StrLawsIn
import PySem.Challenge.RW_skeinwood_k85_whole_long_house
set_option Elab.async false
set_option genSizeOf false
set_option bootstrap.genMatcherCode false
set_option compiler.extract_closed false
set_option compiler.postponeCompile true
set_option linter.all false
set_option maxRecDepth 100000
local macro_rules|`(def$n:declId$s:optDeclSig$v:declVal)=>`(noncomputable def$n:declId$s:optDeclSig$v:declVal)
local macro_rules|`(abbrev$n:declId$s:optDeclSig$v:declVal)=>`(noncomputable abbrev$n:declId$s:optDeclSig$v:declVal)
local macro_rules|`(@[simp]def$n:declId$s:optDeclSig$v:declVal)=>`(@[simp]noncomputable def$n:declId$s:optDeclSig$v:declVal)
noncomputable section
namespace L2
open PySem PySem.Spec PyProof.Rows
abbrev Key:=Sum Int Str
def yeG:Key->Value->Bool
 | .inl k,v=>Value.isInt k v
 | .inr x,v=>Value.isStrOf x v
def keyH (w:World):Key->Int
 | .inl k=>hashInt k
 | .inr x=>hashStr w x
theorem zaA:∀ {k:Key} {v:Value},yeG k v=true->(∃ i t,k=Sum.inl i/\v=Value.int i t)\/(∃ x t,k=Sum.inr x/\v=Value.str x t)
 | .inl i,v,h=>by
  obtain ⟨t,e⟩:=Value.isInt_shape (k:=i) (v:=v) h
  exact .inl ⟨i,t,rfl,e⟩
 | .inr x,v,h=>by
  obtain ⟨t,e⟩:=Value.isStrOf_shape (x:=x) (v:=v) h
  exact .inr ⟨x,t,rfl,e⟩
theorem zhe (i:Int) (t:Tok):yeG (.inl i) (.int i t)=true:=by simp [yeG,Value.isInt]
theorem zhf (x:Str) (t:Tok):yeG (.inr x) (.str x t)=true:=by simp [yeG,Value.isStrOf]
theorem yeU (a b:Int):decide ((Sum.inl a:Key)=Sum.inl b)=(a == b):=by
 by_cases e:a=b
 ·subst e;simp
 ·have h : ¬ (Sum.inl a:Key)=Sum.inl b:=λq=>e (Sum.inl.inj q)
  rw [decide_eq_false h]
  exact (beq_eq_false_iff_ne.mpr e).symm
theorem yfV (a b:Str):decide ((Sum.inr a:Key)=Sum.inr b)=decide (a=b):=by
 by_cases e:a=b
 ·subst e;simp
 ·have h : ¬ (Sum.inr a:Key)=Sum.inr b:=λq=>e (Sum.inr.inj q)
  rw [decide_eq_false h,decide_eq_false e]
theorem yfx (a:Int) (b:Str):decide ((Sum.inl a:Key)=Sum.inr b)=false:=decide_eq_false (λq=>nomatch q)
theorem yfy (a:Str) (b:Int):decide ((Sum.inr a:Key)=Sum.inl b)=false:=decide_eq_false (λq=>nomatch q)
def ycp (prog:Program) (w:World):PySem.KeyKind prog w Key where
 is:=yeG
 hash:=keyH w
 inj:=λv a b ha hb=>by
  rcases zaA ha with ⟨i,t,rfl,rfl⟩ | ⟨x,t,rfl,rfl⟩
  ·rcases zaA hb with ⟨j,u,rfl,e⟩ | ⟨y,u,rfl,e⟩
   ·injection e with e1 _;rw [e1]
   ·exact nomatch e
  ·rcases zaA hb with ⟨j,u,rfl,e⟩ | ⟨y,u,rfl,e⟩
   ·exact nomatch e
   ·injection e with e1 _;rw [e1]
 byValue:=λk v h=>by
  rcases zaA h with ⟨i,t,rfl,rfl⟩ | ⟨x,t,rfl,rfl⟩<;>rfl
 pyHash:=λhv h=>by
  rcases zaA hv with ⟨i,t,rfl,rfl⟩ | ⟨x,t,rfl,rfl⟩
  ·exact wpAny_pyHash_int h
  ·exact wpAny_pyHash_str h
 eqBool:=λhu hv h=>by
  rcases zaA hu with ⟨i,t,rfl,rfl⟩ | ⟨x,t,rfl,rfl⟩
  ·rcases zaA hv with ⟨j,u,rfl,rfl⟩ | ⟨y,u,rfl,rfl⟩
   ·rw [yeU] at h;exact wpAny_eqBool_int h
   ·rw [yfx] at h;exact SeqAt.EqAt.int_str i t y u _ _ _ _ h
  ·rcases zaA hv with ⟨j,u,rfl,rfl⟩ | ⟨y,u,rfl,rfl⟩
   ·rw [yfy] at h;exact SeqAt.EqAt.str_int x t j u _ _ _ _ h
   ·rw [yfV] at h;exact wpAny_eqBool_str h
 «strs» := λk x t v h=>by
  rcases zaA h with ⟨i,u,rfl,e⟩ | ⟨y,u,rfl,e⟩
  ·exact nomatch e
  ·injection e with e1 _
   subst e1
   cases v<;>rfl
abbrev b01 (b:Bool):Int:=if b then 1 else 0
def ydE:Key->Value->Bool
 | .inl k,.bool b=>decide (k=b01 b)
 | .inl k,v=>Value.isInt k v
 | .inr x,v=>Value.isStrOf x v
theorem zau:∀ {k:Key} {v:Value},ydE k v=true->(∃ i t,k=Sum.inl i/\v=Value.int i t)\/(∃ b,k=Sum.inl (b01 b)/\v=Value.bool b)\/(∃ x t,k=Sum.inr x/\v=Value.str x t)
 | .inl i,v,h=>by
  cases v with
  | bool b=>exact .inr (.inl ⟨b,by rw [of_decide_eq_true (show decide (i=b01 b)=true from h)],rfl⟩)
  | int j t =>
   obtain ⟨t,e⟩:=Value.isInt_shape (k:=i) (v:=.int j t) h
   exact .inl ⟨i,t,rfl,e⟩
  | _=>exact absurd h (by simp [ydE,Value.isInt])
 | .inr x,v,h=>by
  obtain ⟨t,e⟩:=Value.isStrOf_shape (x:=x) (v:=v) h
  exact .inr (.inr ⟨x,t,rfl,e⟩)
theorem zcs {prog:Program} {w:World} {A:Around} {E:Value->Shared->Prop} {s:Shared} {b:Bool} {Q:Int->Shared->Prop} (h:Q (hashInt (b01 b)) { s with toks:=s.toks+1 }) :
  wpAny (model prog w) A (pyHash (.bool b)) Q E s:=by
 unfold pyHash
 unfold pyHashByItsType
 have hv:[Value.bool b].any Value.onHeap=false:=rfl
 refine wpAny_bind ?_
 rw [cRoomFor,if_neg (by rw [hv];exact Bool.false_ne_true)];refine wpAny_pure ?_
 refine wpAny_bind (wpAny_specialOf (PySem.typeIs_bool s b) PySem.F.slot_bool_hash.lookup ?_)
 show wpAny _ _ (if (some (Value.builtin "int.__hash__") == some Value.none)=true then _ else _) Q E s
 rw [if_neg (by rw [beq_builtin_none];exact Bool.false_ne_true)]
 refine wpAny_bind (wpAny_specialOf (PySem.typeIs_bool s b) PySem.F.slot_bool_hash.lookup ?_)
 show wpAny _ _ (callSpecialIfBoundUnlessNone? (.bool b) "__hash__" _ >>= _) Q E s
 cases b with
 | false =>
  refine wpAny_bind (wpAny_callSpecialIfBoundUnlessNone?_slot (PySem.typeIs_bool s false) PySem.F.slot_bool_hash
   (wpAny_call_entry PySem.F.slot_bool_hash (PySem.typeIs_bool s false) entry_int_hash
    (show wpAny _ _ (do ret (<- mkInt 0)) _ _ s from wpAny_ret_mkInt ?_) (args_int_hash _)))
  exact wpAny_pure h
 | true =>
  refine wpAny_bind (wpAny_callSpecialIfBoundUnlessNone?_slot (PySem.typeIs_bool s true) PySem.F.slot_bool_hash
   (wpAny_call_entry PySem.F.slot_bool_hash (PySem.typeIs_bool s true) entry_int_hash
    (show wpAny _ _ (do ret (<- mkInt 1)) _ _ s from wpAny_ret_mkInt ?_) (args_int_hash _)))
  exact wpAny_pure h
theorem zji (a b:Bool):(a == b)=decide ((Sum.inl (b01 a):Key)=Sum.inl (b01 b)):=by cases a<;>cases b<;>decide
def ybU (prog:Program) (w:World):PySem.KeyKind prog w Key where
 is:=ydE
 hash:=keyH w
 inj:=λv a b ha hb=>by
  rcases zau ha with ⟨i,t,rfl,rfl⟩ | ⟨c,rfl,rfl⟩ | ⟨x,t,rfl,rfl⟩
  ·rcases zau hb with ⟨j,u,rfl,e⟩ | ⟨d,rfl,e⟩ | ⟨y,u,rfl,e⟩
   ·injection e with e1 _;rw [e1]
   ·exact nomatch e
   ·exact nomatch e
  ·rcases zau hb with ⟨j,u,rfl,e⟩ | ⟨d,rfl,e⟩ | ⟨y,u,rfl,e⟩
   ·exact nomatch e
   ·injection e with e1;rw [e1]
   ·exact nomatch e
  ·rcases zau hb with ⟨j,u,rfl,e⟩ | ⟨d,rfl,e⟩ | ⟨y,u,rfl,e⟩
   ·exact nomatch e
   ·exact nomatch e
   ·injection e with e1 _;rw [e1]
 byValue:=λk v h=>by
  rcases zau h with ⟨i,t,rfl,rfl⟩ | ⟨c,rfl,rfl⟩ | ⟨x,t,rfl,rfl⟩<;>rfl
 pyHash:=λhv h=>by
  rcases zau hv with ⟨i,t,rfl,rfl⟩ | ⟨c,rfl,rfl⟩ | ⟨x,t,rfl,rfl⟩
  ·exact wpAny_pyHash_int h
  ·exact zcs h
  ·exact wpAny_pyHash_str h
 eqBool:=λhu hv h=>by
  rcases zau hu with ⟨i,t,rfl,rfl⟩ | ⟨c,rfl,rfl⟩ | ⟨x,t,rfl,rfl⟩
  ·rcases zau hv with ⟨j,u,rfl,rfl⟩ | ⟨d,rfl,rfl⟩ | ⟨y,u,rfl,rfl⟩
   ·rw [yeU] at h;exact wpAny_eqBool_int h
   ·rw [yeU] at h;exact SeqAt.EqAt.int_bool i t d _ _ _ _ h
   ·rw [yfx] at h;exact SeqAt.EqAt.int_str i t y u _ _ _ _ h
  ·rcases zau hv with ⟨j,u,rfl,rfl⟩ | ⟨d,rfl,rfl⟩ | ⟨y,u,rfl,rfl⟩
   ·rw [yeU] at h;exact SeqAt.EqAt.bool_int c j u _ _ _ _ h
   ·rw [<- zji] at h;exact SeqAt.EqAt.bool_bool c d _ _ _ _ h
   ·rw [yfx] at h;exact SeqAt.EqAt.bool_str c y u _ _ _ _ h
  ·rcases zau hv with ⟨j,u,rfl,rfl⟩ | ⟨d,rfl,rfl⟩ | ⟨y,u,rfl,rfl⟩
   ·rw [yfy] at h;exact SeqAt.EqAt.str_int x t j u _ _ _ _ h
   ·rw [yfy] at h;exact SeqAt.EqAt.str_bool x t d _ _ _ _ h
   ·rw [yfV] at h;exact wpAny_eqBool_str h
 «strs» := λk x t v h=>by
  rcases zau h with ⟨i,u,rfl,e⟩ | ⟨d,rfl,e⟩ | ⟨y,u,rfl,e⟩
  ·exact nomatch e
  ·exact nomatch e
  ·injection e with e1 _
   subst e1
   cases v<;>rfl
theorem zey (prog:Program) (w:World) (i:Int) (t:Tok):(ybU prog w).is (.inl i) (.int i t)=true:=by show ydE (.inl i) (.int i t)=true;simp [ydE,Value.isInt]
theorem zez (prog:Program) (w:World) (x:Str) (t:Tok):(ybU prog w).is (.inr x) (.str x t)=true:=by show ydE (.inr x) (.str x t)=true;simp [ydE,Value.isStrOf]
theorem zfm (prog:Program) (w:World) (i:Int) (t:Tok):(ycp prog w).is (.inl i) (.int i t)=true:=zhe i t
theorem zfn (prog:Program) (w:World) (x:Str) (t:Tok):(ycp prog w).is (.inr x) (.str x t)=true:=zhf x t
inductive V where
 | non | bl (b:Bool) | int (i:Int) | str (x:Str) | byt (b:Array UInt8) | flt (b:UInt64) | ref (a:Addr) | ty (n:String)
 deriving DecidableEq
def RelV:V->Value->Prop
 | .non,u=>u=Value.none
 | .bl b,u=>u=Value.bool b
 | .int i,u=>∃ t,u=Value.int i t
 | .str x,u=>∃ t,u=Value.str x t
 | .byt b,u=>∃ t,u=Value.bytes b t
 | .flt b,u=>∃ t,u=Value.float b t
 | .ref a,u=>u=Value.ref a
 | .ty n,u=>u=Value.type n
abbrev Vals:List V->List Value->Prop:=Paired RelV
theorem Vals.length {xs:List V} {us:List Value} (r:Vals xs us):xs.length=us.length:=Paired.length r
theorem Vals.get:∀ {xs:List V} {us:List Value} {i:Nat} {x:V},Vals xs us->xs[i]? = some x->∃ u,us[i]? = some u/\RelV x u
 | _,_,_,_,.nil,e=>by simp at e
 | _,_,0,_,.cons r _,e=>by simp at e;subst e;exact ⟨_,rfl,r⟩
 | _,_,i+1,x,.cons _ t,e=>by
  obtain ⟨u,h1,h2⟩:=Vals.get (i:=i) (x:=x) t (by simpa using e)
  exact ⟨u,by simpa using h1,h2⟩
theorem Vals.set {x:V} {u:Value} (r:RelV x u):∀ {xs:List V} {us:List Value} (i:Nat),Vals xs us->Vals (xs.set i x) (us.set i u)
 | _,_,_,.nil=>.nil
 | _,_,0,.cons _ t=>.cons r t
 | _,_,i+1,.cons q t=>.cons q (Vals.set r i t)
theorem Vals.append:∀ {xs ys:List V} {us ws:List Value},Vals xs us->Vals ys ws->Vals (xs++ys) (us++ws)
 | _,_,_,_,.nil,s=>s
 | _,_,_,_,.cons r t,s=>.cons r (Vals.append t s)
theorem Vals.take:∀ {xs:List V} {us:List Value} (n:Nat),Vals xs us->Vals (xs.take n) (us.take n)
 | _,_,0,_=>.nil
 | _,_,_+1,.nil=>.nil
 | _,_,n+1,.cons r t=>.cons r (Vals.take n t)
theorem Vals.drop:∀ {xs:List V} {us:List Value} (n:Nat),Vals xs us->Vals (xs.drop n) (us.drop n)
 | _,_,0,r=>r
 | _,_,_+1,.nil=>.nil
 | _,_,n+1,.cons _ t=>Vals.drop n t
def RelO:Option V->Option Value->Prop
 | some v,some u=>RelV v u
 | none,none=>True
 | _,_=>False
def KV {κ:Type}:List (κ×V)->List (κ×Value)->Prop:=Paired λ(p:κ×V) (q:κ×Value)=>p.1=q.1/\RelV p.2 q.2
def kV:Key->V
 | .inl i=>.int i
 | .inr x=>.str x
def kOf:V->Option Key
 | .int i=>some (.inl i)
 | .bl b=>some (.inl (b01 b))
 | .str x=>some (.inr x)
 | _=>none
theorem ygZ (k:Key):kOf (kV k)=some k:=by cases k<;>rfl
inductive HO where
 | lst (xs:List V)
 | tup (xs:List V)
 | dK (kvs:List (Key×V)) | dT (xc:Option (List Addr)) (kvs:List (List Key×V))
 | set (S:Int->Bool) (n:Nat)
 | ins (C dx:Addr) (fs:List (Str×V))
 | own (x:Addr)
 | xd (fs:List (Str×V))
 | met (f x:Addr)
 | rng (lo hi:Int)
 | frz (o:Obj) (u:HO)
 | tbl (ps:Array Value)
 | ext (φ:Heap->Prop)
abbrev Hp:=Addr->Option HO
def upd (H:Hp) (a:Addr) (o:HO):Hp:=λb=>if b=a then some o else H b
theorem zax {H:Hp} {a:Addr} {o:HO}:upd H a o a=some o:=by unfold upd;rw [if_pos rfl]
theorem yaF {H:Hp} {a b:Addr} {o:HO} (h:b≠a):upd H a o b=H b:=by unfold upd;rw [if_neg h]
theorem yip {H:Hp} {a b:Addr} {o u:HO} (h:H a=some o) (h':H b=some u) (d:o≠u):a≠b:=by
 intro e;subst e;rw [h] at h';exact d (Option.some.inj h')
theorem zaw {H:Hp} {a b:Addr} {o:HO} (h:H a=some o) (h':H b=none):a≠b:=by
 intro e;subst e;rw [h] at h';cases h'
section
variable (P:Program) (w:World)
def ObjOk (H:Hp) (h:Heap) (a:Addr):HO->Prop
 | .lst xs=>xs.length<=sizeLine/\∃ (its:List Value) (n:Nat),Vals xs its/\h.get? a=some { cls:=.type "list",data:=.seq its.toArray n }
 | .tup xs=>xs.length<=sizeLine/\∃ its:List Value,Vals xs its/\IsTup h a its.toArray
 | .dK kvs=>kvs.length<=sizeLine/\(a == sysModules)=false/\∃ vs,KV kvs vs/\h.DictOf (ycp P w) a vs
 | .dT xc kvs=>kvs.length<=sizeLine/\(a == sysModules)=false/\∃ xs:List (List Key×Addr×Value),
   Paired (λ(p:List Key×V) (q:List Key×Addr×Value)=>p.1=q.1/\(∃ ys,H q.2.1=some (.tup ys)/\ys.map kOf=p.1.map some)/\RelV p.2 q.2.2) kvs xs /\
   ∃ o es ep,h.get? a=some o/\o.ExactDict/\o.data = .dict es ep/\es.toList=xs.map (entryOfKey (tupleKind (ybU P w)))/\(xs.map (·.1)).Nodup/\ep=xs.length/\∀ as,xc=some as->xs.map (·.2.1)=as
 | .set S n=>h.SetOf (intKind P w) a S n
 | .ins C dx fs=>H dx=some (.own a)/\fs.length<=1000/\dx≠a/\h.get? a=some (PySem.W.instObj C dx) /\
   ∃ mA,h.Ns1 dx mA/\(∀ f,RelO (fs.lookup f) (mA f))/\PySem.Within mA (fs.map (·.1))
 | .own _=>∃ o,h.get? a=some o
 | .xd fs=>∃ mA,h.Ns1 a mA/\∀ f,RelO (fs.lookup f) (mA f)
 | .rng lo hi=>∃ t u v,h.get? a=some { cls:=.type "range",data:=.fields #[.int lo t,.int hi u,.int 1 v] }
 | .frz o u=>h.get? a=some o/\ObjOk H h a u
 | .tbl ps=>h.get? a=some { cls:=.none,data:=.fields ps }
 | .met f x=>h.get? a=some (PySem.W.methodObj (.ref f) (.ref x))
 | .ext φ=>φ h/\(∃ o,h.get? a=some o)/\∀ h1 h2:Heap,φ h1->(∀ o,h1.get? a=some o->h2.get? a=some o)->φ h2
def HOk (H:Hp) (h:Heap):Prop:=∀ a o,H a=some o->ObjOk P w H h a o
end
section
variable {P:Program} {w:World} {H H':Hp} {h h':Heap} {a:Addr} {o:HO}
theorem ObjOk.lt (x:ObjOk P w H h a o):a<h.objs.size:=by
 cases o with
 | lst xs=>obtain ⟨_,_,_,_,e⟩:=x;exact Heap.lt_size e
 | tup xs=>obtain ⟨_,_,_,p⟩:=x;exact p.lt
 | dK kvs=>obtain ⟨_,_,_,_,o,_,_,e,_⟩:=x;exact Heap.lt_size e
 | dT xc kvs=>obtain ⟨_,_,_,_,o,_,_,e,_⟩:=x;exact Heap.lt_size e
 | set S n=>obtain ⟨o,_,_,_,e,_⟩:=x;exact Heap.lt_size e
 | ins C dx fs=>obtain ⟨_,_,_,e,_⟩:=x;exact Heap.lt_size e
 | own y=>obtain ⟨_,e⟩:=x;exact Heap.lt_size e
 | xd fs=>obtain ⟨_,⟨_,_,_,e,_⟩,_⟩:=x;exact Heap.lt_size e
 | rng lo hi=>obtain ⟨_,_,_,e⟩:=x;exact Heap.lt_size e
 | frz ob u=>obtain ⟨e,_⟩:=x;exact Heap.lt_size e
 | tbl ps=>exact Heap.lt_size (show h.get? a=some _ from x)
 | met f y=>exact Heap.lt_size (show h.get? a=some _ from x)
 | ext φ=>obtain ⟨_,⟨_,e⟩,_⟩:=x;exact Heap.lt_size e
theorem Paired.mapP {α β:Type} {F G:α->β->Prop}:∀ {l₁:List α} {l₂:List β},Paired F l₁ l₂->(∀ a b,F a b->G a b)->Paired G l₁ l₂
 | _,_,.nil,_=>.nil
 | _,_,.cons r t,f=>.cons (f _ _ r) (Paired.mapP t f)
theorem ObjOk.stay (x:ObjOk P w H h a o) (k:∀ b u,(b=a\/H b=some (.own a))->h.get? b=some u->h'.get? b=some u)
  (ho:∀ b,H b=some (.own a)->H' b=some (.own a)) (ht:∀ b xs,H b=some (.tup xs)->H' b=some (.tup xs)):ObjOk P w H' h' a o:=by
 induction o with
 | lst xs=>obtain ⟨z,its,n,r,e⟩:=x;exact ⟨z,its,n,r,k _ _ (.inl rfl) e⟩
 | tup xs=>obtain ⟨z,its,r,ob,e,c⟩:=x;exact ⟨z,its,r,ob,k _ _ (.inl rfl) e,c⟩
 | dK kvs=>obtain ⟨z,y,vs,r,ob,es,ep,e,c⟩:=x;exact ⟨z,y,vs,r,ob,es,ep,k _ _ (.inl rfl) e,c⟩
 | dT xc kvs =>
  obtain ⟨z,y,xs,r,ob,es,ep,e,c⟩:=x
  exact ⟨z,y,xs,Paired.mapP r λp q z=>⟨z.1,z.2.1.imp λ_ e=>⟨ht _ _ e.1,e.2⟩,z.2.2⟩,ob,es,ep,k _ _ (.inl rfl) e,c⟩
 | set S n=>obtain ⟨ob,es,ep,t,e,c⟩:=x;exact ⟨ob,es,ep,t,k _ _ (.inl rfl) e,c⟩
 | ins C dx fs =>
  obtain ⟨d,z,ne,e,mA,⟨od,es,ep,e2,c⟩,r⟩:=x
  exact ⟨ho _ d,z,ne,k _ _ (.inl rfl) e,mA,⟨od,es,ep,k _ _ (.inr d) e2,c⟩,r⟩
 | own y=>obtain ⟨ob,e⟩:=x;exact ⟨ob,k _ _ (.inl rfl) e⟩
 | xd fs=>obtain ⟨mA,⟨od,es,ep,e,c⟩,r⟩:=x;exact ⟨mA,⟨od,es,ep,k _ _ (.inl rfl) e,c⟩,r⟩
 | rng lo hi=>obtain ⟨t,u,v,e⟩:=x;exact ⟨t,u,v,k _ _ (.inl rfl) e⟩
 | frz ob u ih=>obtain ⟨e,q⟩:=x;exact ⟨k _ _ (.inl rfl) e,ih q⟩
 | tbl ps =>
  have e:h.get? a=some { cls:=.none,data:=.fields ps }:=x
  show h'.get? a=some { cls:=.none,data:=.fields ps }
  exact k a _ (.inl rfl) e
 | met f y =>
  have e:h.get? a=some (PySem.W.methodObj (.ref f) (.ref y)):=x
  show h'.get? a=some (PySem.W.methodObj (.ref f) (.ref y))
  exact k a _ (.inl rfl) e
 | ext φ=>obtain ⟨p,⟨o,e⟩,st⟩:=x;exact ⟨st _ _ p λo q=>k _ _ (.inl rfl) q,⟨o,k _ _ (.inl rfl) e⟩,st⟩
theorem HOk.lt (x:HOk P w H h) (e:H a=some o):a<h.objs.size:=(x a o e).lt
theorem HOk.fresh (x:HOk P w H h) (e:h.objs.size<=a):H a=none:=by
 cases q:H a with
 | none=>rfl
 | some u=>exact absurd (Nat.lt_of_lt_of_le (x.lt q) e) (Nat.lt_irrefl _)
theorem HOk.kept (x:HOk P w H h) (k:∀ b u,h.get? b=some u->h'.get? b=some u):HOk P w H h' := λa o e =>
 (x a o e).stay (λb u _ q=>k b u q) (λ_ q=>q) λ_ _ q=>q
theorem HOk.laid (x:HOk P w H h) (k:∀ b u,h.get? b=some u->h'.get? b=some u) (hp:h.objs.size<=a) (new:ObjOk P w (upd H a o) h' a o):HOk P w (upd H a o) h' := λb u e=>by
 have hn:=x.fresh hp
 by_cases hb:b=a
 ·subst hb;rw [zax] at e;cases e;exact new
 ·rw [yaF hb] at e
  exact (x b u e).stay (λc v _ q=>k c v q) (λc q=>by rw [yaF (zaw q hn)];exact q) λc xs q=>by rw [yaF (zaw q hn)];exact q
end
def Rd (H:Hp) (a:Addr) (u:HO):Prop:=H a=some u\/∃ o,H a=some (.frz o u)
theorem Rd.ok {P:Program} {w:World} {H:Hp} {h:Heap} {a:Addr} {u:HO} (r:Rd H a u) (x:HOk P w H h):ObjOk P w H h a u:=by
 rcases r with r | ⟨o,r⟩
 ·exact x a u r
 ·obtain ⟨_,q⟩:=x a _ r
  exact q
def Mut:Option HO->Prop
 | some (.lst _)=>True
 | some (.dK _)=>True
 | some (.dT _ _)=>True
 | some (.set _ _)=>True
 | some (.ins _ _ _)=>True
 | some (.ext _)=>True
 | _=>False
section
variable {P:Program} {w:World} {H:Hp} {h h':Heap} {x e:Addr} {o':HO}
theorem HOk.write (ok:HOk P w H h) (mu:Mut (H x)) (he:e=x\/H e=some (.own x)) (k:∀ b u,b≠e->h.get? b=some u->h'.get? b=some u) (heo:∃ u,h'.get? e=some u)
  (new:ObjOk P w (upd H x o') h' x o'):HOk P w (upd H x o') h' := λb u q=>by
 have nown:∀ c y,H c=some (.own y)->c≠x:=λc y r z=>by subst z;rw [r] at mu;exact mu
 have ntup:∀ c xs,H c=some (.tup xs)->c≠x:=λc xs r z=>by subst z;rw [r] at mu;exact mu
 by_cases hb:b=x
 ·subst hb;rw [zax] at q;cases q;exact new
 ·rw [yaF hb] at q
  by_cases hbe:b=e
  ·have q':H b=some (.own x):=by
    rcases he with z | z
    ·exact absurd (hbe.trans z) hb
    ·rw [hbe];exact z
   rw [q] at q';cases q'
   obtain ⟨v,hv⟩:=heo
   exact ⟨v,by rw [hbe];exact hv⟩
  ·refine (ok b u q).stay (λc v hc r=>k c v ?_ r) (λc r=>by rw [yaF (nown c b r)];exact r) λc xs r=>by rw [yaF (ntup c xs r)];exact r
   rcases hc with rfl | hc
   ·exact hbe
   ·rintro rfl
    rcases he with z | z
    ·exact nown c b hc z
    ·rw [hc] at z;cases z;exact hb rfl
end
structure Un (fs ex:List Addr) (H H':Hp) (h h':Heap):Prop where
 keep:∀ b o,h.get? b=some o->H b=none->b∉fs->b∉ex->h'.get? b=some o
 slot:∀ b o,h.get? b=some o->H b=none->b∈fs->b∉ex->∃ sl,h'.get? b=some { o with slots:=sl }
 free:∀ b o,h.get? b=some o->H b=none->b∉ex->H' b=none
 there:∀ b o,h.get? b=some o->b∉ex->∃ o',h'.get? b=some o'
 tups:∀ b xs,H b=some (.tup xs)->H' b=some (.tup xs)
 frzs:∀ b o u,H b=some (.frz o u)->H' b=some (.frz o u)
 tbls:∀ b ps,H b=some (.tbl ps)->∃ more,H' b=some (.tbl (ps++more))
section
variable {fs fs' ex ex':List Addr} {H H1 H2:Hp} {h h1 h2 h':Heap} {a x e:Addr} {o:HO}
theorem Un.any (u:Un fs ex H H1 h h1) {b:Addr} {ob:Obj} (q:h.get? b=some ob) (n:H b=none) (hx:b∉ex):∃ sl,h1.get? b=some { ob with slots:=sl }:=by
 by_cases hb:b∈fs
 ·exact u.slot b ob q n hb hx
 ·exact ⟨ob.slots,u.keep b ob q n hb hx⟩
theorem Un.kept (k:∀ b u,h.get? b=some u->h'.get? b=some u):Un fs ex H H h h' :=
 ⟨λb ob q _ _ _=>k b ob q,λb ob q _ _ _=>⟨ob.slots,k b ob q⟩,λ_ _ _ n _=>n,λb ob q _=>⟨ob,k b ob q⟩,λ_ _ q=>q,λ_ _ _ q=>q,λ_ ps q=>⟨#[],by rw [q];simp⟩⟩
theorem Un.refl:Un fs ex H H h h:=Un.kept λ_ _ q=>q
theorem Un.laid (k:∀ b u,h.get? b=some u->h'.get? b=some u) (hp:h.objs.size<=a) (hn:H a=none):Un fs ex H (upd H a o) h h' where
 keep:=λb u q _ _ _=>k b u q
 slot:=λb u q _ _ _=>⟨u.slots,k b u q⟩
 free:=λb u q n _=>by rw [yaF (Nat.ne_of_lt (Nat.lt_of_lt_of_le (Heap.lt_size q) hp))];exact n
 there:=λb u q _=>⟨u,k b u q⟩
 tups:=λb xs q=>by rw [yaF (zaw q hn)];exact q
 frzs:=λb u xs q=>by rw [yaF (zaw q hn)];exact q
 tbls:=λb ps q=>⟨#[],by rw [yaF (zaw q hn),q];simp⟩
theorem Un.write (mu:Mut (H x)) (he:e=x\/H e=some (.own x)) (k:∀ b u,b≠e->h.get? b=some u->h'.get? b=some u) (heo:∃ u,h'.get? e=some u):Un fs ex H (upd H x o) h h' := by
 have hx:∀ b,H b=none->b≠x:=λb n z=>by subst z;rw [n] at mu;exact mu
 have hb:∀ b,H b=none->b≠e:=λb n z=>by
  subst z
  rcases he with r | r
  ·exact hx b n r
  ·rw [n] at r;cases r
 have hm:∀ b u,H b=some u -> ¬ Mut (some u)->b≠x:=λb u q nm z=>by subst z;rw [q] at mu;exact nm mu
 refine ⟨λb u q n _ _=>k b u (hb b n) q,λb u q n _ _=>⟨u.slots,k b u (hb b n) q⟩,λb u q n _=>by rw [yaF (hx b n)];exact n,λb u q _=>?_,
  λb xs q=>by rw [yaF (hm b _ q λz=>z)];exact q,λb u xs q=>by rw [yaF (hm b _ q λz=>z)];exact q,λb ps q=>⟨#[],by rw [yaF (hm b _ q λz=>z),q];simp⟩⟩
 by_cases hbe:b=e
 ·subst hbe;exact heo
 ·exact ⟨u,k b u hbe q⟩
end
def trk (h:Heap) (H:Hp):List Addr:=(List.range h.objs.size).filter λa=>(H a).isSome
def hidT (h:Heap) (H:Hp):Heap:=PySem.W.hideAll h (trk h H)
theorem zhg (h:Heap) (H:Hp):(hidT h H).objs.size=h.objs.size:=PySem.W.hideAll_size _ _
theorem zii {h:Heap} {H:Hp} {b:Addr} {o:Obj} (e:h.get? b=some o) (n:H b=none):(hidT h H).get? b=some o :=
 PySem.W.hideAll_get _ e λhm=>by
  have q:(H b).isSome=true:=(List.mem_filter.mp hm).2
  rw [n] at q;simp at q
theorem zjj {h:Heap} {H:Hp} {b:Addr} {o:Obj} (e:(hidT h H).get? b=some o):h.get? b=some o/\H b=none:=by
 have e':h.get? b=some o:=PySem.W.of_hideAll (trk h H) e
 refine ⟨e',?_⟩
 cases q:H b with
 | none=>rfl
 | some x =>
  have hm:b∈trk h H:=List.mem_filter.mpr ⟨List.mem_range.mpr (Heap.lt_size e'),by simp [q]⟩
  have z:(hidT h H).get? b=none:=PySem.W.hideAll_none (trk h H) hm
  rw [z] at e;cases e
structure Mod (K:PySem.W.Frag) (mg:Str->Option Value) (base:Heap):Prop where
 kin:K.In base
 glob:base.Ns mainGlobals mg
 blt:∃ mb,base.Ns builtinsNs mb/\∀ x:Str,x ≠ "__name__" -> mb x=bootBuiltins x
 nolimit:base.NoLimit
structure Cx where
 prog:Program
 w:World
 K:PySem.W.Frag
 mg:Str->Option Value
 base:Heap
 A:Around
 N:List Str
 s₀:Shared
 H₀:Hp
 env:Env
 outer:List Env
 stack:List Env
 ex:List Addr
 fn:Str->Bool
 calm:Bool
 pn:List (Addr×Obj)
 xe:Value->Shared->Prop
def frs (l:List Env):List Addr:=l.filterMap (·.frame)
abbrev Cx.fs (X:Cx):List Addr:=frs X.outer
def Vis (sc:Scope) (x:Str):Prop:=sc.names.lookup x=some .local\/sc.names.lookup x=some .cell\/sc.names.lookup x=some .free
def Loc (sc:Scope) (x:Str):Prop:=sc.names.lookup x=some .local\/sc.names.lookup x=some .cell
def Look (env:Env) (h:Heap) (m:Str->Option Value) (x:Str) (u:Value):Prop :=
 (env.kindOf x=some .local/\m x=some u)\/((env.kindOf x=some .cell\/env.kindOf x=some .free)/\∃ c,env.cells.lookup x=some c/\h.IsCell c (some u))
structure Cx.Ok (X:Cx):Prop where
 mod:Mod X.K X.mg X.base
 kind:X.env.scope.kind = .function
 glob:X.env.globals=mainGlobals
 blt:X.env.builtins=builtinsNs
 above:X.s₀.heap.objs.size<=X.env.locals
 inj:∀ x y c,X.env.cells.lookup x=some c->X.env.cells.lookup y=some c->x=y
 has:∀ x,(X.env.kindOf x=some .cell\/X.env.kindOf x=some .free)->∃ c,X.env.cells.lookup x=some c
 cab:∀ x c,X.fn x=true->X.env.cells.lookup x=some c->X.s₀.heap.objs.size<=c
 hd:X.calm=true->X.A.handled=none
 frames:X.A.frames=some X.stack
 stk:X.stack=X.outer\/(X.stack=X.env::X.outer/\X.env.frame=some X.env.locals)
 exf:∀ b∈X.ex,b≠X.env.locals/\∀ x c,X.env.cells.lookup x=some c->c≠b
 bs:∀ b o,X.base.get? b=some o->X.s₀.heap.get? b=some o/\X.H₀ b=none
 bsz:X.base.objs.size<=X.s₀.heap.objs.size
 noex:∀ b o,X.base.get? b=some o->b∉X.ex
 exfs:∀ b∈X.ex,b∉X.fs
 funs:X.s₀.heap.FunFrames X.base X.outer
 frf:∀ b∈X.fs,X.H₀ b=none
structure Inv (X:Cx) (pins:List (Addr×Obj)) (σ:List (Option V)) (H:Hp) (s:Shared):Prop where
 ok:X.Ok
 os:s.os=X.s₀.os
 bare:AllBare s.gens
 base:Un X.fs X.ex X.H₀ H X.s₀.heap s.heap
 loc:∃ m,s.heap.Ns X.env.locals m/\∀ (i:Nat) (x:Str) (v:V),X.N[i]? = some x->σ[i]? = some (some v)->Vis X.env.scope x->∃ u,RelV v u/\Look X.env s.heap m x u
 cell:∀ x c,X.env.cells.lookup x=some c->∃ v,s.heap.IsCell c v
 free:H X.env.locals=none
 freeC:∀ x c,X.env.cells.lookup x=some c->H c=none
 pin:∀ p∈X.pn++pins,s.heap.get? p.1=some p.2/\H p.1=none/\p.1≠X.env.locals/\p.1∉X.fs/\∀ v,p.2.data ≠ .cell v
 hok:HOk X.prog X.w H s.heap
 len:σ.length=X.N.length
section
variable {X:Cx} {pins:List (Addr×Obj)} {σ:List (Option V)} {H H':Hp} {s:Shared} {h':Heap}
theorem Cx.Ok.nofr (ok:X.Ok) {b:Addr} {o:Obj} (e:X.base.get? b=some o):b∉X.fs:=λhb=>by
 have:=(ok.funs.mem hb).1
 rw [e] at this;cases this
theorem Inv.bs (I:Inv X pins σ H s):∀ b o,X.base.get? b=some o->s.heap.get? b=some o/\H b=none:=λb o e =>
 ⟨I.base.keep b o (I.ok.bs b o e).1 (I.ok.bs b o e).2 (I.ok.nofr e) (I.ok.noex b o e),I.base.free b o (I.ok.bs b o e).1 (I.ok.bs b o e).2 (I.ok.noex b o e)⟩
theorem Inv.bk (I:Inv X pins σ H s):∀ b o,X.base.get? b=some o->s.heap.get? b=some o:=λb o e=>(I.bs b o e).1
theorem Inv.mod (I:Inv X pins σ H s):Mod X.K X.mg X.base:=I.ok.mod
theorem Inv.kIn (I:Inv X pins σ H s):X.K.In s.heap:=I.ok.mod.kin.keeps I.bk
theorem Inv.fr (I:Inv X pins σ H s):∃ m,Fr X.base X.env.locals s.heap m :=
 let ⟨m,hn,_⟩:=I.loc
 ⟨m,hn,I.bk,Nat.le_trans I.ok.bsz I.ok.above⟩
theorem Inv.lt (I:Inv X pins σ H s):X.env.locals<s.heap.objs.size:=let ⟨_,hn,_⟩:=I.loc;hn.lt
theorem Inv.sz (I:Inv X pins σ H s):X.s₀.heap.objs.size<=s.heap.objs.size:=Nat.le_trans I.ok.above (Nat.le_of_lt I.lt)
theorem Inv.nofs (I:Inv X pins σ H s) {a:Addr} (h:s.heap.objs.size<=a):a∉X.fs:=λhb=>by
 obtain ⟨_,o,ho,_⟩:=I.ok.funs.mem hb
 exact absurd (Nat.lt_of_lt_of_le (Heap.lt_size ho) (Nat.le_trans I.sz h)) (Nat.lt_irrefl _)
theorem Inv.cne (I:Inv X pins σ H s):∀ x c,X.env.cells.lookup x=some c->c≠X.env.locals:=λx c e z=>by
 obtain ⟨v,o,ho,hd⟩:=I.cell x c e
 obtain ⟨m,⟨o',es,ep,ho',hd',_⟩,_⟩:=I.loc
 rw [z,ho'] at ho;cases ho;rw [hd'] at hd;cases hd
theorem Inv.funs (I:Inv X pins σ H s):s.heap.FunFrames X.base X.outer:=by
 have all:∀ (l:List Env),(∀ b∈frs l,b∈X.fs)->X.s₀.heap.FunFrames X.base l->s.heap.FunFrames X.base l:=by
  intro l
  induction l with
  | nil=>intro _ _;trivial
  | cons env r ih =>
   intro hs hl
   obtain ⟨hk,⟨L,o,hf,hn,ho,hd⟩,hr⟩:=hl
   have hL:L∈X.fs:=hs L (by unfold frs;rw [List.filterMap_cons,hf];exact List.mem_cons_self)
   obtain ⟨sl,e⟩:=I.base.slot L o ho (I.ok.frf L hL) hL λz=>I.ok.exfs L z hL
   exact ⟨hk,⟨L,_,hf,hn,e,hd⟩,ih (λb hb=>hs b (by unfold frs;rw [List.filterMap_cons,hf];exact List.mem_cons_of_mem _ hb)) hr⟩
 exact all X.outer (λ_ hb=>hb) I.ok.funs
theorem Inv.stack (I:Inv X pins σ H s):s.heap.FunFrames X.base X.stack:=by
 rcases I.ok.stk with e | ⟨e,hf⟩
 ·rw [e];exact I.funs
 ·rw [e]
  obtain ⟨m,hn,_⟩:=I.loc
  refine .cons (by rw [I.ok.kind];decide) hf hn ?_ I.funs
  exact Heap.get?_none_of_le (Nat.le_trans I.ok.bsz I.ok.above)
theorem Inv.stkSub (I:Inv X pins σ H s):∀ b∈frs X.stack,b∈X.env.locals::X.fs:=λb hb=>by
 rcases I.ok.stk with e | ⟨e,hf⟩
 ·rw [e] at hb;exact List.mem_cons_of_mem _ hb
 ·rw [e] at hb
  unfold frs at hb
  rw [List.filterMap_cons,hf] at hb
  exact hb
theorem Inv.stkFree (I:Inv X pins σ H s):∀ b∈frs X.stack,H b=none:=λb hb=>by
 rcases List.mem_cons.mp (I.stkSub b hb) with e | hb
 ·rw [e];exact I.free
 ·obtain ⟨_,o,ho,_⟩:=I.ok.funs.mem hb
  exact I.base.free b o ho (I.ok.frf b hb) λz=>I.ok.exfs b z hb
theorem Inv.step {g':Array GenState} {t':Nat} {d':Drawn} {ch:List Addr} (I:Inv X pins σ H s)
  (hch:∀ b∈ch,(b∈X.ex\/X.s₀.heap.objs.size<=b)/\b≠X.env.locals/\(∀ x c,X.env.cells.lookup x=some c->c≠b)/\∀ p∈X.pn++pins,p.1≠b)
  (keep:∀ b o,b≠X.env.locals->b∉X.fs->b∉ch->s.heap.get? b=some o->H b=none->h'.get? b=some o)
  (slot:∀ b o,b≠X.env.locals->b∈X.fs->b∉ch->s.heap.get? b=some o->H b=none->∃ sl,h'.get? b=some { o with slots:=sl }) (free:∀ b o,b∉ch->s.heap.get? b=some o->H b=none->H' b=none)
  (there:∀ b o,b∉ch->s.heap.get? b=some o->∃ o',h'.get? b=some o')
  (tups:∀ b xs,H b=some (.tup xs)->H' b=some (.tup xs)) (frzs:∀ b o u,H b=some (.frz o u)->H' b=some (.frz o u)) (tbls:∀ b ps,H b=some (.tbl ps)->∃ more,H' b=some (.tbl (ps++more)))
  (ns:∀ m,s.heap.Ns X.env.locals m->h'.Ns X.env.locals m) (hok:HOk X.prog X.w H' h') (hg:AllBare g') :
  Inv X pins σ H' { s with heap:=h',gens:=g',drawn:=d',toks:=t' }:=by
 have neL:∀ b o,X.s₀.heap.get? b=some o->b≠X.env.locals:=λb o e=>Nat.ne_of_lt (Nat.lt_of_lt_of_le (Heap.lt_size e) I.ok.above)
 have neC:∀ b o,X.s₀.heap.get? b=some o->b∉X.ex->b∉ch:=λb o e hx hb=>by
  rcases (hch b hb).1 with z | z
  ·exact hx z
  ·exact absurd (Nat.lt_of_lt_of_le (Heap.lt_size e) z) (Nat.lt_irrefl _)
 have cellK:∀ x c,X.env.cells.lookup x=some c->∀ v,s.heap.IsCell c v->h'.IsCell c v:=λx c e v ⟨o,ho,hd⟩=>by
  have nch:c∉ch:=λz=>(hch c z).2.2.1 x c e rfl
  by_cases hc:c∈X.fs
  ·obtain ⟨sl,q⟩:=slot c o (I.cne x c e) hc nch ho (I.freeC x c e)
   exact ⟨_,q,hd⟩
  ·exact ⟨o,keep c o (I.cne x c e) hc nch ho (I.freeC x c e),hd⟩
 refine ⟨I.ok,I.os,hg,⟨λb o e n hb hx=>?_,λb o e n hb hx=>?_,λb o e n hx=>?_,λb o e hx=>?_,λb xs e=>tups b xs (I.base.tups b xs e),λb o xs e=>frzs b o xs (I.base.frzs b o xs e),λb ps e=>?_⟩,?_,λx c e=>?_,?_,λx c e=>?_,λp hp=>?_,hok,I.len⟩
 ·exact keep b o (neL b o e) hb (neC b o e hx) (I.base.keep b o e n hb hx) (I.base.free b o e n hx)
 ·obtain ⟨sl,e1⟩:=I.base.slot b o e n hb hx
  obtain ⟨sl',e2⟩:=slot b _ (neL b o e) hb (neC b o e hx) e1 (I.base.free b o e n hx)
  exact ⟨sl',e2⟩
 ·obtain ⟨o',e1⟩:=I.base.there b o e hx
  exact free b o' (neC b o e hx) e1 (I.base.free b o e n hx)
 ·obtain ⟨o',e1⟩:=I.base.there b o e hx
  exact there b o' (neC b o e hx) e1
 ·obtain ⟨m1,e1⟩:=I.base.tbls b ps e
  obtain ⟨m2,e2⟩:=tbls b _ e1
  exact ⟨m1++m2,by rw [e2,Array.append_assoc]⟩
 ·obtain ⟨m,hn,hl⟩:=I.loc
  refine ⟨m,ns m hn,λi x v e1 e2 e3=>?_⟩
  obtain ⟨u,r,l⟩:=hl i x v e1 e2 e3
  refine ⟨u,r,?_⟩
  rcases l with l | ⟨k,c,e,z⟩
  ·exact .inl l
  ·exact .inr ⟨k,c,e,cellK x c e _ z⟩
 ·obtain ⟨v,z⟩:=I.cell x c e
  exact ⟨v,cellK x c e v z⟩
 ·obtain ⟨m,⟨o,_,_,ho,_⟩,_⟩:=I.loc
  exact free _ o (λz=>(hch _ z).2.1 rfl) ho I.free
 ·obtain ⟨v,o,ho,hd⟩:=I.cell x c e
  exact free c o (λz=>(hch c z).2.2.1 x c e rfl) ho (I.freeC x c e)
 ·obtain ⟨e,n,ne,nf,d⟩:=I.pin p hp
  have nch:p.1∉ch:=λz=>(hch p.1 z).2.2.2 p hp rfl
  exact ⟨keep p.1 p.2 ne nf nch e n,free p.1 p.2 nch e n,ne,nf,d⟩
theorem Inv.un {t':Nat} (I:Inv X pins σ H s) (u:Un X.fs [] H H' s.heap h') (hok:HOk X.prog X.w H' h'):Inv X pins σ H' { s with heap:=h',toks:=t' }:=by
 obtain ⟨m,⟨o,es,ep,ho,r⟩,_⟩:=id I.loc
 obtain ⟨sl,hL⟩:=u.any ho I.free (by simp)
 exact I.step (g' := s.gens) (d' := s.drawn) (ch:=[]) (λ_ z=>nomatch z) (λb o _ hb _ e n=>u.keep b o e n hb (by simp)) (λb o _ hb _ e n=>u.slot b o e n hb (by simp)) (λb o _ e n=>u.free b o e n (by simp)) (λb o _ e=>u.there b o e (by simp)) u.tups u.frzs u.tbls (λm' hm=>by
  obtain ⟨o',es',ep',ho',r'⟩:=hm
  rw [ho] at ho';cases ho'
  exact ⟨_,es',ep',hL,r'⟩) hok I.bare
theorem Inv.call {g':Array GenState} {t':Nat} {d':Drawn} {ch:List Addr} (I:Inv X pins σ H s) (u:Un (frs X.stack) ch H H' s.heap h') (hok:HOk X.prog X.w H' h') (hg:AllBare g')
  (hch:∀ b∈ch,(b∈X.ex\/X.s₀.heap.objs.size<=b)/\b≠X.env.locals/\(∀ x c,X.env.cells.lookup x=some c->c≠b)/\∀ p∈X.pn++pins,p.1≠b) :
  Inv X pins σ H' { s with heap:=h',gens:=g',drawn:=d',toks:=t' }:=by
 obtain ⟨m,⟨o,es,ep,ho,r⟩,_⟩:=id I.loc
 obtain ⟨sl,hL⟩:=u.any ho I.free λz=>(hch _ z).2.1 rfl
 exact I.step (ch:=ch) hch (λb o hL hb hc e n=>u.keep b o e n (λz=>(List.mem_cons.mp (I.stkSub b z)).elim hL hb) hc) (λb o _ _ hc e n=>u.any e n hc) (λb o hc e n=>u.free b o e n hc) (λb o hc e=>u.there b o e hc) u.tups u.frzs u.tbls (λm' hm=>by
  obtain ⟨o',es',ep',ho',r'⟩:=hm
  rw [ho] at ho';cases ho'
  exact ⟨_,es',ep',hL,r'⟩) hok hg
theorem Inv.turned {t':Nat} {it:Addr} (I:Inv X pins σ H s) (k:∀ b o,b≠it->s.heap.get? b=some o->h'.get? b=some o) (hn:H it=none) (hL:it≠X.env.locals)
  (h1:it∈X.ex\/X.s₀.heap.objs.size<=it) (h2:∀ x c,X.env.cells.lookup x=some c->c≠it) (h3:∀ p∈X.pn++pins,p.1≠it):Inv X pins σ H { s with heap:=h',toks:=t' }:=by
 have nit:∀ b u,H b=some u->b≠it:=λb u e z=>by rw [z,hn] at e;cases e
 refine I.step (g' := s.gens) (d' := s.drawn) (ch:=[it]) (λb hb=>?_) (λb o _ _ hc e _=>k b o (λz=>hc (by simp [z])) e) (λb o _ _ hc e _=>⟨o.slots,k b o (λz=>hc (by simp [z])) e⟩) (λ_ _ _ _ n=>n)
  (λb o hc e=>⟨o,k b o (λz=>hc (by simp [z])) e⟩) (λ_ _ e=>e) (λ_ _ _ e=>e) (λb ps e=>⟨#[],by rw [e];simp⟩) (λm hm=>?_) (λb u e=>?_) I.bare
 ·have e:b=it:=by simpa using hb
  subst e
  exact ⟨h1,hL,h2,h3⟩
 ·obtain ⟨o,es,ep,ho,r⟩:=hm
  exact ⟨o,es,ep,k _ o (Ne.symm hL) ho,r⟩
 ·refine (I.hok b u e).stay (λc v hc q=>k c v ?_ q) (λ_ q=>q) λ_ _ q=>q
  rcases hc with z | z
  ·rw [z];exact nit b u e
  ·exact nit c _ z
theorem Inv.tok (I:Inv X pins σ H s) (t:Nat):Inv X pins σ H { s with toks:=t }:=I.un (h' := s.heap) (t' := t) Un.refl I.hok
theorem Inv.kept {t':Nat} (I:Inv X pins σ H s) (k:∀ b u,s.heap.get? b=some u->h'.get? b=some u):Inv X pins σ H { s with heap:=h',toks:=t' }:=I.un (Un.kept k) (I.hok.kept k)
theorem Inv.laid {a:Addr} {o:HO} {t':Nat} (I:Inv X pins σ H s) (k:∀ b u,s.heap.get? b=some u->h'.get? b=some u) (hp:s.heap.objs.size<=a) (new:ObjOk X.prog X.w (upd H a o) h' a o) :
  Inv X pins σ (upd H a o) { s with heap:=h',toks:=t' }:=I.un (Un.laid k hp (I.hok.fresh hp)) (I.hok.laid k hp new)
theorem Inv.write {x e:Addr} {o:HO} {t':Nat} (I:Inv X pins σ H s) (mu:Mut (H x)) (he:e=x\/H e=some (.own x)) (k:∀ b u,b≠e->s.heap.get? b=some u->h'.get? b=some u) (heo:∃ u,h'.get? e=some u)
  (new:ObjOk X.prog X.w (upd H x o) h' x o):Inv X pins σ (upd H x o) { s with heap:=h',toks:=t' }:=I.un (Un.write mu he k heo) (I.hok.write mu he k heo new)
theorem Inv.weak {σ':List (Option V)} (I:Inv X pins σ H s) (hl:σ'.length=σ.length) (w:∀ (i:Nat) v,σ'[i]? = some (some v)->σ[i]? = some (some v)):Inv X pins σ' H s :=
 ⟨I.ok,I.os,I.bare,I.base,let ⟨m,hn,hl'⟩:=I.loc;⟨m,hn,λi x v e1 e2 e3=>hl' i x v e1 (w i v e2) e3⟩,I.cell,I.free,I.freeC,I.pin,I.hok,hl.trans I.len⟩
theorem Inv.pins_of {pins':List (Addr×Obj)} (I:Inv X pins σ H s) (h:∀ p∈pins',s.heap.get? p.1=some p.2/\H p.1=none/\p.1≠X.env.locals/\p.1∉X.fs/\∀ v,p.2.data ≠ .cell v):Inv X pins' σ H s :=
 ⟨I.ok,I.os,I.bare,I.base,I.loc,I.cell,I.free,I.freeC,λp hp=>(List.mem_append.mp hp).elim (λz=>I.pin p (List.mem_append_left _ z)) (h p),I.hok,I.len⟩
theorem zcH {N:List Str} (hN:N.Nodup) {i j:Nat} {x:Str} (a:N[i]? = some x) (b:N[j]? = some x):i=j:=by
 obtain ⟨h1,e1⟩:=List.getElem?_eq_some_iff.mp a
 obtain ⟨h2,e2⟩:=List.getElem?_eq_some_iff.mp b
 exact (List.getElem_inj hN).mp (e1.trans e2.symm)
theorem zdV {M:Model} {A:Around} {E:Value->Shared->Prop} {i:Nat} {x:Str} {v:V} {u:Value} {Q:Unit->Shared->Prop} (I:Inv X pins σ H s) (hN:X.N.Nodup) (hi:X.N[i]? = some x) (hx:Loc X.env.scope x) (r:RelV v u)
  (h:∀ s',Inv X pins (σ.set i (some v)) H s'->(∃ a,Heap.SameBut a s.heap s'.heap/\(a=X.env.locals\/X.env.cells.lookup x=some a))->Q () s') (hf:X.fn x=true\/X.env.scope.names.lookup x=some .local:=by first | exact .inl rfl | exact .inr rfl | assumption):wpAny M A (storeName X.env x u) Q E s:=by
 obtain ⟨m,hn,hl⟩:=id I.loc
 have hcls:(X.env.scope.kind == .class || (X.env.scope.kind == .module && X.env.locals != X.env.globals))=false:=by rw [I.ok.kind];rfl
 have hiσ:i<σ.length:=by rw [I.len];exact (List.getElem?_eq_some_iff.mp hi).1
 have cne:=I.cne
 have tracked:∀ {a:Addr} {h':Heap},(∃ o,s.heap.get? a=some o/\H a=none)->Heap.SameBut a s.heap h'->HOk X.prog X.w H h' := λ{a h'} ha hs b ob e=>by
  obtain ⟨_,_,hfree⟩:=ha
  refine (I.hok b ob e).stay (λc w' hc q=>(hs.2 c ?_).trans q) (λ_ q=>q) λ_ _ q=>q
  rintro rfl
  rcases hc with rfl | hc
  ·rw [hfree] at e;cases e
  ·rw [hfree] at hc;cases hc
 rcases hx with hk | hk
 ·refine wpAny_storeName_local hk hn (λh' hn' hs=>?_) hcls
  obtain ⟨oL,_,_,hoL,_⟩:=id hn
  refine h _ ⟨I.ok,I.os,I.bare,⟨λb o e n hb hx=>?_,λb o e n hb hx=>?_,I.base.free,λb o e hx=>?_,I.base.tups,I.base.frzs,I.base.tbls⟩,⟨_,hn',λj y v' e1 e2 e3=>?_⟩,λy c e=>?_,I.free,I.freeC,λp hp=>?_,tracked ⟨oL,hoL,I.free⟩ hs,by simpa using I.len⟩ ⟨_,hs,.inl rfl⟩
  ·exact (hs.2 b (Nat.ne_of_lt (Nat.lt_of_lt_of_le (Heap.lt_size e) I.ok.above))).trans (I.base.keep b o e n hb hx)
  ·obtain ⟨sl,e1⟩:=I.base.slot b o e n hb hx
   exact ⟨sl,(hs.2 b (Nat.ne_of_lt (Nat.lt_of_lt_of_le (Heap.lt_size e) I.ok.above))).trans e1⟩
  ·obtain ⟨o',e1⟩:=I.base.there b o e hx
   exact ⟨o',(hs.2 b (Nat.ne_of_lt (Nat.lt_of_lt_of_le (Heap.lt_size e) I.ok.above))).trans e1⟩
  ·by_cases hj:j=i
   ·subst hj
    rw [hi] at e1;cases e1
    rw [List.getElem?_set_self hiσ] at e2
    cases e2
    exact ⟨u,r,.inl ⟨hk,by simp⟩⟩
   ·rw [List.getElem?_set_ne (Ne.symm hj)] at e2
    obtain ⟨u',r',q⟩:=hl j y v' e1 e2 e3
    refine ⟨u',r',?_⟩
    rcases q with ⟨k,e⟩ | ⟨k,c,e,z⟩
    ·refine .inl ⟨k,?_⟩
     have:y≠x:=λe=>hj (zcH hN e1 (e▸hi))
     simp [this,e]
    ·exact .inr ⟨k,c,e,z.sameBut hs (cne y c e)⟩
  ·obtain ⟨w',z⟩:=I.cell y c e
   exact ⟨w',z.sameBut hs (cne y c e)⟩
  ·obtain ⟨e,n,ne,nf,d⟩:=I.pin p hp
   exact ⟨(hs.2 p.1 ne).trans e,n,ne,nf,d⟩
 ·have hfn:X.fn x=true:=by
   rcases hf with z | z
   ·exact z
   ·rw [z] at hk;cases hk
  obtain ⟨c,hc⟩:=I.ok.has x (.inl hk)
  obtain ⟨w',z⟩:=I.cell x c hc
  refine wpAny_storeName_cell I.ok.kind hk hc z (λh' hc' hs=>?_)
  obtain ⟨oc,hoc,hocd⟩:=id z
  refine h { s with heap:=h' } ⟨I.ok,I.os,I.bare,⟨λb o e n hb hx=>?_,λb o e n hb hx=>?_,I.base.free,λb o e hx=>?_,I.base.tups,I.base.frzs,I.base.tbls⟩,⟨m,hn.sameBut hs (Ne.symm (cne x c hc)),λj y v' e1 e2 e3=>?_⟩,λy c' e=>?_,I.free,I.freeC,λp hp=>?_,tracked ⟨oc,hoc,I.freeC x c hc⟩ hs,by simpa using I.len⟩ ⟨c,hs,.inr hc⟩
  ·exact (hs.2 b (Nat.ne_of_lt (Nat.lt_of_lt_of_le (Heap.lt_size e) (I.ok.cab x c hfn hc)))).trans (I.base.keep b o e n hb hx)
  ·obtain ⟨sl,e1⟩:=I.base.slot b o e n hb hx
   exact ⟨sl,(hs.2 b (Nat.ne_of_lt (Nat.lt_of_lt_of_le (Heap.lt_size e) (I.ok.cab x c hfn hc)))).trans e1⟩
  ·obtain ⟨o',e1⟩:=I.base.there b o e hx
   exact ⟨o',(hs.2 b (Nat.ne_of_lt (Nat.lt_of_lt_of_le (Heap.lt_size e) (I.ok.cab x c hfn hc)))).trans e1⟩
  ·by_cases hj:j=i
   ·subst hj
    rw [hi] at e1;cases e1
    rw [List.getElem?_set_self hiσ] at e2
    cases e2
    exact ⟨u,r,.inr ⟨.inl hk,c,hc,hc'⟩⟩
   ·rw [List.getElem?_set_ne (Ne.symm hj)] at e2
    obtain ⟨u',r',q⟩:=hl j y v' e1 e2 e3
    refine ⟨u',r',?_⟩
    rcases q with q | ⟨k,c',e,z'⟩
    ·exact .inl q
    ·refine .inr ⟨k,c',e,z'.sameBut hs ?_⟩
     rintro rfl
     exact hj (zcH hN e1 (I.ok.inj _ _ _ e hc▸hi))
  ·by_cases hcc:c'=c
   ·subst hcc;exact ⟨_,hc'⟩
   ·obtain ⟨w2,z2⟩:=I.cell y c' e
    exact ⟨w2,z2.sameBut hs hcc⟩
  ·obtain ⟨e,n,ne,nf,d⟩:=I.pin p hp
   refine ⟨(hs.2 p.1 ?_).trans e,n,ne,nf,d⟩
   intro q
   rw [q,hoc] at e
   have q':oc=p.2:=Option.some.inj e
   exact d w' (by rw [<- q'];exact hocd)
theorem zeA {M:Model} {A:Around} {E:Value->Shared->Prop} {i:Nat} {x:Str} {v:V} {u:Value} {Q:Unit->Shared->Prop} (I:Inv X pins σ H s) (hN:X.N.Nodup) (hi:X.N[i]? = some x) (hx:Loc X.env.scope x) (r:RelV v u)
  (h:∀ s',Inv X pins (σ.set i (some v)) H s'->Q () s') (hf:X.fn x=true\/X.env.scope.names.lookup x=some .local:=by first | exact .inl rfl | exact .inr rfl | assumption):wpAny M A (storeName X.env x u) Q E s :=
 zdV I hN hi hx r (λs' I' _=>h s' I') hf
theorem Inv.call' {s':Shared} {ch:List Addr} (I:Inv X pins σ H s) (ho:s'.os=s.os) (u:Un (frs X.stack) ch H H' s.heap s'.heap) (hok:HOk X.prog X.w H' s'.heap) (hg:AllBare s'.gens)
  (hch:∀ b∈ch,(b∈X.ex\/X.s₀.heap.objs.size<=b)/\b≠X.env.locals/\(∀ x c,X.env.cells.lookup x=some c->c≠b)/\∀ p∈X.pn++pins,p.1≠b):Inv X pins σ H' s' := by
 obtain ⟨h',g',d',t',o'⟩:=s'
 have e:o'=s.os:=ho
 subst e
 exact I.call (g' := g') (t' := t') (d' := d') u hok hg hch
end
abbrev XK:=Value->Option Addr->Hp->Prop
abbrev St:=List (Option V)
abbrev VK:=V->Hp->Prop
abbrev TE:=St->Hp->VK->Prop
abbrev TT:=St->Hp->(Bool->Hp->Prop)->Prop
abbrev TA:=St->Hp->(List V->Hp->Prop)->Prop
structure Ends where
 nx:St->Hp->Prop
 rt:VK
 bk:St->Hp->Prop:=λ_ _=>False
 ct:St->Hp->Prop:=λ_ _=>False
abbrev TS:=Ends->St->Hp->Prop
def EP (X:Cx) (pins:List (Addr×Obj)) (σ:St) (Q:VK) (u:Value) (s':Shared):Prop:=∃ v H',Inv X pins σ H' s'/\RelV v u/\Q v H'
def TP (X:Cx) (pins:List (Addr×Obj)) (σ:St) (Q:Bool->Hp->Prop) (b:Bool) (s':Shared):Prop:=∃ H',Inv X pins σ H' s'/\Q b H'
def AP (X:Cx) (pins:List (Addr×Obj)) (σ:St) (Q:List V->Hp->Prop) (us:List Value) (s':Shared):Prop:=∃ vs H',Inv X pins σ H' s'/\Vals vs us/\Q vs H'
def SP (X:Cx) (pins:List (Addr×Obj)) (D:Ends) (f:Flow) (s':Shared):Prop :=
 match f with
 | .next=>∃ σ' H',Inv X pins σ' H' s'/\D.nx σ' H'
 | .brk=>∃ σ' H',Inv X pins σ' H' s'/\D.bk σ' H'
 | .cont=>∃ σ' H',Inv X pins σ' H' s'/\D.ct σ' H'
 | .ret u=>∃ v σ' H',Inv X pins σ' H' s'/\RelV v u/\D.rt v H'
def PE (X:Cx) (e:Expr) (t:TE):Prop :=
 ∀ (pins:List (Addr×Obj)) (s:Shared) (σ:St) (H:Hp) (Q:VK),Inv X pins σ H s->t σ H Q->wpAny (model X.prog X.w) X.A (eval e X.env) (EP X pins σ Q) X.xe s
def PT (X:Cx) (e:Expr) (t:TT):Prop :=
 ∀ (pins:List (Addr×Obj)) (s:Shared) (σ:St) (H:Hp) (Q:Bool->Hp->Prop),Inv X pins σ H s->t σ H Q->wpAny (model X.prog X.w) X.A (isTrue e X.env (eval e X.env)) (TP X pins σ Q) X.xe s
def PW (X:Cx) (e:Expr) (t:TT):Prop :=
 ∀ (whole:Sem Value) (pins:List (Addr×Obj)) (s:Shared) (σ:St) (H:Hp) (Q:Bool->Hp->Prop),Inv X pins σ H s->t σ H Q->wpAny (model X.prog X.w) X.A (isTrue e X.env whole) (TP X pins σ Q) X.xe s
theorem PW.pt {X:Cx} {e:Expr} {t:TT} (h:PW X e t):PT X e t:=h _
def PA (X:Cx) (es:List Expr) (t:TA):Prop :=
 ∀ (pos:Pos) (pins:List (Addr×Obj)) (s:Shared) (σ:St) (H:Hp) (Q:List V->Hp->Prop),Inv X pins σ H s->t σ H Q->wpAny (model X.prog X.w) X.A (spliced (backTo pos (starEach es X.env))) (AP X pins σ Q) X.xe s
def PS (X:Cx) (st:Stmt) (t:TS):Prop :=
 ∀ (pins:List (Addr×Obj)) (s:Shared) (σ:St) (H:Hp) (D:Ends),Inv X pins σ H s->t D σ H->wpAny (model X.prog X.w) X.A (exec st X.env) (SP X pins D) X.xe s
def PSs (X:Cx) (st:List Stmt) (t:TS):Prop :=
 ∀ (pins:List (Addr×Obj)) (s:Shared) (σ:St) (H:Hp) (D:Ends),Inv X pins σ H s->t D σ H->wpAny (model X.prog X.w) X.A (execs st X.env) (SP X pins D) X.xe s
theorem thn {α:Type} {t:Sem α} {Q Q':α->Shared->Prop} {M:Model} {A:Around} {E:Value->Shared->Prop} {s:Shared} (h:wpAny M A t Q E s) (hQ:∀ a s,Q a s->Q' a s):wpAny M A t Q' E s:=wpAny_mono h hQ λ_ _ x=>x
section
variable {X:Cx}
theorem bin {a b:Expr} {ta tb:TE} (ha:PE X a ta) (hb:PE X b tb) {pins:List (Addr×Obj)} {s:Shared} {σ:St} {H:Hp} {R:V->V->Hp->Prop} (I:Inv X pins σ H s) (h:ta σ H λx H1=>tb σ H1 λy H2=>R x y H2)
  {α:Type} {Q:α->Shared->Prop} {f:Value->Value->Sem α}
  (hf:∀ v u s2 x y H2,Inv X pins σ H2 s2->RelV x v->RelV y u->R x y H2->wpAny (model X.prog X.w) X.A (f v u) Q X.xe s2) :
  wpAny (model X.prog X.w) X.A (eval a X.env) (λv s₁=>wpAny (model X.prog X.w) X.A (eval b X.env) (λu s₂=>wpAny (model X.prog X.w) X.A (f v u) Q X.xe s₂) X.xe s₁) X.xe s:=by
 refine thn (ha pins s σ H _ I h) λv s1 Zz=>?_;obtain ⟨x,H1,I1,r1,q1⟩:=Zz
 refine thn (hb pins s1 σ H1 _ I1 q1) λu s2 Zz=>?_;obtain ⟨y,H2,I2,r2,q2⟩:=Zz
 exact hf v u s2 x y H2 I2 r1 r2 q2
def tVar (i:Nat):TE:=λσ H Q=>∃ v,σ[i]? = some (some v)/\Q v H
def tC (v:V):TE:=λ_ H Q=>Q v H
theorem yg0 {i:Nat} {x:Str} {pos:Pos} (hN:X.N[i]? = some x) (hv:Vis X.env.scope x) (hd:(x == ("__debug__" : Str))=false:=by decide) (hcd:(x == ("__classdict__" : Str))=false:=by decide):PE X (.Name x pos) (tVar i):=by
 intro pins s σ H Q I h
 obtain ⟨v,e,h⟩:=h
 obtain ⟨m,hn,hl⟩:=I.loc
 obtain ⟨u,r,l⟩:=hl i x v hN e hv
 have fin:EP X pins σ Q u s:=⟨v,H,I,r,h⟩
 rcases l with ⟨hk,hm⟩ | ⟨hk,c,hc,hcell⟩
 ·exact wpAny_Name (wpAny_loadName_local I.ok.kind hk hn hm fin) hd
 ·rcases hk with hk | hk
  ·exact wpAny_Name (wpAny_loadName_cell I.ok.kind hk hc hcell fin) hd
  ·exact wpAny_Name (wpAny_loadName_free I.ok.kind hk hc hcell fin hcd) hd
theorem yg1 {i j pos}:PE X (.Constant (.int i) j pos) (tC (.int i)):=λ_ _ _ H _ I h=>wpAny_Constant_int ⟨.int i,H,I.tok _,⟨_,rfl⟩,h⟩
theorem yiq {b j pos}:PE X (.Constant (.bool b) j pos) (tC (.bl b)):=λ_ _ _ H _ I h=>Constant_bool ⟨.bl b,H,I,rfl,h⟩
theorem yg2 {j pos}:PE X (.Constant .none j pos) (tC .non):=λ_ _ _ H _ I h=>Constant_none ⟨.non,H,I,rfl,h⟩
theorem yg3 {x j pos}:PE X (.Constant (.str x) j pos) (tC (.str x)):=λ_ _ _ H _ I h=>Calls.Constant_str ⟨.str x,H,I.tok _,⟨_,rfl⟩,h⟩
def Gl (X:Cx) (x:Str):Prop:=X.env.kindOf x=some .globalImplicit
theorem zdq {E:Value->Shared->Prop} {pins:List (Addr×Obj)} {s:Shared} {σ:St} {H:Hp} {x:Str} {u:Value} {pos:Pos} {Q:Value->Shared->Prop} (I:Inv X pins σ H s) (hg:Gl X x) (hm:X.mg x=some u) (h:Q u s)
  (hd:(x == ("__debug__" : Str))=false:=by decide):wpAny (model X.prog X.w) X.A (eval (.Name x pos) X.env) Q E s :=
 Calls.Name_function_global I.ok.kind hg (Calls.loadGlobal_global (by rw [I.ok.glob];exact I.mod.glob.keeps I.bk) hm h) hd
theorem yd7 {E:Value->Shared->Prop} {pins:List (Addr×Obj)} {s:Shared} {σ:St} {H:Hp} {x:Str} {u:Value} {pos:Pos} {Q:Value->Shared->Prop} (I:Inv X pins σ H s) (hg:Gl X x) (hm:X.mg x=none) (hv:bootBuiltins x=some u) (h:Q u s)
  (hn:x ≠ "__name__" := by decide) (hd:(x == ("__debug__" : Str))=false:=by decide):wpAny (model X.prog X.w) X.A (eval (.Name x pos) X.env) Q E s:=by
 obtain ⟨mb,h1,h2⟩:=I.mod.blt
 exact Calls.Name_function_global I.ok.kind hg (Calls.loadGlobal_builtin (by rw [I.ok.glob];exact I.mod.glob.keeps I.bk) hm (by rw [I.ok.blt];exact h1.keeps I.bk) ((h2 x hn).trans hv) h) hd
theorem zjk {x:Str} {v:V} {u:Value} {pos:Pos} (hg:Gl X x) (hm:X.mg x=some u) (r:RelV v u) (hd:(x == ("__debug__" : Str))=false:=by decide):PE X (.Name x pos) (tC v) :=
 λ_ _ _ H _ I h=>zdq I hg hm ⟨v,H,I,r,h⟩ hd
theorem zjl {x:Str} {v:V} {u:Value} {pos:Pos} (hg:Gl X x) (hm:X.mg x=none) (hv:bootBuiltins x=some u) (r:RelV v u) (hn:x ≠ "__name__" := by decide) (hd:(x == ("__debug__" : Str))=false:=by decide):PE X (.Name x pos) (tC v) :=
 λ_ _ _ H _ I h=>yd7 I hg hm hv ⟨v,H,I,r,h⟩ hn hd
variable {a b:Expr} {ta tb:TE} {pos:Pos}
variable {tA tB':TT} {rest:List Expr}
def tAnd (t u:TT):TT:=λσ H Q=>t σ H λc H1=>if c=true then u σ H1 Q else Q false H1
def tOr (t u:TT):TT:=λσ H Q=>t σ H λc H1=>if c=true then Q true H1 else u σ H1 Q
def tNot (t:TT):TT:=λσ H Q=>t σ H λc H1=>Q (!c) H1
theorem zjm (ha:PT X a tA):PW X (.BoolOp .And [a] pos) tA:=by
 intro wh pins s σ H Q I h
 refine isTrue_and (thn (ha pins s σ H Q I h) λc s1 e=>?_)
 cases c with
 | true=>exact isTrue_and_nil e
 | false=>exact e
theorem yg4 (ha:PT X a tA):PW X (.BoolOp .Or [a] pos) tA:=by
 intro wh pins s σ H Q I h
 refine isTrue_or (thn (ha pins s σ H Q I h) λc s1 e=>?_)
 cases c with
 | false=>exact isTrue_or_nil e
 | true=>exact e
theorem yg5 (ha:PT X a tA) (hb:PW X (.BoolOp .And (b::rest) pos) tB'):PW X (.BoolOp .And (a::b::rest) pos) (tAnd tA tB'):=by
 intro wh pins s σ H Q I h
 refine isTrue_and (thn (ha pins s σ H _ I h) λc s1 Zz=>?_);obtain ⟨H1,I1,q1⟩:=Zz
 cases c with
 | true=>exact hb wh pins s1 σ H1 Q I1 q1
 | false=>exact ⟨H1,I1,q1⟩
theorem yir (ha:PT X a tA) (hb:PW X (.BoolOp .Or (b::rest) pos) tB'):PW X (.BoolOp .Or (a::b::rest) pos) (tOr tA tB'):=by
 intro wh pins s σ H Q I h
 refine isTrue_or (thn (ha pins s σ H _ I h) λc s1 Zz=>?_);obtain ⟨H1,I1,q1⟩:=Zz
 cases c with
 | true=>exact ⟨H1,I1,q1⟩
 | false=>exact hb wh pins s1 σ H1 Q I1 q1
theorem yg6 (ha:PT X a tA):PT X (.UnaryOp .Not a pos) (tNot tA):=by
 intro pins s σ H Q I h
 exact isTrue_not (ha pins s σ H (λc H1=>Q (!c) H1) I h)
def yis (ta tb:TE):TE:=λσ H Q=>ta σ H λx H1=>∃ c,x = .bl c/\if c=true then tb σ H1 Q else Q (.bl false) H1
def tOrV (ta tb:TE):TE:=λσ H Q=>ta σ H λx H1=>∃ c,x = .bl c/\if c=true then Q (.bl true) H1 else tb σ H1 Q
def yit (ta:TE):TE:=λσ H Q=>ta σ H λx H1=>∃ c,x = .bl c/\Q (.bl (!c)) H1
theorem yg7 {op} {t:TE} (h:PE X a t):PE X (.BoolOp op [a] pos) t:=λpins s σ H Q I hw=>BoolOp_one (h pins s σ H Q I hw)
theorem yg8 (ha:PE X a ta) (hb:PE X (.BoolOp .And (b::rest) pos) tb):PE X (.BoolOp .And (a::b::rest) pos) (yis ta tb):=by
 intro pins s σ H Q I h
 refine BoolOp_and (thn (ha pins s σ H _ I h) λv s1 Zz=>?_);obtain ⟨x,H1,I1,r1,q1⟩:=Zz
 obtain ⟨c,rfl,q1⟩:=q1
 cases r1
 refine wpAny_truthy_bool ?_
 cases c with
 | true=>exact hb pins s1 σ H1 Q I1 q1
 | false=>exact ⟨.bl false,H1,I1,rfl,q1⟩
theorem yiu (ha:PE X a ta) (hb:PE X (.BoolOp .Or (b::rest) pos) tb):PE X (.BoolOp .Or (a::b::rest) pos) (tOrV ta tb):=by
 intro pins s σ H Q I h
 refine BoolOp_or (thn (ha pins s σ H _ I h) λv s1 Zz=>?_);obtain ⟨x,H1,I1,r1,q1⟩:=Zz
 obtain ⟨c,rfl,q1⟩:=q1
 cases r1
 refine wpAny_truthy_bool ?_
 cases c with
 | false=>exact hb pins s1 σ H1 Q I1 q1
 | true=>exact ⟨.bl true,H1,I1,rfl,q1⟩
theorem yg9 (ha:PE X a ta):PE X (.UnaryOp .Not a pos) (yit ta):=by
 intro pins s σ H Q I h
 refine UnaryOp_ (thn (ha pins s σ H _ I h) λv s1 Zz=>?_);obtain ⟨x,H1,I1,r1,q1⟩:=Zz
 obtain ⟨c,rfl,q1⟩:=q1
 cases r1
 exact not_of (wpAny_truthy_bool ⟨.bl (!c),H1,I1,rfl,q1⟩)
end
def SqL (K:PySem.W.Frag) (H:Hp) (a:Addr) (xs:List V):Prop :=
 Rd H a (.lst xs) \/
  ∃ (o:Obj) (its:Array Value) (n:Nat),K.lookup a=some o/\o.cls = .type "list" /\ o.dict=none/\o.data = .seq its n/\its.size<=sizeLine/\Vals xs its.toList
def SqT (K:PySem.W.Frag) (H:Hp) (a:Addr) (xs:List V):Prop :=
 Rd H a (.tup xs) \/
  ∃ (o:Obj) (its:Array Value) (n:Nat),K.lookup a=some o/\o.cls = .type "tuple" /\ o.data = .seq its n/\its.size<=sizeLine/\Vals xs its.toList
def absV:Value->Option V
 | .none=>some .non
 | .bool b=>some (.bl b)
 | .int i _=>some (.int i)
 | .str x _=>some (.str x)
 | .bytes b _=>some (.byt b)
 | .float b _=>some (.flt b)
 | .ref a=>some (.ref a)
 | .type n=>some (.ty n)
 | _=>none
theorem RelV.abs {x:V} {u:Value} (r:RelV x u):absV u=some x:=by
 cases x with
 | non=>cases r;rfl
 | bl _=>cases r;rfl
 | int _=>obtain ⟨t,rfl⟩:=r;rfl
 | str _=>obtain ⟨t,rfl⟩:=r;rfl
 | byt _=>obtain ⟨t,rfl⟩:=r;rfl
 | flt _=>obtain ⟨t,rfl⟩:=r;rfl
 | ref _=>cases r;rfl
 | ty _=>cases r;rfl
theorem RelV.inj {x y:V} {u:Value} (r:RelV x u) (q:RelV y u):x=y:=Option.some.inj (r.abs.symm.trans q.abs)
theorem Vals.inj:∀ {xs ys:List V} {us:List Value},Vals xs us->Vals ys us->xs=ys
 | _,_,_,.nil,.nil=>rfl
 | _,_,_,.cons r t,.cons r' t' => by rw [r.inj r',Vals.inj t t']
section
variable {X:Cx} {pins:List (Addr×Obj)} {σ:St} {H:Hp} {s:Shared} {a:Addr} {xs ys:List V}
theorem SqL.of {K:PySem.W.Frag} (h:H a=some (.lst xs)):SqL K H a xs:=.inl (.inl h)
theorem SqT.of {K:PySem.W.Frag} (h:H a=some (.tup xs)):SqT K H a xs:=.inl (.inl h)
theorem Inv.list (I:Inv X pins σ H s) (h:SqL X.K H a xs):∃ its:List Value,Vals xs its/\PlainL s.heap a its.toArray/\xs.length<=sizeLine:=by
 rcases h with h | ⟨o,its,n,hk,hc,hd,hs,hz,r⟩
 ·obtain ⟨z,its,n,r,e⟩:=h.ok I.hok
  exact ⟨its,r,⟨_,n,e,rfl,rfl,rfl⟩,z⟩
 ·refine ⟨its.toList,r,⟨o,n,I.kIn a o hk,hc,hd,by simpa using hs⟩,?_⟩
  have e:=r.length
  simp only [Array.length_toList] at e
  lia
theorem Inv.tuple (I:Inv X pins σ H s) (h:SqT X.K H a xs):∃ its:List Value,Vals xs its/\IsTup s.heap a its.toArray/\xs.length<=sizeLine:=by
 rcases h with h | ⟨o,its,n,hk,hc,hs,hz,r⟩
 ·obtain ⟨z,its,r,p⟩:=h.ok I.hok
  exact ⟨its,r,p,z⟩
 ·refine ⟨its.toList,r,⟨o,I.kIn a o hk,hc,n,by simpa using hs⟩,?_⟩
  have e:=r.length
  simp only [Array.length_toList] at e
  lia
theorem Inv.list_inj (I:Inv X pins σ H s) (h:SqL X.K H a xs) (h':SqL X.K H a ys):xs=ys:=by
 obtain ⟨its,r,⟨o,n,e,_,_,d⟩,_⟩:=I.list h
 obtain ⟨its',r',⟨o',n',e',_,_,d'⟩,_⟩:=I.list h'
 rw [e] at e';cases e'
 rw [d] at d'
 injection d' with d1 _
 have:its=its' := by simpa using congrArg Array.toList d1
 subst this
 exact r.inj r'
theorem Inv.tuple_inj (I:Inv X pins σ H s) (h:SqT X.K H a xs) (h':SqT X.K H a ys):xs=ys:=by
 obtain ⟨its,r,⟨o,e,_,n,d⟩,_⟩:=I.tuple h
 obtain ⟨its',r',⟨o',e',_,n',d'⟩,_⟩:=I.tuple h'
 rw [e] at e';cases e'
 rw [d] at d'
 injection d' with d1 _
 have:its=its' := by simpa using congrArg Array.toList d1
 subst this
 exact r.inj r'
end
abbrev Cx.wish (X:Cx) (E:Value->Shared->Prop):Cx:={ X with xe:=E }
abbrev Cx.nox (X:Cx):Cx:=X.wish λ_ _=>False
theorem Cx.Ok.wish {X:Cx} (ok:X.Ok) (E:Value->Shared->Prop):(X.wish E).Ok :=
 ⟨ok.mod,ok.kind,ok.glob,ok.blt,ok.above,ok.inj,ok.has,ok.cab,ok.hd,ok.frames,ok.stk,ok.exf,ok.bs,ok.bsz,ok.noex,ok.exfs,ok.funs,ok.frf⟩
theorem Cx.Ok.unwish {X:Cx} {E:Value->Shared->Prop} (ok:(X.wish E).Ok):X.Ok :=
 ⟨ok.mod,ok.kind,ok.glob,ok.blt,ok.above,ok.inj,ok.has,ok.cab,ok.hd,ok.frames,ok.stk,ok.exf,ok.bs,ok.bsz,ok.noex,ok.exfs,ok.funs,ok.frf⟩
section
variable {X:Cx} {pins:List (Addr×Obj)} {σ:St} {H:Hp} {s:Shared} {E:Value->Shared->Prop}
theorem Inv.wish (I:Inv X pins σ H s) (E:Value->Shared->Prop):Inv (X.wish E) pins σ H s:=⟨I.ok.wish E,I.os,I.bare,I.base,I.loc,I.cell,I.free,I.freeC,I.pin,I.hok,I.len⟩
theorem Inv.unwish (I:Inv (X.wish E) pins σ H s):Inv X pins σ H s:=⟨I.ok.unwish,I.os,I.bare,I.base,I.loc,I.cell,I.free,I.freeC,I.pin,I.hok,I.len⟩
theorem SP.unwish {D:Ends} {f:Flow} {s':Shared} (h:SP (X.wish E) pins D f s'):SP X pins D f s' := by
 cases f with
 | next=>obtain ⟨σ',H',I,q⟩:=h;exact ⟨σ',H',I.unwish,q⟩
 | brk=>obtain ⟨σ',H',I,q⟩:=h;exact ⟨σ',H',I.unwish,q⟩
 | cont=>obtain ⟨σ',H',I,q⟩:=h;exact ⟨σ',H',I.unwish,q⟩
 | ret u=>obtain ⟨v,σ',H',I,r,q⟩:=h;exact ⟨v,σ',H',I.unwish,r,q⟩
end
section
variable {X:Cx} {st:Stmt} {rest:List Stmt} {t u:TS} {e:Expr} {te:TE} {pos:Pos}
def yiv:TS:=λD σ H=>D.nx σ H
def tSeq (t u:TS):TS:=λD σ H=>t { D with nx:=u D } σ H
theorem zjn:PSs X [] yiv:=λ_ _ σ H _ I h=>wpAny_execs_nil ⟨σ,H,I,h⟩
theorem zij (h1:PS X st t) (h2:PSs X rest u):PSs X (st::rest) (tSeq t u):=by
 intro pins s σ H D I h
 refine wpAny_execs_cons (thn (h1 pins s σ H { D with nx:=u D } I h) λf s1 q=>?_)
 cases f with
 | next =>
  obtain ⟨σ',H',I',q⟩:=q
  exact h2 pins s1 σ' H' D I' q
 | ret v=>exact q
 | brk=>exact q
 | cont=>exact q
theorem zjo (h1:PS X st t):PSs X [st] t:=by
 intro pins s σ H D I h
 refine wpAny_execs_cons (thn (h1 pins s σ H D I h) λf s1 q=>?_)
 cases f with
 | next=>exact wpAny_execs_nil q
 | ret v=>exact q
 | brk=>exact q
 | cont=>exact q
def yiw:TS:=λD σ H=>D.ct σ H
theorem zfo:PS X (.Continue pos) yiw:=λ_ _ σ H _ I h=>wpAny_Continue ⟨σ,H,I,h⟩
theorem Inv.quiet {pins:List (Addr×Obj)} {σ:St} {H:Hp} {s:Shared} (I:Inv X pins σ H s):interactive X.env=false:=by simp [interactive,I.ok.kind]
def yix (te:TE):TS:=λD σ H=>te σ H λ_ H1=>D.nx σ H1
theorem zjp (he:PE X e te) (hs:swapsWith e none pos.line X.env=pure false:=by rfl):PS X (.Expr e pos) (yix te):=by
 intro pins s σ H D I h
 exact wpAny_Expr_any (thn (he pins s σ H _ I h) λv s1 ⟨x,H1,I1,r1,q1⟩=>⟨σ,H1,I1,q1⟩) I.quiet hs
def tRet (te:TE):TS:=λD σ H=>te σ H D.rt
theorem yha (he:PE X e te):PS X (.Return (some e) pos) (tRet te):=by
 intro pins s σ H D I h
 exact wpAny_Return_some (thn (he pins s σ H _ I h) λv s1 ⟨x,H1,I1,r1,q1⟩=>⟨x,σ,H1,I1,r1,q1⟩)
def tIfS (c:TT) (t u:TS):TS:=λD σ H=>c σ H λb H1=>if b=true then t D σ H1 else u D σ H1
theorem yiy {c:Expr} {a b:List Stmt} {tc:TT} (hc:PT X c tc) (ha:PSs X a t) (hb:PSs X b u):PS X (.If c a b pos) (tIfS tc t u):=by
 intro pins s σ H D I h
 refine wpAny_If (thn (hc pins s σ H _ I h) λd s1 Zz=>?_);obtain ⟨H1,I1,q1⟩:=Zz
 cases d with
 | true=>exact ha pins s1 σ H1 D I1 q1
 | false=>exact hb pins s1 σ H1 D I1 q1
end
abbrev TG:=V->St->Hp->(St->Hp->Prop)->Prop
abbrev TGs:=List V->St->Hp->(St->Hp->Prop)->Prop
def PG (X:Cx) (target:Expr) (t:TG):Prop :=
 ∀ (pins:List (Addr×Obj)) (s:Shared) (σ:St) (H:Hp) (v:V) (u:Value) (Q:St->Hp->Prop),Inv X pins σ H s->RelV v u->t v σ H Q ->
  wpAny (model X.prog X.w) X.A (assign target X.env u) (λ_ s' => ∃ σ' H',Inv X pins σ' H' s'/\Q σ' H') X.xe s
def PGs (X:Cx) (ts:List Expr) (t:TGs):Prop :=
 ∀ (pins:List (Addr×Obj)) (s:Shared) (σ:St) (H:Hp) (vs:List V) (us:List Value) (Q:St->Hp->Prop),Inv X pins σ H s->Vals vs us->t vs σ H Q ->
  wpAny (model X.prog X.w) X.A (assignInOrder ((assignEach ts X.env).map (·.2)) us) (λ_ s' => ∃ σ' H',Inv X pins σ' H' s'/\Q σ' H') X.xe s
abbrev TSet:=V->V->V->Hp->(Hp->Prop)->Prop
def PSet (X:Cx) (t:TSet):Prop :=
 ∀ (pins:List (Addr×Obj)) (s:Shared) (σ:St) (H:Hp) (o i v:V) (ov iv u:Value) (Q:Hp->Prop),Inv X pins σ H s->RelV o ov->RelV i iv->RelV v u->t o i v H Q ->
  wpAny (model X.prog X.w) X.A (setItem ov iv u) (λ_ s' => ∃ H',Inv X pins σ H' s'/\Q H') X.xe s
section
variable {X:Cx} {pos:Pos}
def ydc (i:Nat):TG:=λv σ H Q=>Q (σ.set i (some v)) H
theorem zdr {i:Nat} {x:Str} (hN:X.N.Nodup) (hi:X.N[i]? = some x) (hx:Loc X.env.scope x) (hf:X.fn x=true\/X.env.scope.names.lookup x=some .local:=by first | exact .inl rfl | exact .inr rfl | assumption):PG X (.Name x pos) (ydc i):=by
 intro pins s σ H v u Q I r h
 exact wpAny_assign_Name (zeA I hN hi hx r (λs' I' => ⟨_,H,I',h⟩) hf)
def gNil:TGs:=λvs σ H Q=>vs=[]/\Q σ H
def yeV (t:TG) (u:TGs):TGs:=λvs σ H Q=>∃ v r,vs=v::r/\t v σ H λσ' H' => u r σ' H' Q
theorem zfM:PGs X [] gNil:=by
 intro pins s σ H vs us Q I r h
 obtain ⟨e,h⟩:=h
 subst e
 cases r
 exact assignInOrder_nil ⟨σ,H,I,h⟩
theorem zcI {e:Expr} {es:List Expr} {t:TG} {u:TGs} (h1:PG X e t) (h2:PGs X es u)
  (hs:(assignEach (e::es) X.env).map (·.2)=assign e X.env::(assignEach es X.env).map (·.2):=by rfl):PGs X (e::es) (yeV t u):=by
 intro pins s σ H vs us Q I r h
 obtain ⟨v,vr,e1,h⟩:=h
 subst e1
 cases r with
 | cons r rr =>
  rw [hs]
  refine assignInOrder_cons (thn (h1 pins s σ H _ _ _ I r h) λ_ s1 Zz=>?_);obtain ⟨σ1,H1,I1,q1⟩:=Zz
  exact h2 pins s1 σ1 H1 _ _ Q I1 rr q1
def gTup (K:PySem.W.Frag) (n:Nat) (t:TGs):TG:=λv σ H Q=>∃ a xs,v = .ref a/\SqT K H a xs/\xs.length=n/\t xs σ H Q
theorem yfW {es:List Expr} {k:Nat} {t:TGs} {n:Nat} (hc:X.calm=true) (h:PGs X es t)
  (hn:(assignEach es X.env).length=n:=by rfl) (hst:(assignEach es X.env).findIdx? (·.1)=none:=by rfl):PG X (.Tuple es k pos) (gTup X.K n t):=by
 intro pins s σ H v u Q I r hw
 obtain ⟨a,xs,e1,hq,hl,hw⟩:=hw
 subst e1
 cases r
 obtain ⟨its,rv,ht,hz⟩:=I.tuple hq
 refine assign_Tuple_tuple (I.ok.hd hc) ht (by simp [hn,<- hl,rv.length]) hst λh' hx=>?_
 have I1:Inv X pins σ H { s with heap:=h' }:=I.kept (t' := s.toks) λb o e=>hx b o (Nat.ne_of_lt (Heap.lt_size e)) e
 exact h pins _ σ H xs _ Q I1 (by simpa using rv) hw
def gSub (to ti:TE) (t:TSet):TG:=λv σ H Q=>to σ H λo H1=>ti σ H1 λi H2=>t o i v H2 λH3=>Q σ H3
theorem yhb {o i:Expr} {to ti:TE} {t:TSet} (ho:PE X o to) (hi:PE X i ti) (hs:PSet X t)
  (ha:∀ v,assign (.Subscript o i pos) X.env v=(do
   let ov <- holding [v] (eval o X.env)
   let iv <- holding [v,ov] (eval i X.env)
   standAt pos
   holding [v,ov,iv] (setItem ov iv v)
   release [v,ov,iv] []):=by intro _;rfl):PG X (.Subscript o i pos) (gSub to ti t):=by
 intro pins s σ H v u Q I r h
 rw [ha]
 refine wpAny_bind (wpAny_holding (thn (ho pins s σ H _ I h) λov s1 Zz=>?_));obtain ⟨x,H1,I1,r1,q1⟩:=Zz
 refine wpAny_bind (wpAny_holding (thn (hi pins s1 σ H1 _ I1 q1) λiv s2 Zz=>?_));obtain ⟨y,H2,I2,r2,q2⟩:=Zz
 refine wpAny_bind (wpAny_standAt (wpAny_bind (wpAny_holding (thn (hs pins s2 σ H2 x y v ov iv u _ I2 r1 r2 r q2) λ_ s3 Zz=>?_))));obtain ⟨H3,I3,q3⟩:=Zz
 exact wpAny_release ⟨σ,H3,I3,q3⟩
def tAsg (te:TE) (g:TG):TS:=λD σ H=>te σ H λx H1=>g x σ H1 D.nx
theorem yfX {tg e:Expr} {te:TE} {g:TG} (he:PE X e te) (hg:PG X tg g) (hs:swapsWithSole [tg] e pos.line X.env=pure false:=by rfl) (hw:swappedStores [tg] e X.env=pure none:=by rfl)
  (h1:(assignEach [tg] X.env).map (·.2)=[assign tg X.env]:=by rfl):PS X (.Assign [tg] e pos) (tAsg te g):=by
 intro pins s σ H D I h
 refine wpAny_Assign_stores (thn (he pins s σ H _ I h) λv s1 Zz=>?_) hs hw;obtain ⟨x,H1,I1,r1,q1⟩:=Zz
 rw [h1]
 exact thn (hg pins s1 σ H1 x v _ I1 r1 q1) λ_ s2 q=>q
theorem yhc {i:Nat} {x:Str} {e:Expr} {te:TE} {pos':Pos} (hN:X.N.Nodup) (hi:X.N[i]? = some x) (hx:Loc X.env.scope x) (he:PE X e te) (hs:swapsWith e (some (.Name x pos')) pos.line X.env=pure false:=by rfl) (hf:X.fn x=true\/X.env.scope.names.lookup x=some .local:=by first | exact .inl rfl | exact .inr rfl | assumption) :
  PS X (.Assign [.Name x pos'] e pos) (tAsg te (ydc i)):=by
 intro pins s σ H D I h
 refine wpAny_Assign_Name (thn (he pins s σ H _ I h) λv s1 Zz=>?_) hs;obtain ⟨y,H1,I1,r1,q1⟩:=Zz
 exact zeA I1 hN hi hx r1 (λs2 I2=>⟨_,H1,I2,q1⟩) hf
end
section
variable {X:Cx} {pos:Pos}
def yhd (c:TT) (tb:TS):TS:=λD σ H=>∃ W:Nat->St->Hp->Prop,(∃ m,W m σ H)/\∀ m σ H,W m σ H ->
 c σ H λb H1=>if b=true then ∃ N:St->Hp->Prop,(∀ σ' H',N σ' H'->∃ m',m'<m/\W m' σ' H')/\tb { D with nx:=N,ct:=N,bk:=D.nx } σ H1 else D.nx σ H1
theorem zik {c:Expr} {body:List Stmt} {tc:TT} {tb:TS} (hp:PassesOwn (model X.prog X.w) X.A X.env X.xe) (hc:PT X c tc) (hb:PSs X body tb):PS X (.While c body [] pos) (yhd tc tb):=by
 intro pins s σ H D I h
 obtain ⟨W,⟨m0,w0⟩,turn⟩:=h
 refine wpAny_While (codeAny_whileLoop (λn s' => ∃ σ' H',Inv X pins σ' H' s'/\W n σ' H') ?_ m0 ⟨σ,H,I,w0⟩)
 rintro n s1 ⟨σ1,H1,I1,w1⟩
 refine wpAny_passesOwn hp (thn (hc pins s1 σ1 H1 _ I1 (turn n σ1 H1 w1)) λb s2 Zz=>?_);obtain ⟨H2,I2,q2⟩:=Zz
 cases b with
 | true =>
  obtain ⟨N,hN,q2⟩:=q2
  rw [if_pos rfl]
  refine wpAny_passesOwn hp (thn (hb pins s2 σ1 H2 _ I2 q2) λf s3 q3=>?_)
  cases f with
  | next =>
   obtain ⟨σ3,H3,I3,n3⟩:=q3
   obtain ⟨m',hm,w3⟩:=hN σ3 H3 n3
   exact ⟨m',hm,σ3,H3,I3,w3⟩
  | cont =>
   obtain ⟨σ3,H3,I3,n3⟩:=q3
   obtain ⟨m',hm,w3⟩:=hN σ3 H3 n3
   exact ⟨m',hm,σ3,H3,I3,w3⟩
  | brk=>exact q3
  | ret v=>exact q3
 | false =>
  rw [if_neg Bool.false_ne_true]
  exact wpAny_execs_nil ⟨σ1,H2,I2,q2⟩
end
structure It where
 go:Nat->Hp->Prop
 yld:Nat->Hp->V->Hp->Prop
 stop:Nat->Hp->Prop
def FpOk (X:Cx) (pins:List (Addr×Obj)) (H:Hp) (b:Addr):Prop :=
 H b=none/\b≠X.env.locals/\b∉X.fs/\(b∈X.ex\/X.s₀.heap.objs.size<=b)/\(∀ x c,X.env.cells.lookup x=some c->c≠b)/\∀ p∈X.pn++pins,p.1≠b
theorem Inv.fpOk {X:Cx} {pins:List (Addr×Obj)} {σ:St} {H H':Hp} {s:Shared} {b:Addr} (I:Inv X pins σ H s) (hb:s.heap.objs.size<=b) (hn:H' b=none):FpOk X pins H' b:=by
 refine ⟨hn,Nat.ne_of_gt (Nat.lt_of_lt_of_le I.lt hb),I.nofs hb,.inr (Nat.le_trans I.sz hb),λx c e z=>?_,λp hp z=>?_⟩
 ·obtain ⟨v,q⟩:=I.cell x c e
  exact absurd (Nat.lt_of_lt_of_le q.lt (by rw [z];exact hb)) (Nat.lt_irrefl _)
 ·exact absurd (Nat.lt_of_lt_of_le (Heap.lt_size (I.pin p hp).1) (by rw [z];exact hb)) (Nat.lt_irrefl _)
structure Turn (P:Program) (w:World) (K:PySem.W.Frag) (tg:Expr) (J:It) (fp:List Addr) (it:Addr) (tn:Nat->Heap->Prop):Prop where
 mem:it∈fp
 obj:∀ i h,tn i h->∀ b∈fp,∃ o,h.get? b=some o/\∀ v,o.data ≠ .cell v
 keep:∀ i h h',tn i h->(∀ b∈fp,∀ o,h.get? b=some o->h'.get? b=some o)->tn i h'
 item:∀ (X:Cx),X.prog=P->X.w=w->X.K=K->X.calm=true->∀ (i:Nat) (pins:List (Addr×Obj)) (s:Shared) (σ:St) (H:Hp) (E:Value->Shared->Prop),Inv X pins σ H s->(∀ b∈fp,FpOk X pins H b)->tn i s.heap->J.go i H ->
  wpAny (model P w) X.A (pyNext (.ref it)) (λr s1=>∃ u,r=some u /\
   wpAny (model P w) X.A (letOwnedTupleGo tg (.ref it) u) (λ_ s2=>∃ x H',Inv X pins σ H' s2/\RelV x u/\J.yld i H x H'/\tn (i+1) s2.heap/\∀ b∈fp,H' b=none) E s1) E s
 done:∀ (X:Cx),X.prog=P->X.w=w->X.K=K->X.calm=true->∀ (i:Nat) (pins:List (Addr×Obj)) (s:Shared) (σ:St) (H:Hp) (E:Value->Shared->Prop),Inv X pins σ H s->(∀ b∈fp,FpOk X pins H b)->tn i s.heap->J.stop i H ->
  wpAny (model P w) X.A (pyNext (.ref it)) (λr s1=>r=none/\Inv X pins σ H s1) E s
 self:∀ (A:Around) (i:Nat) (s:Shared) (Q:Value->Shared->Prop) (E:Value->Shared->Prop),tn i s.heap->Q (.ref it) s->wpAny (model P w) A (pyIter (.ref it)) Q E s
abbrev TI:=St->Hp->(It->Hp->Prop)->Prop
def PIE (X:Cx) (pins:List (Addr×Obj)) (σ:St) (tg:Expr) (R:It->Hp->Prop) (itv:Value) (s2:Shared):Prop :=
 ∃ (it:Addr) (fp:List Addr) (tn:Nat->Heap->Prop) (J:It) (H':Hp),itv = .ref it/\Inv X pins σ H' s2/\Turn X.prog X.w X.K tg J fp it tn/\tn 0 s2.heap/\(∀ b∈fp,FpOk X pins H' b)/\R J H'
def PI (X:Cx) (tg iter:Expr) (wi:TI):Prop :=
 ∀ (pins:List (Addr×Obj)) (s:Shared) (σ:St) (H:Hp) (R:It->Hp->Prop),Inv X pins σ H s->wi σ H R ->
  wpAny (model X.prog X.w) X.A (eval iter X.env) (λv s1=>wpAny (model X.prog X.w) X.A (pyIter v) (PIE X pins σ tg R) X.xe s1) X.xe s
theorem yfi {M:Model} {A:Around} {E:Value->Shared->Prop} {s:Shared} {tg:Expr} {it:Addr} {u:Value} {o:Obj} {n:String} {vs:Array Value} {Q:Unit->Shared->Prop} (ho:s.heap.get? it=some o) (hc:o.cls = .type n) (hd:o.data = .fields vs)
  (hn:["enumerate", "zip", "dict_itemiterator", "dict_reverseitemiterator", "odict_iterator", "itertools.zip_longest", "itertools.pairwise"].contains n=false) (hQ:Q () s):wpAny M A (letOwnedTupleGo tg (.ref it) u) Q E s:=by
 unfold letOwnedTupleGo
 cases tg<;>first
  | exact wpAny_pure hQ
  | (cases u<;>first
    | exact wpAny_pure hQ
    | (refine wpAny_bind (wpAny_load ho ?_)
       rw [hc,hd]
       show wpAny M A (if (["enumerate", "zip", "dict_itemiterator", "dict_reverseitemiterator", "odict_iterator", "itertools.zip_longest", "itertools.pairwise"].contains n && vs[0]? == some (rawInt _))=true then _ else _) Q E s
       rw [if_neg (by intro h;rw [hn,Bool.false_and] at h;cases h)]
       exact wpAny_pure hQ))
def Itl (K:PySem.W.Frag) (a:Addr):It :=
 ⟨λi H=>∃ xs x,SqL K H a xs/\xs[i]? = some x,λi H x H' => H'=H/\∀ xs,SqL K H a xs->xs[i]? = some x,λi H=>∃ xs,SqL K H a xs/\xs.length<=i⟩
def Itt (K:PySem.W.Frag) (a:Addr):It :=
 ⟨λi H=>∃ xs x,SqT K H a xs/\xs[i]? = some x,λi H x H' => H'=H/\∀ xs,SqT K H a xs->xs[i]? = some x,λi H=>∃ xs,SqT K H a xs/\xs.length<=i⟩
def Itr (lo:Int) (n:Nat):It:=⟨λi _=>i<n,λi H x H' => H'=H/\x = .int (lo+i),λi _=>n<=i⟩
theorem zhh {P:Program} {w:World} {K:PySem.W.Frag} {tg:Expr} (a it:Addr):Turn P w K tg (Itl K a) [it] it (λi h=>h.IsListIter it a i) where
 mem:=by simp
 obj:=λi h st b hb=>by
  have e:b=it:=by simpa using hb
  subst e
  obtain ⟨o,e,c,d⟩:=st
  exact ⟨o,e,λv z=>by rw [d] at z;cases z⟩
 keep:=λi h h' st k=>st.at λo e=>k it (by simp) o e
 item:=by
  intro X hP hw hK hc i pins s σ H E I hf st hg
  subst hP hw hK
  obtain ⟨xs,x,hq,hx⟩:=hg
  obtain ⟨its,rv,p,hz⟩:=I.list hq
  obtain ⟨u,hu,ru⟩:=rv.get hx
  obtain ⟨f0,f1,f2,f3,f4,f5⟩:=hf it (by simp)
  refine wpAny_pyNext_list_item st p.isList (x:=u) (by simpa using hu) λh' st' sb=>?_
  have I1:Inv X pins σ H { s with heap:=h' }:=I.turned (t' := s.toks) (λb o hb e=>(sb.2 b hb).trans e) f0 f1 f3 f4 f5
  obtain ⟨o,e,c,d⟩:=id st'
  exact ⟨u,rfl,yfi (s:={ s with heap:=h' }) e c d (by decide) ⟨x,H,I1,ru,⟨rfl,λys hy=>by rw [I.list_inj hy hq];exact hx⟩,st',λb hb=>(hf b hb).1⟩⟩
 done:=by
  intro X hP hw hK hc i pins s σ H E I hf st hg
  subst hP hw hK
  obtain ⟨xs,hq,hx⟩:=hg
  obtain ⟨its,rv,p,hz⟩:=I.list hq
  obtain ⟨f0,f1,f2,f3,f4,f5⟩:=hf it (by simp)
  have hl:=rv.length
  exact wpAny_pyNext_list_end (I.ok.hd hc) st p.isList (by simp;lia) λh' eb=>⟨rfl,I.turned (t' := s.toks) (λb o hb e=>eb b o hb e) f0 f1 f3 f4 f5⟩
 self:=λ_ _ _ _ _ st h=>wpAny_pyIter_listiter st h
theorem zgD {P:Program} {w:World} {K:PySem.W.Frag} {tg:Expr} (a it:Addr):Turn P w K tg (Itt K a) [it] it (λi h=>h.IsTupleIter it a i) where
 mem:=by simp
 obj:=λi h st b hb=>by
  have e:b=it:=by simpa using hb
  subst e
  obtain ⟨o,e,c,d⟩:=st
  exact ⟨o,e,λv z=>by rw [d] at z;cases z⟩
 keep:=λi h h' st k=>st.at λo e=>k it (by simp) o e
 item:=by
  intro X hP hw hK hc i pins s σ H E I hf st hg
  subst hP hw hK
  obtain ⟨xs,x,hq,hx⟩:=hg
  obtain ⟨its,rv,p,hz⟩:=I.tuple hq
  obtain ⟨u,hu,ru⟩:=rv.get hx
  obtain ⟨f0,f1,f2,f3,f4,f5⟩:=hf it (by simp)
  refine wpAny_pyNext_tuple_item st (show s.heap.IsTuple a its.toArray from p) (x:=u) (by simpa using hu) λh' st' sb=>?_
  have I1:Inv X pins σ H { s with heap:=h' }:=I.turned (t' := s.toks) (λb o hb e=>(sb.2 b hb).trans e) f0 f1 f3 f4 f5
  obtain ⟨o,e,c,d⟩:=id st'
  exact ⟨u,rfl,yfi (s:={ s with heap:=h' }) e c d (by decide) ⟨x,H,I1,ru,⟨rfl,λys hy=>by rw [I.tuple_inj hy hq];exact hx⟩,st',λb hb=>(hf b hb).1⟩⟩
 done:=by
  intro X hP hw hK hc i pins s σ H E I hf st hg
  subst hP hw hK
  obtain ⟨xs,hq,hx⟩:=hg
  obtain ⟨its,rv,p,hz⟩:=I.tuple hq
  obtain ⟨f0,f1,f2,f3,f4,f5⟩:=hf it (by simp)
  have hl:=rv.length
  exact wpAny_pyNext_tuple_end (I.ok.hd hc) st (show s.heap.IsTuple a its.toArray from p) (by simp;lia) λh' eb=>⟨rfl,I.turned (t' := s.toks) (λb o hb e=>eb b o hb e) f0 f1 f3 f4 f5⟩
 self:=λ_ _ _ _ _ st h=>wpAny_pyIter_tupleiter st h
theorem zgE {P:Program} {w:World} {K:PySem.W.Frag} {tg:Expr} (it:Addr) (lo:Int) (n:Nat):Turn P w K tg (Itr lo n) [it] it (λi h=>IsRangeIter h it (lo+(i:Nat)*1) ((n:Int)-(i:Nat)) 1) where
 mem:=by simp
 obj:=λi h st b hb=>by
  have e:b=it:=by simpa using hb
  subst e
  exact ⟨_,st,λv z=>by
   have z':Data.fields _=Data.cell v:=z
   cases z'⟩
 keep:=λi h h' st k=>k it (by simp) _ st
 item:=by
  intro X hP hw hK hc i pins s σ H E I hf st hg
  subst hP hw hK
  obtain ⟨f0,f1,f2,f3,f4,f5⟩:=hf it (by simp)
  have W:=Walks.range (prog:=X.prog) (w:=X.w) (I.ok.hd hc) it lo 1 n
  refine W.item i s _ _ hg st λv h' tk hv st' kk=>?_
  obtain ⟨t,rfl⟩:=hv
  have I1:Inv X pins σ H { s with heap:=h',toks:=tk }:=I.turned (λb o hb e=>kk b o (by simpa using hb) e) f0 f1 f3 f4 f5
  refine ⟨_,rfl,yfi (s:={ s with heap:=h',toks:=tk }) (n := "range_iterator") st' rfl rfl (by decide) ⟨.int (lo+i),H,I1,⟨t,?_⟩,⟨rfl,rfl⟩,st',λb hb=>(hf b hb).1⟩⟩
  rw [Int.mul_one]
 done:=by
  intro X hP hw hK hc i pins s σ H E I hf st hg
  subst hP hw hK
  obtain ⟨f0,f1,f2,f3,f4,f5⟩:=hf it (by simp)
  exact wpAny_pyNext_range_end (I.ok.hd hc) st (by have:n<=i:=hg;lia) λh' eb=>⟨rfl,I.turned (t' := s.toks) (λb o hb e=>eb b o hb e) f0 f1 f3 f4 f5⟩
 self:=λ_ _ _ _ _ st h=>wpAny_pyIter_rangeiter st h
section
variable {X:Cx} {tg:Expr}
def ygz (K:PySem.W.Frag) (tl:TE):TI:=λσ H R=>tl σ H λx H1=>∃ a,x = .ref a/\(∃ xs,SqL K H1 a xs)/\R (Itl K a) H1
def iTup (K:PySem.W.Frag) (tl:TE):TI:=λσ H R=>tl σ H λx H1=>∃ a,x = .ref a/\(∃ xs,SqT K H1 a xs)/\R (Itt K a) H1
theorem zfN {l:Expr} {tl:TE} (hl:PE X l tl):PI X tg l (ygz X.K tl):=by
 intro pins s σ H R I h
 refine thn (hl pins s σ H _ I h) λv s1 Zz=>?_;obtain ⟨x,H1,I1,r1,q1⟩:=Zz
 obtain ⟨a,e,⟨xs,hq⟩,q⟩:=q1
 subst e
 cases r1
 obtain ⟨its,rv,p,hz⟩:=I1.list hq
 refine wpAny_pyIter_list p.isList ?_
 refine ⟨s1.heap.objs.size,[s1.heap.objs.size],_,_,H1,rfl,I1.kept (t' := s1.toks) λb o e=>Heap.get?_push_of_some _ e,zhh a _,⟨_,Heap.get?_push_size _ rfl,rfl,rfl⟩,λb hb=>?_,q⟩
 have e:b=s1.heap.objs.size:=by simpa using hb
 subst e
 exact I1.fpOk (Nat.le_refl _) (I1.hok.fresh (Nat.le_refl _))
theorem yfY {l:Expr} {tl:TE} (hl:PE X l tl):PI X tg l (iTup X.K tl):=by
 intro pins s σ H R I h
 refine thn (hl pins s σ H _ I h) λv s1 Zz=>?_;obtain ⟨x,H1,I1,r1,q1⟩:=Zz
 obtain ⟨a,e,⟨xs,hq⟩,q⟩:=q1
 subst e
 cases r1
 obtain ⟨its,rv,p,hz⟩:=I1.tuple hq
 refine wpAny_pyIter_tuple (show s1.heap.IsTuple a its.toArray from p) ?_
 refine ⟨s1.heap.objs.size,[s1.heap.objs.size],_,_,H1,rfl,I1.kept (t' := s1.toks) λb o e=>Heap.get?_push_of_some _ e,zgD a _,⟨_,Heap.get?_push_size _ rfl,rfl,rfl⟩,λb hb=>?_,q⟩
 have e:b=s1.heap.objs.size:=by simpa using hb
 subst e
 exact I1.fpOk (Nat.le_refl _) (I1.hok.fresh (Nat.le_refl _))
theorem zil {pins:List (Addr×Obj)} {σ:St} {H:Hp} {s:Shared} {R:It->Hp->Prop} {E:Value->Shared->Prop} {lo hi:Int} {t u v:Tok} {tk:Nat} (I:Inv X pins σ H s) (h1 : -(2 ^ 62)<=lo) (h2:lo<2 ^ 62) (h3 : -(2 ^ 62)<=hi) (h4:hi<2 ^ 62)
  (q:R (Itr lo (hi-lo).toNat) H):wpAny (model X.prog X.w) X.A (pyIter (.ref s.heap.objs.size)) (PIE X pins σ tg R) E { s with heap:=s.heap.push { cls:=.type "range",data:=.fields #[.int lo t,.int hi u,.int 1 v] },toks:=tk }:=by
 refine wpAny_pyIter_range (IsRange.new ..) (small_one h1 h2 h3 h4) ?_
 have I1:Inv X pins σ H { s with heap:=s.heap.push { cls:=.type "range",data:=.fields #[.int lo t,.int hi u,.int 1 v] },toks:=tk }:=I.kept λb o e=>Heap.get?_push_of_some _ e
 refine ⟨(s.heap.push { cls:=.type "range",data:=.fields #[.int lo t,.int hi u,.int 1 v] }).objs.size,[(s.heap.push { cls:=.type "range",data:=.fields #[.int lo t,.int hi u,.int 1 v] }).objs.size],_,_,H,rfl,
  I1.kept (t' := tk) λb o e=>Heap.get?_push_of_some _ e,zgE _ lo (hi-lo).toNat,?_,λb hb=>?_,q⟩
 ·have e1:lo+((0:Nat):Int)*1=lo:=by simp
  have e2:(((hi-lo).toNat:Nat):Int)-((0:Nat):Int)=Builtin.Range.rangeSize lo hi 1:=by rw [rangeSize_one];split<;>omega
  show IsRangeIter _ _ (lo+((0:Nat):Int)*1) ((((hi-lo).toNat:Nat):Int)-((0:Nat):Int)) 1
  rw [e1,e2]
  exact Heap.get?_push_size _ rfl
 ·have e:b=(s.heap.push { cls:=.type "range",data:=.fields #[.int lo t,.int hi u,.int 1 v] }).objs.size:=by simpa using hb
  subst e
  exact I1.fpOk (Nat.le_refl _) (I1.hok.fresh (Nat.le_refl _))
def yiz (ta:TA):TI:=λσ H R=>ta σ H λvs H1=>∃ j:Int,vs=[.int j] /\ -(2 ^ 62)<=j/\j<2 ^ 62/\R (Itr 0 j.toNat) H1
theorem zhi {a:Expr} {ta:TA} {p pos:Pos} (hg:Gl X "range") (hm:X.mg "range" = none) (ha:PA X [a] ta) (hs:starEach [a] X.env=[(false,eval a X.env)]:=by rfl):PI X tg (.Call (.Name "range" p) [a] [] pos) (yiz ta):=by
 intro pins s σ H R I h
 refine Call_ (yd7 I hg hm boot_range (PyProof.Rows.callWith_type1 (thn (ha pos pins s σ H _ I h) λus s1 Zz=>?_) hs rfl));obtain ⟨vs,H1,I1,r1,q1⟩:=Zz
 obtain ⟨j,e,q1,q2,q⟩:=q1
 subst e
 cases r1 with
 | cons r rr =>
  cases rr
  obtain ⟨t,rfl⟩:=r
  exact call_range_1 (zil I1 (by lia) (by lia) q1 q2 (by simpa using q))
def tFor (wi:TI) (g:TG) (tb:TS):TS:=λD σ H=>wi σ H λJ H1=>∃ W:Nat->Nat->St->Hp->Prop,(∃ m,W 0 m σ H1)/\∀ i m σ H,W i m σ H ->
 (J.stop i H/\D.nx σ H)\/(J.go i H/\∃ N:St->Hp->Prop,(∀ σ' H',N σ' H'->∃ m',m'<m/\W (i+1) m' σ' H')/\∀ x H',J.yld i H x H'->g x σ H' λσ2 H2=>tb { D with nx:=N,ct:=N,bk:=D.nx } σ2 H2)
def ycx (fp:List Addr) (h:Heap):List (Addr×Obj):=fp.filterMap λb=>(h.get? b).map λo=>(b,o)
theorem za9 {fp:List Addr} {h:Heap} {b:Addr} {o:Obj} (hb:b∈fp) (e:h.get? b=some o):(b,o)∈ycx fp h:=List.mem_filterMap.mpr ⟨b,hb,by rw [e];rfl⟩
theorem zhj {fp:List Addr} {h:Heap} {p:Addr×Obj} (hp:p∈ycx fp h):p.1∈fp/\h.get? p.1=some p.2:=by
 obtain ⟨b,hb,e⟩:=List.mem_filterMap.mp hp
 cases q:h.get? b with
 | none=>rw [q] at e;cases e
 | some o =>
  rw [q] at e
  have e':(b,o)=p:=Option.some.inj e
  subst e'
  exact ⟨hb,q⟩
theorem Inv.pinned {pins:List (Addr×Obj)} {σ:St} {H:Hp} {s:Shared} {fp:List Addr} (I:Inv X pins σ H s) (hf:∀ b∈fp,FpOk X pins H b) (ho:∀ b∈fp,∃ o,s.heap.get? b=some o/\∀ v,o.data ≠ .cell v):Inv X (pins++ycx fp s.heap) σ H s :=
 I.pins_of λp hp=>(List.mem_append.mp hp).elim (λz=>I.pin p (List.mem_append_right _ z)) λz=>by
  obtain ⟨hb,e⟩:=zhj z
  obtain ⟨f0,f1,f2,_⟩:=hf p.1 hb
  obtain ⟨o,e',d⟩:=ho p.1 hb
  rw [e] at e';cases e'
  exact ⟨e,f0,f1,f2,d⟩
theorem Inv.unpinned {pins pl:List (Addr×Obj)} {σ:St} {H:Hp} {s:Shared} (I:Inv X (pins++pl) σ H s):Inv X pins σ H s:=I.pins_of λp hp=>I.pin p (List.mem_append_right _ (List.mem_append_left _ hp))
theorem yhe {iter:Expr} {body:List Stmt} {wi:TI} {g:TG} {tb:TS} {pos:Pos} (hp:PassesOwn (model X.prog X.w) X.A X.env X.xe) (hc:X.calm=true) (hi:PI X tg iter wi) (hg:PG X tg g) (hb:PSs X body tb)
  (hs:∀ x,foldedSetIterable iter X.env x=pure x:=by intro _;rfl):PS X (.For tg iter body [] pos) (tFor wi g tb):=by
 intro pins s σ H D I h
 refine wpAny_For (thn (hi pins s σ H _ I h) λv s1 h1=>thn h1 λitv s2 h2=>?_) hs
 obtain ⟨it,fp,tn,J,H2,e,I2,T,st2,f2,W,⟨m0,w0⟩,turn⟩:=h2
 subst e
 have stat:∀ {H':Hp},(∀ b∈fp,H' b=none)->∀ b∈fp,FpOk X pins H' b:=λhn b hb=>⟨hn b hb,(f2 b hb).2⟩
 refine codeAny_forLoop_any (λn s' => ∃ i σ' H',Inv X pins σ' H' s'/\tn i s'.heap/\(∀ b∈fp,H' b=none)/\W i n σ' H') ?_ m0 ⟨0,σ,H2,I2,st2,λb hb=>(f2 b hb).1,w0⟩
 rintro n s3 ⟨i,σ3,H3,I3,st3,fr3,w3⟩
 rcases turn i n σ3 H3 w3 with ⟨stop,qn⟩ | ⟨go,N,hN,step⟩
 ·refine wpAny_passesOwn hp (thn (T.done X rfl rfl rfl hc i pins s3 σ3 H3 X.xe I3 (stat fr3) st3 stop) λr s4 Zz=>?_);obtain ⟨hr,I4⟩:=Zz
  subst hr
  exact wpAny_execs_nil ⟨σ3,H3,I4,qn⟩
 ·refine wpAny_passesOwn hp (thn (T.item X rfl rfl rfl hc i pins s3 σ3 H3 X.xe I3 (stat fr3) st3 go) λr s4 Zz=>?_);obtain ⟨u,hr,h4⟩:=Zz
  subst hr
  refine wpAny_passesOwn hp (thn h4 λ_ s5 Zz=>?_);obtain ⟨x,H5,I5,r5,y5,st5,fr5⟩:=Zz
  have I5' := I5.pinned (stat fr5) (T.obj _ _ st5)
  refine wpAny_passesOwn hp (thn (hg _ s5 σ3 H5 x u _ I5' r5 (step x H5 y5)) λ_ s6 Zz=>?_);obtain ⟨σ6,H6,I6,q6⟩:=Zz
  refine wpAny_passesOwn hp (thn (hb _ s6 σ6 H6 _ I6 q6) λf s7 q7=>?_)
  have again:∀ {σ7:St} {H7:Hp},Inv X (pins++ycx fp s5.heap) σ7 H7 s7->N σ7 H7->∃ m,m<n/\∃ i σ' H',Inv X pins σ' H' s7/\tn i s7.heap/\(∀ b∈fp,H' b=none)/\W i m σ' H' := λ{σ7 H7} I7 n7=>by
   obtain ⟨m',hm,w7⟩:=hN σ7 H7 n7
   refine ⟨m',hm,i+1,σ7,H7,I7.unpinned,T.keep _ _ _ st5 λb hb o e=>(I7.pin (b,o) (List.mem_append_right _ (List.mem_append_right _ (za9 hb e)))).1,λb hb=>?_,w7⟩
   obtain ⟨o,e,d⟩:=T.obj _ _ st5 b hb
   exact (I7.pin (b,o) (List.mem_append_right _ (List.mem_append_right _ (za9 hb e)))).2.1
  cases f with
  | next=>obtain ⟨σ7,H7,I7,n7⟩:=q7;exact again I7 n7
  | cont=>obtain ⟨σ7,H7,I7,n7⟩:=q7;exact again I7 n7
  | brk=>obtain ⟨σ7,H7,I7,q7⟩:=q7;exact ⟨σ7,H7,I7.unpinned,q7⟩
  | ret v=>obtain ⟨x7,σ7,H7,I7,r7,q7⟩:=q7;exact ⟨x7,σ7,H7,I7.unpinned,r7,q7⟩
end
abbrev R2:=V->V->Hp->VK->Prop
def OpR (X:Cx) (f:Value->Value->Sem Value) (r:R2):Prop :=
 ∀ (pins:List (Addr×Obj)) (s:Shared) (σ:St) (H:Hp) (x y:V) (v u:Value) (Q:VK),Inv X pins σ H s->RelV x v->RelV y u->r x y H Q ->
  wpAny (model X.prog X.w) X.A (f v u) (EP X pins σ Q) X.xe s
def UnR (X:Cx) (f:Value->Sem Value) (r:V->Hp->VK->Prop):Prop :=
 ∀ (pins:List (Addr×Obj)) (s:Shared) (σ:St) (H:Hp) (x:V) (v:Value) (Q:VK),Inv X pins σ H s->RelV x v->r x H Q ->
  wpAny (model X.prog X.w) X.A (f v) (EP X pins σ Q) X.xe s
def CallR (X:Cx) (f:Value) (r:List V->Hp->VK->Prop):Prop :=
 ∀ (pins:List (Addr×Obj)) (s:Shared) (σ:St) (H:Hp) (xs:List V) (us:List Value) (Q:VK),Inv X pins σ H s->Vals xs us->r xs H Q ->
  wpAny (model X.prog X.w) X.A (call f us) (EP X pins σ Q) X.xe s
def TruR (X:Cx) (r:V->Hp->(Bool->Hp->Prop)->Prop):Prop :=
 ∀ (pins:List (Addr×Obj)) (s:Shared) (σ:St) (H:Hp) (x:V) (v:Value) (Q:Bool->Hp->Prop),Inv X pins σ H s->RelV x v->r x H Q ->
  wpAny (model X.prog X.w) X.A (truthy v) (TP X pins σ Q) X.xe s
def tOp (r:R2) (ta tb:TE):TE:=λσ H Q=>ta σ H λx H1=>tb σ H1 λy H2=>r x y H2 Q
def tUn (r:V->Hp->VK->Prop) (ta:TE):TE:=λσ H Q=>ta σ H λx H1=>r x H1 Q
def rI (C:Int->Int->Prop) (g:Int->Int->V):R2:=λx y H Q=>∃ i j,x = .int i/\y = .int j/\C i j/\Q (g i j) H
def rI0 (g:Int->Int->V):R2:=λx y H Q=>∃ i j,x = .int i/\y = .int j/\Q (g i j) H
def rU (g:Int->V):V->Hp->VK->Prop:=λx H Q=>∃ i,x = .int i/\Q (g i) H
section
variable {X:Cx} {a b c:Expr} {ta tb tc:TE} {pos:Pos}
theorem binT (ha:PE X a ta) (hb:PE X b tb) {pins:List (Addr×Obj)} {s:Shared} {σ:St} {H:Hp} {R:V->V->Hp->Prop} (I:Inv X pins σ H s)
  (h:ta σ H λx H1=>tb σ H1 λy H2=>R x y H2) {Q:Value->Shared->Prop} {f:Value->Value->Sem Value}
  (hf:∀ v u s2 x y H2,Inv X pins σ H2 s2->RelV x v->RelV y u->R x y H2->wpAny (model X.prog X.w) X.A (f v u) Q X.xe s2) :
  wpAny (model X.prog X.w) X.A (eval a X.env) (λv s₁=>wpAny (model X.prog X.w) X.A (eval b X.env) (λu s₂=>wpAny (model X.prog X.w) X.A (f v u) Q X.xe s₂) X.xe s₁) X.xe s:=by
 refine thn (ha pins s σ H _ I h) λv s1 Zz=>?_;obtain ⟨x,H1,I1,r1,q1⟩:=Zz
 refine thn (hb pins s1 σ H1 _ I1 q1) λu s2 Zz=>?_;obtain ⟨y,H2,I2,r2,q2⟩:=Zz
 exact hf v u s2 x y H2 I2 r1 r2 q2
theorem yiA {op:Operator} {r:R2} (ho:OpR X (binaryOp op) r) (ha:PE X a ta) (hb:PE X b tb):PE X (.BinOp a op b pos) (tOp r ta tb):=by
 intro pins s σ H Q I h
 exact wpAny_BinOp (binT ha hb I h λv u s2 x y H2 I2 rx ry q=>ho pins s2 σ H2 x y v u Q I2 rx ry q)
theorem yiB {op:UnaryOp} {r:V->Hp->VK->Prop} (ho:UnR X (unaryOp op) r) (ha:PE X a ta):PE X (.UnaryOp op a pos) (tUn r ta):=by
 intro pins s σ H Q I h
 exact UnaryOp_ (thn (ha pins s σ H _ I h) λv s1 ⟨x,H1,I1,r1,q1⟩=>ho pins s1 σ H1 x v Q I1 r1 q1)
theorem opI {f:Value->Value->Sem Value} {C:Int->Int->Prop} {g:Int->Int->Int}
  (rule:∀ (i j:Int) (t u:Tok) (s:Shared) (Q:Value->Shared->Prop) (E:Value->Shared->Prop),C i j->Q (.int (g i j) s.toks) { s with toks:=s.toks+1 }->wpAny (model X.prog X.w) X.A (f (.int i t) (.int j u)) Q E s) :
  OpR X f (rI C λi j=>.int (g i j)):=by
 intro pins s σ H x y v u Q I rx ry h
 obtain ⟨i,j,rfl,rfl,hc,q⟩:=h
 obtain ⟨t,rfl⟩:=rx
 obtain ⟨t',rfl⟩:=ry
 exact rule i j t t' s _ _ hc ⟨.int (g i j),H,I.tok _,⟨_,rfl⟩,q⟩
theorem opI0 {f:Value->Value->Sem Value} {g:Int->Int->Int}
  (rule:∀ (i j:Int) (t u:Tok) (s:Shared) (Q:Value->Shared->Prop) (E:Value->Shared->Prop),Q (.int (g i j) s.toks) { s with toks:=s.toks+1 }->wpAny (model X.prog X.w) X.A (f (.int i t) (.int j u)) Q E s) :
  OpR X f (rI0 λi j=>.int (g i j)):=by
 intro pins s σ H x y v u Q I rx ry h
 obtain ⟨i,j,rfl,rfl,q⟩:=h
 obtain ⟨t,rfl⟩:=rx
 obtain ⟨t',rfl⟩:=ry
 exact rule i j t t' s _ _ ⟨.int (g i j),H,I.tok _,⟨_,rfl⟩,q⟩
theorem opB0 {f:Value->Value->Sem Value} {g:Int->Int->Bool}
  (rule:∀ (i j:Int) (t u:Tok) (s:Shared) (Q:Value->Shared->Prop) (E:Value->Shared->Prop),Q (.bool (g i j)) s->wpAny (model X.prog X.w) X.A (f (.int i t) (.int j u)) Q E s) :
  OpR X f (rI0 λi j=>.bl (g i j)):=by
 intro pins s σ H x y v u Q I rx ry h
 obtain ⟨i,j,rfl,rfl,q⟩:=h
 obtain ⟨t,rfl⟩:=rx
 obtain ⟨t',rfl⟩:=ry
 exact rule i j t t' s _ _ ⟨.bl (g i j),H,I,rfl,q⟩
def CPow (i j:Int):Prop:=0<=j/\j<=1000000/\i.natAbs<2 ^ 64
def CMul (i j:Int):Prop:=(-(2 ^ 64)<i/\i<2 ^ 64)\/(-(2 ^ 64)<j/\j<2 ^ 64)
theorem CMul.ok {i j:Int} (h:CMul i j):IntMulOk i j:=by
 rcases h with ⟨h1,h2⟩ | ⟨h1,h2⟩
 ·exact .of_left (intBits_le_64 h1 h2)
 ·exact .of_right (intBits_le_64 h1 h2)
theorem op_add:OpR X (binaryOp .Add) (rI0 λi j=>.int (i+j)):=opI0 λ_ _ _ _ _ _ _ q=>add_int q
theorem yhf:OpR X (binaryOp .Sub) (rI0 λi j=>.int (i-j)):=opI0 λ_ _ _ _ _ _ _ q=>sub_int q
theorem yhg:OpR X (binaryOp .Mod) (rI (λ_ j=>0<j) λi j=>.int (i % j)):=opI λi j _ _ _ _ _ hc q=>by
 have h1:(0:Int)<j:=hc
 exact mod_int' (by lia) (by rw [Int.fmod_eq_emod_of_nonneg i (by lia)];exact q)
theorem yhh:OpR X (binaryOp .Pow) (rI CPow λi j=>.int (i ^ j.toNat)):=opI λ_ _ _ _ _ _ _ hc q=>pow_int_small hc.1 hc.2.1 hc.2.2 q
theorem unI {f:Value->Sem Value} {g:Int->Int}
  (rule:∀ (i:Int) (t:Tok) (s:Shared) (Q:Value->Shared->Prop) (E:Value->Shared->Prop),Q (.int (g i) s.toks) { s with toks:=s.toks+1 }->wpAny (model X.prog X.w) X.A (f (.int i t)) Q E s) :
  UnR X f (rU λi=>.int (g i)):=by
 intro pins s σ H x v Q I rx h
 obtain ⟨i,rfl,q⟩:=h
 obtain ⟨t,rfl⟩:=rx
 exact rule i t s _ _ ⟨.int (g i),H,I.tok _,⟨_,rfl⟩,q⟩
theorem yhi:UnR X (unaryOp .USub) (rU λi=>.int (-i)):=unI λ_ _ _ _ _ q=>neg_int q
end
def scal:V->V->Bool
 | .non,.non=>true | .non,.int _=>true | .int _,.non=>true | .non,.bl _=>true | .bl _,.non=>true | .non,.str _=>true | .str _,.non=>true
 | .int _,.int _=>true | .bl _,.bl _=>true | .str _,.str _=>true | .byt _,.byt _=>true
 | .int _,.str _=>true | .str _,.int _=>true | .bl _,.str _=>true | .str _,.bl _=>true
 | _,_=>false
def rEq:R2:=λx y H Q=>scal x y=true/\Q (.bl (decide (x=y))) H
def rNe:R2:=λx y H Q=>scal x y=true/\Q (.bl (!decide (x=y))) H
theorem zfO {i j:Int}:decide (V.int i=V.int j)=(i == j):=by
 rw [Bool.eq_iff_iff]
 simp
theorem yfZ {i j:Bool}:decide (V.bl i=V.bl j)=(i == j):=by
 rw [Bool.eq_iff_iff]
 simp
theorem zfP {i j:Str}:decide (V.str i=V.str j)=(i == j):=by
 rw [Bool.eq_iff_iff]
 simp
theorem zfQ {i j:Array UInt8}:decide (V.byt i=V.byt j)=(i.toList == j.toList):=by
 rw [Bool.eq_iff_iff]
 cases i
 cases j
 simp
section
variable {X:Cx} {a b c:Expr} {ta tb tc:TE} {pos:Pos}
theorem yaN {pins:List (Addr×Obj)} {σ:St} {H:Hp} {s:Shared} {Q:VK} {k k':Bool} (I:Inv X pins σ H s) (q:Q (.bl k) H) (e:k=k'):EP X pins σ Q (.bool k') s:=by
 subst e
 exact ⟨.bl k,H,I,rfl,q⟩
theorem op_eq:OpR X (compareOp .Eq) rEq:=by
 intro pins s σ H x y v u Q I rx ry h
 obtain ⟨hs,q⟩:=h
 cases x with
 | non =>
  cases rx
  cases y with
  | non=>cases ry;exact PySem.EqNone.eq_none_none (yaN I q (by simp))
  | bl j=>cases ry;exact PySem.EqNone.eq_none_bool (yaN I q (by simp))
  | int j=>obtain ⟨t',rfl⟩:=ry;exact PySem.EqNone.eq_none_int (yaN I q (by simp))
  | str j=>obtain ⟨t',rfl⟩:=ry;exact PySem.EqNone.eq_none_str (yaN I q (by simp))
  | _=>exact absurd (show false=true from hs) Bool.false_ne_true
 | bl i =>
  cases rx
  cases y with
  | non=>cases ry;exact PySem.EqNone.eq_bool_none (yaN I q (by simp))
  | bl j=>cases ry;exact eq_bool (yaN I q yfZ)
  | str j=>obtain ⟨t',rfl⟩:=ry;exact PySem.EqMixed.eq_bool_str (yaN I q (by simp))
  | _=>exact absurd (show false=true from hs) Bool.false_ne_true
 | int i =>
  obtain ⟨t,rfl⟩:=rx
  cases y with
  | non=>cases ry;exact PySem.EqNone.eq_int_none (yaN I q (by simp))
  | int j=>obtain ⟨t',rfl⟩:=ry;exact eq_int (yaN I q zfO)
  | str j=>obtain ⟨t',rfl⟩:=ry;exact PySem.EqMixed.eq_int_str (yaN I q (by simp))
  | _=>exact absurd (show false=true from hs) Bool.false_ne_true
 | str i =>
  obtain ⟨t,rfl⟩:=rx
  cases y with
  | non=>cases ry;exact PySem.EqNone.eq_str_none (yaN I q (by simp))
  | bl j=>cases ry;exact PySem.EqMixed.eq_str_bool (yaN I q (by simp))
  | int j=>obtain ⟨t',rfl⟩:=ry;exact PySem.EqMixed.eq_str_int (yaN I q (by simp))
  | str j=>obtain ⟨t',rfl⟩:=ry;exact eq_str (yaN I q zfP)
  | _=>exact absurd (show false=true from hs) Bool.false_ne_true
 | byt i =>
  obtain ⟨t,rfl⟩:=rx
  cases y with
  | byt j=>obtain ⟨t',rfl⟩:=ry;exact PySem.W.eq_bytes (yaN I q zfQ)
  | _=>exact absurd (show false=true from hs) Bool.false_ne_true
 | _=>cases y<;>exact absurd (show false=true from hs) Bool.false_ne_true
theorem op_ne:OpR X (compareOp .NotEq) rNe:=by
 intro pins s σ H x y v u Q I rx ry h
 obtain ⟨hs,q⟩:=h
 cases x with
 | non =>
  cases rx
  cases y with
  | non=>cases ry;exact PySem.EqNone.ne_none_none (yaN I q (by simp))
  | bl j=>cases ry;exact PySem.EqNone.ne_none_bool (yaN I q (by simp))
  | int j=>obtain ⟨t',rfl⟩:=ry;exact PySem.EqNone.ne_none_int (yaN I q (by simp))
  | str j=>obtain ⟨t',rfl⟩:=ry;exact PySem.EqNone.ne_none_str (yaN I q (by simp))
  | _=>exact absurd (show false=true from hs) Bool.false_ne_true
 | bl i =>
  cases rx
  cases y with
  | non=>cases ry;exact PySem.EqNone.ne_bool_none (yaN I q (by simp))
  | bl j=>cases ry;exact ne_bool (yaN I q (congrArg not yfZ))
  | str j=>obtain ⟨t',rfl⟩:=ry;exact PySem.EqMixed.ne_bool_str (yaN I q (by simp))
  | _=>exact absurd (show false=true from hs) Bool.false_ne_true
 | int i =>
  obtain ⟨t,rfl⟩:=rx
  cases y with
  | non=>cases ry;exact PySem.EqNone.ne_int_none (yaN I q (by simp))
  | int j=>obtain ⟨t',rfl⟩:=ry;exact ne_int (yaN I q (congrArg not zfO))
  | str j=>obtain ⟨t',rfl⟩:=ry;exact PySem.EqMixed.ne_int_str (yaN I q (by simp))
  | _=>exact absurd (show false=true from hs) Bool.false_ne_true
 | str i =>
  obtain ⟨t,rfl⟩:=rx
  cases y with
  | non=>cases ry;exact PySem.EqNone.ne_str_none (yaN I q (by simp))
  | bl j=>cases ry;exact PySem.EqMixed.ne_str_bool (yaN I q (by simp))
  | int j=>obtain ⟨t',rfl⟩:=ry;exact PySem.EqMixed.ne_str_int (yaN I q (by simp))
  | str j=>obtain ⟨t',rfl⟩:=ry;exact ne_str (yaN I q (congrArg not zfP))
  | _=>exact absurd (show false=true from hs) Bool.false_ne_true
 | byt i =>
  obtain ⟨t,rfl⟩:=rx
  cases y with
  | byt j=>obtain ⟨t',rfl⟩:=ry;exact PySem.W.ne_bytes (yaN I q (congrArg not zfQ))
  | _=>exact absurd (show false=true from hs) Bool.false_ne_true
 | _=>cases y<;>exact absurd (show false=true from hs) Bool.false_ne_true
theorem op_lt:OpR X (compareOp .Lt) (rI0 λi j=>.bl (decide (i<j))):=opB0 λ_ _ _ _ _ _ _ q=>lt_int q
theorem op_le:OpR X (compareOp .LtE) (rI0 λi j=>.bl (decide (i<=j))):=opB0 λ_ _ _ _ _ _ _ q=>le_int q
theorem yiC:OpR X (compareOp .Gt) (rI0 λi j=>.bl (decide (j<i))):=opB0 λ_ _ _ _ _ _ _ q=>gt_int q
theorem yiD:OpR X (compareOp .GtE) (rI0 λi j=>.bl (decide (j<=i))):=opB0 λ_ _ _ _ _ _ _ q=>ge_int q
theorem zhk:OpR X (compareOp .Lt) (λx y H Q=>∃ i j,x = .str i/\y = .str j/\Q (.bl (decide (i.cps.toList<j.cps.toList))) H):=by
 intro pins s σ H x y v u Q I rx ry h
 obtain ⟨i,j,rfl,rfl,q⟩:=h
 obtain ⟨t,rfl⟩:=rx
 obtain ⟨t',rfl⟩:=ry
 exact lt_str (yaN I q rfl)
theorem yhj:OpR X (compareOp .Is) (λx y H Q=>y = .non/\Q (.bl (decide (x = .non))) H):=by
 intro pins s σ H x y v u Q I rx ry h
 obtain ⟨rfl,q⟩:=h
 cases ry
 refine is_none_gen (yaN I q ?_)
 cases x<;>first
  | (cases rx;rfl)
  | (obtain ⟨t,rfl⟩:=rx;rfl)
theorem OpR.or {f:Value->Value->Sem Value} {r r':R2} (h:OpR X f r) (h':OpR X f r'):OpR X f (λx y H Q=>r x y H Q\/r' x y H Q):=by
 intro pins s σ H x y v u Q I rx ry q
 rcases q with q | q
 ·exact h pins s σ H x y v u Q I rx ry q
 ·exact h' pins s σ H x y v u Q I rx ry q
theorem yap (b:Expr) {op:CmpOp} (h:op ≠ .In:=by decide) (h2:op ≠ .NotIn:=by decide):behindInMarks op b=false:=by
 have e1:(op == CmpOp.In)=false:=by cases op<;>first | rfl | exact absurd rfl h
 have e2:(op == CmpOp.NotIn)=false:=by cases op<;>first | rfl | exact absurd rfl h2
 cases b<;>simp [behindInMarks,e1,e2]
theorem zjq {op:CmpOp} {r:R2} (ho:OpR X (compareOp op) r) (ha:PE X a ta) (hb:PE X b tb) (hm:behindInMarks op b=false):PE X (.Compare a [op] [b] pos) (tOp r ta tb):=by
 intro pins s σ H Q I h
 exact wpAny_Compare1 (binT ha hb I h λv u s2 x y H2 I2 rx ry q=>ho pins s2 σ H2 x y v u Q I2 rx ry q) hm
def yfM (t:TE):TT:=λσ H Q=>t σ H λx H' => ∃ k,x = .bl k/\Q k H'
theorem zjr {op:CmpOp} {r:R2} (ho:OpR X (compareOp op) r) (ha:PE X a ta) (hb:PE X b tb) (hm:behindInMarks op b=false):PT X (.Compare a [op] [b] pos) (yfM (tOp r ta tb)):=by
 intro pins s σ H Q I h
 refine wpAny_isTrue_Compare1 (thn (ha pins s σ H _ I h) λv s1 ⟨x,H1,I1,r1,q1⟩=>thn (hb pins s1 σ H1 _ I1 q1) λu s2 ⟨y,H2,I2,r2,q2⟩ =>
  thn (ho pins s2 σ H2 x y v u _ I2 r1 r2 q2) λc s3 ⟨z,H3,I3,r3,k,e,q3⟩=>?_) hm
 subst e
 cases r3
 exact wpAny_truthy_bool ⟨H3,I3,q3⟩
def yfz (r r':R2) (ta tb tc:TE):TE:=λσ H Q=>ta σ H λx H1=>tb σ H1 λy H2=>r x y H2 λz H3=>∃ k,z = .bl k /\
 (if k=true then tc σ H3 λw' H4=>r' y w' H4 Q else Q (.bl false) H3)
theorem zim {op op':CmpOp} {r r':R2} (ho:OpR X (compareOp op) r) (ho':OpR X (compareOp op') r') (ha:PE X a ta) (hb:PE X b tb) (hc:PE X c tc)
  (hm:lastMarks [op,op'] [b,c]=false:=by with_unfolding_all rfl):PE X (.Compare a [op,op'] [b,c] pos) (yfz r r' ta tb tc):=by
 intro pins s σ H Q I h
 refine Compare_chain (thn (ha pins s σ H _ I h) λv s1 ⟨x,H1,I1,r1,q1⟩=>chain_link (thn (hb pins s1 σ H1 _ I1 q1) λu s2 ⟨y,H2,I2,r2,q2⟩ =>
  thn (ho pins s2 σ H2 x y v u _ I2 r1 r2 q2) λd s3 ⟨z,H3,I3,r3,k,e,q3⟩=>?_)) hm
 subst e
 cases r3
 refine wpAny_truthy_bool ?_
 cases k with
 | false=>exact ite_ff ⟨.bl false,H3,I3,rfl,q3⟩
 | true=>exact ite_tt (chain_last (thn (hc pins s3 σ H3 _ I3 q3) λw' s4 ⟨z',H4,I4,r4,q4⟩=>ho' pins s4 σ H4 y z' u w' Q I4 r2 r4 q4))
theorem zin {op op':CmpOp} {r r':R2} (ho:OpR X (compareOp op) r) (ho':OpR X (compareOp op') r') (ha:PE X a ta) (hb:PE X b tb) (hc:PE X c tc)
  (hm:lastMarks [op,op'] [b,c]=false:=by with_unfolding_all rfl):PT X (.Compare a [op,op'] [b,c] pos) (yfM (yfz r r' ta tb tc)):=by
 intro pins s σ H Q I h
 refine isTrue_chain (thn (ha pins s σ H _ I h) λv s1 ⟨x,H1,I1,r1,q1⟩=>test_link (thn (hb pins s1 σ H1 _ I1 q1) λu s2 ⟨y,H2,I2,r2,q2⟩ =>
  thn (ho pins s2 σ H2 x y v u _ I2 r1 r2 q2) λd s3 ⟨z,H3,I3,r3,k,e,q3⟩=>?_)) hm
 subst e
 cases r3
 refine wpAny_truthy_bool ?_
 cases k with
 | false =>
  obtain ⟨k',e',q'⟩:=q3
  cases e'
  exact ite_ff ⟨H3,I3,q'⟩
 | true =>
  refine ite_tt (test_last (thn (hc pins s3 σ H3 _ I3 q3) λw' s4 ⟨z',H4,I4,r4,q4⟩=>thn (ho' pins s4 σ H4 y z' u w' _ I4 r2 r4 q4) λd' s5 Zz=>?_));obtain ⟨z2,H5,I5,r5,k2,e2,q5⟩:=Zz
  subst e2
  cases r5
  exact wpAny_truthy_bool ⟨H5,I5,q5⟩
def TruV (K:PySem.W.Frag) (x:V) (H:Hp) (k:Bool):Prop :=
 match x with
 | .non=>k=false
 | .bl b=>k=b
 | .int i=>k=(i != 0)
 | .str y=>y.length<=sizeLine/\k=((y.length:Int) != 0)
 | .byt y=>y.size<=sizeLine/\k=((y.size:Int) != 0)
 | .ref p=>(∃ xs,SqL K H p xs/\k = !xs.isEmpty)\/(∃ xs,SqT K H p xs/\k = !xs.isEmpty)\/∃ kvs,H p=some (.dK kvs)/\k = !kvs.isEmpty
 | _=>False
theorem zgF {κ:Type} {kvs:List (κ×V)} {vs:List (κ×Value)} (r:KV kvs vs):(!vs.isEmpty) = !kvs.isEmpty:=by
 cases r<;>rfl
theorem zc5 {xs:List V} {its:List Value} (r:Vals xs its):(!its.toArray.isEmpty) = !xs.isEmpty:=by
 cases r<;>simp
theorem ydF:(sizeLine:Nat)<2 ^ 63:=by rw [sizeLine_eq];decide
theorem yhk:TruR X (λx H Q=>∃ k,TruV X.K x H k/\Q k H):=by
 intro pins s σ H x v Q I rx h
 obtain ⟨k,e,q⟩:=h
 have hl:=ydF
 have hs:sizeLine=16777216:=sizeLine_eq
 cases x with
 | non =>
  cases rx
  have e':k=false:=e
  subst e'
  exact truthy_none ⟨H,I,q⟩
 | bl b =>
  cases rx
  have e':k=b:=e
  subst e'
  exact wpAny_truthy_bool ⟨H,I,q⟩
 | int i =>
  obtain ⟨t,rfl⟩:=rx
  have e':k=(i != 0):=e
  subst e'
  exact PySem.P.truthy_int ⟨H,I,q⟩
 | str y =>
  obtain ⟨t,rfl⟩:=rx
  obtain ⟨hy,e'⟩:y.length<=sizeLine/\k=((y.length:Int) != 0):=e
  subst e'
  exact PySem.P.truthy_str (by lia) ⟨H,I.tok _,q⟩
 | byt y =>
  obtain ⟨t,rfl⟩:=rx
  obtain ⟨hy,e'⟩:y.size<=sizeLine/\k=((y.size:Int) != 0):=e
  subst e'
  exact PySem.W.truthy_bytes (by lia) ⟨H,I.tok _,q⟩
 | ref p =>
  cases rx
  have e':(∃ xs,SqL X.K H p xs/\k = !xs.isEmpty)\/(∃ xs,SqT X.K H p xs/\k = !xs.isEmpty)\/∃ kvs,H p=some (.dK kvs)/\k = !kvs.isEmpty:=e
  rcases e' with ⟨xs,hx,e'⟩ | ⟨xs,hx,e'⟩ | ⟨kvs,hx,e'⟩
  ·subst e'
   obtain ⟨its,r,pl,hz⟩:=I.list hx
   have hlen:=r.length
   exact wpAny_truthy_list pl.isList (by simp only [List.size_toArray];lia) ⟨H,I.tok _,by rw [zc5 r];exact q⟩
  ·subst e'
   obtain ⟨its,r,pl,hz⟩:=I.tuple hx
   have hlen:=r.length
   exact truthy_tuple pl (by simp only [List.size_toArray];lia) ⟨H,I.tok _,by rw [zc5 r];exact q⟩
  ·subst e'
   obtain ⟨hz,hS,vs,r,m⟩:kvs.length<=sizeLine/\(p == sysModules)=false/\∃ vs,KV kvs vs/\s.heap.DictOf (ycp X.prog X.w) p vs:=I.hok p _ hx
   have hlen:kvs.length=vs.length:=Paired.length r
   exact wpAny_truthy_dict hS m (by lia) ⟨H,I.tok _,by rw [zgF r];exact q⟩
 | _=>exact (show False from e).elim
theorem zio (ha:PE X a ta) (he:∀ whole,isTrue a X.env whole=(do let v <- whole;standAt a.pos;holding [v] (truthy v))) :
  PT X a (λσ H Q=>ta σ H λx H' => ∃ k,TruV X.K x H' k/\Q k H'):=by
 intro pins s σ H Q I h
 exact isTrue_plain (thn (ha pins s σ H _ I h) λv s1 ⟨x,H1,I1,r1,q1⟩=>yhk pins s1 σ H1 x v Q I1 r1 q1) (he _)
theorem zgG:OpR X (binaryOp .Add) (λx y H Q=>∃ i j,x = .str i/\y = .str j/\i.length+j.length<=sizeLine/\Q (.str (i++j)) H):=by
 intro pins s σ H x y v u Q I rx ry h
 obtain ⟨i,j,rfl,rfl,hz,q⟩:=h
 obtain ⟨t,rfl⟩:=rx
 obtain ⟨t',rfl⟩:=ry
 exact add_str (λt' tk=>⟨.str (i++j),H,I.tok _,⟨_,rfl⟩,q⟩) hz
theorem ydd {x:V} {us:List Value} (r:Vals [x] us):∃ u,us=[u]/\RelV x u:=by
 cases r with
 | cons r1 r2=>cases r2;exact ⟨_,rfl,r1⟩
theorem yfj {x y:V} {us:List Value} (r:Vals [x,y] us):∃ u w',us=[u,w']/\RelV x u/\RelV y w' := by
 cases r with
 | cons r1 r2 =>
  cases r2 with
  | cons r3 r4=>cases r4;exact ⟨_,_,rfl,r1,r3⟩
theorem ziq:CallR X (.builtin "abs") (λxs H Q=>∃ i,xs=[.int i]/\Q (.int (if i<0 then -i else i)) H):=by
 intro pins s σ H xs us Q I r h
 obtain ⟨i,rfl,q⟩:=h
 obtain ⟨u,rfl,t,rfl⟩:=ydd r
 exact call_abs_int λu tk=>⟨.int (if i<0 then -i else i),H,I.tok _,⟨_,rfl⟩,q⟩
theorem zhl (hc:X.calm=true):CallR X (.builtin "max") (λxs H Q=>∃ i j,xs=[.int i,.int j]/\Q (.int (if j > i then j else i)) H):=by
 intro pins s σ H xs us Q I r h
 obtain ⟨i,j,rfl,q⟩:=h
 obtain ⟨u,w',rfl,⟨t,rfl⟩,⟨t',rfl⟩⟩:=yfj r
 refine max_two_ints (I.ok.hd hc) λh' tk k=>⟨_,H,I.kept k,?_,q⟩
 by_cases hj:j > i
 ·rw [if_pos hj,if_pos hj];exact ⟨_,rfl⟩
 ·rw [if_neg hj,if_neg hj];exact ⟨_,rfl⟩
theorem zhm (hc:X.calm=true):CallR X (.builtin "min") (λxs H Q=>∃ i j,xs=[.int i,.int j]/\Q (.int (if j<i then j else i)) H):=by
 intro pins s σ H xs us Q I r h
 obtain ⟨i,j,rfl,q⟩:=h
 obtain ⟨u,w',rfl,⟨t,rfl⟩,⟨t',rfl⟩⟩:=yfj r
 refine min_two_ints (I.ok.hd hc) λh' tk k=>⟨_,H,I.kept k,?_,q⟩
 by_cases hj:j<i
 ·rw [if_pos hj,if_pos hj];exact ⟨_,rfl⟩
 ·rw [if_neg hj,if_neg hj];exact ⟨_,rfl⟩
theorem zhn:CallR X (.type "int") (λxs H Q=>(∃ i,xs=[.int i]/\Q (.int i) H)\/∃ k,xs=[.bl k]/\Q (.int (if k then 1 else 0)) H):=by
 intro pins s σ H xs us Q I r h
 rcases h with ⟨i,rfl,q⟩ | ⟨k,rfl,q⟩
 ·obtain ⟨u,rfl,t,rfl⟩:=ydd r
  exact call_int_int ⟨.int i,H,I,⟨_,rfl⟩,q⟩
 ·obtain ⟨u,rfl,r1⟩:=ydd r
  cases r1
  exact call_int_bool ⟨.int (if k then 1 else 0),H,I.tok _,⟨_,rfl⟩,q⟩
end
structure ObjM (h:Heap) (x dx C:Addr) (mA:Str->Option Value):Prop where
 obj:h.get? x=some (PySem.W.instObj C dx)
 ns:h.Ns1 dx mA
 ne:dx≠x
theorem zho {h:Heap} {dx:Addr} {mA:Str->Option Value} (n:h.Ns1 dx mA):∃ od,h.get? dx=some od/\∀ name,PySem.W.lookIn name od=some (mA name):=by
 obtain ⟨o,es,ep,ho,hd,hk,_,hm⟩:=n
 refine ⟨o,ho,λname=>?_⟩
 have e:=hm name
 unfold nsFind findBy at e
 rw [<- Array.find?_toList] at e
 unfold PySem.W.lookIn
 rw [hd]
 dsimp only
 split
 ·rename_i y q
  rw [q] at e
  exact congrArg some e
 ·rename_i q
  rw [q] at e
  have a:es.toList.any (·.refKey)=false:=by
   rw [List.any_eq_false]
   intro y hy
   obtain ⟨z,t,hkey⟩:=hk y (Array.mem_toList_iff.mp hy)
   simp [DictEntry.refKey,hkey]
  have a' : ¬ es.toList.any (·.refKey)=true:=by rw [a];exact Bool.false_ne_true
  rw [if_neg a']
  exact congrArg some e
theorem ObjM.look {h:Heap} {x dx C:Addr} {mA:Str->Option Value} (I:ObjM h x dx C mA):∃ od,PySem.W.InstAt h x (PySem.W.instObj C dx) C (some od)/\∀ name,PySem.W.lookIn name od=some (mA name) :=
 let ⟨od,ho,hl⟩:=zho I.ns
 ⟨od,⟨I.obj,rfl,rfl,ho⟩,hl⟩
section
variable {prog:Program} {w:World} {A:Around} {E:Value->Shared->Prop} {s:Shared} {K:PySem.W.Frag} {x dx C f:Addr} {mA:Str->Option Value} {name:Str} {v:Value}
theorem zjs {expr:Bool} {Q:Value->Shared->Prop} (X:K.In s.heap) (I:ObjM s.heap x dx C mA) (hg:PySem.W.plainGet K C name=true) (hh:PySem.W.hasDictIn K C=true)
  (ha:PySem.W.findIn K (.ref C) name=some none) (hv:mA name=some v) (hv':PySem.W.handedIn v=true) (h:Q v { s with toks:=s.toks+1 }) :
  wpAny (model prog w) A (getAttr (.ref x) name expr) Q E s:=by
 obtain ⟨od,J,hl⟩:=I.look
 exact PySem.W.get_value X J (PySem.W.plainGet_of hg).1 (PySem.W.findObj_own hh ha rfl (by rw [hl,hv])) hv' h
theorem zir {pl:Sem Bool} {Q:Value×List Value->Shared->Prop} (X:K.In s.heap) (I:ObjM s.heap x dx C mA) (hg:PySem.W.plainGet K C name=true)
  (hf:PySem.W.findIn K (.ref C) name=some (some (.ref f))) (ht:PySem.W.isFn K (.ref f)=true) (hv:mA name=none) (h:Q (.ref f,[.ref x]) s) :
  wpAny (model prog w) A (getMethod (.ref x) name pl) Q E s:=by
 obtain ⟨od,J,hl⟩:=I.look
 exact PySem.W.method_fn X J (PySem.W.plainGet_of hg).1 (PySem.W.plainGet_of hg).2 hf (beq_iff_eq.mp ht) (by show (PySem.W.lookIn name od).map (·.isSome)=some false;rw [hl,hv];rfl) h
theorem zjt {ns:List Str} {Q:Unit->Shared->Prop} (X:K.In s.heap) (I:ObjM s.heap x dx C mA)
  (hs:PySem.W.findIn K (.ref C) "__setattr__" = some (some (.builtin "object.__setattr__"))) (hp:PySem.W.plainOver K C=true) (ht:PySem.W.takerIn K C name=some none) (hh:PySem.W.hasDictIn K C=true)
  (hw:PySem.Within mA ns) (hsz:ns.length<=sizeLine)
  (h:∀ h',ObjM h' x dx C (λy=>if y=name then some v else mA y)->Heap.SameBut dx s.heap h'->Q () { s with heap:=h',toks:=s.toks+2 }) :
  wpAny (model prog w) A (setAttr (.ref x) name v) Q E s:=by
 obtain ⟨od,J,hl⟩:=I.look
 refine PySem.W.set_plain X J hs (PySem.W.osa_open (s:={ s with toks:=s.toks+1 }) (r:=none) X J hp ht λb=>?_)
 obtain ⟨cd,hc,hd'⟩:=PySem.W.any_some hh
 have hx:s.heap.get? x=some ⟨.ref C,some dx,.plain,#[]⟩:=I.obj
 refine wpAny_bind (wpAny_pure (wpAny_bind (wpAny_bind (wpAny_loadPart hx (wpAny_bind (PySem.W.Looks.here (s:={ s with toks:=s.toks+1 }) (PySem.W.looks_clsIn X hc) ?_))))))
 rw [hd']
 refine wpAny_pure (a:=some dx) (wpAny_bind (wpAny_pure (wpAny_bind ?_)))
 refine wpAny_nsSet1 (s:={ s with toks:=s.toks+1 }) I.ns λh' hn2 hs2=>?_
 obtain ⟨oD,esD,epD,hoD,hdD,hcD⟩:=hn2.count (PySem.Within.cons name v hw)
 refine wpAny_bind (wpAny_lookBehind hoD (by rw [hdD];exact pastItsLine_dict (Nat.le_trans hcD (by rw [List.length_cons];lia))) ?_)
 exact wpAny_pure (h _ ⟨(hs2.2 _ (Ne.symm I.ne)).trans I.obj,hn2,I.ne⟩ hs2)
theorem zis {R:Result->Shared->Prop} {vs:List Value} {kw:List (Str×Value)} (X:K.In s.heap) (hm:PySem.W.makesIn K C=true)
  (hi:PySem.W.findIn K (.ref C) "__init__" = some (some (.ref f))) (hf:PySem.W.typeIn K (.ref f)=some (.type "function"))
  (h:codeAny (model prog w) (A.under (.builtin "type.__call__" ⟨.ref C::vs,kw⟩)) (.call (.ref f) ⟨.ref (s.heap.objs.size+1)::vs,kw⟩) (PySem.W.InitBack (s.heap.objs.size+1) R)
   { s with heap:=(s.heap.push PySem.W.emptyDict).push (PySem.W.instObj C s.heap.objs.size) }) :
  codeAny (model prog w) A (.call (.ref C) ⟨vs,kw⟩) R s:=by
 obtain ⟨hh,g,d,t,os⟩:=s
 exact PySem.W.make_core (PySem.W.makes_of X hm) (PySem.W.looks_findIn X hi) (λself=>PySem.W.bind_fn X self hf) (.inl rfl) h
end
def putF (f:Str) (v:V):List (Str×V)->List (Str×V)
 | []=>[(f,v)]
 | (g,x)::r=>if g=f then (g,v)::r else (g,x)::putF f v r
theorem za2 (f g:Str) (v:V):∀ fs:List (Str×V),(putF f v fs).lookup g=if g=f then some v else fs.lookup g
 | []=>by
  show List.lookup g [(f,v)]=_
  by_cases h:g=f
  ·have hb:(g == f)=true:=beq_iff_eq.mpr h
   simp only [List.lookup,hb,if_pos h]
  ·have hb:(g == f)=false:=beq_eq_false_iff_ne.mpr h
   simp only [List.lookup,hb,if_neg h]
 | (k,x)::r=>by
  have ih:=za2 f g v r
  rw [show putF f v ((k,x)::r)=(if k=f then (k,v)::r else (k,x)::putF f v r) from rfl]
  by_cases hk:k=f
  ·rw [if_pos hk]
   by_cases h:g=k
   ·have hb:(g == k)=true:=beq_iff_eq.mpr h
    simp only [List.lookup,hb,if_pos (h.trans hk)]
   ·have hb:(g == k)=false:=beq_eq_false_iff_ne.mpr h
    simp only [List.lookup,hb,if_neg (λe:g=f=>h (e.trans hk.symm))]
  ·rw [if_neg hk]
   by_cases h:g=k
   ·have hb:(g == k)=true:=beq_iff_eq.mpr h
    simp only [List.lookup,hb,if_neg (λe:g=f=>hk (h.symm.trans e))]
   ·have hb:(g == k)=false:=beq_eq_false_iff_ne.mpr h
    simp only [List.lookup,hb]
    exact ih
theorem zb5 (f:Str) (v:V):∀ fs:List (Str×V),f∈(putF f v fs).map (·.1)/\∀ g,g∈fs.map (·.1)->g∈(putF f v fs).map (·.1)
 | []=>⟨by simp [putF],λg h=>by simp at h⟩
 | (k,x)::r=>by
  obtain ⟨i1,i2⟩:=zb5 f v r
  rw [show putF f v ((k,x)::r)=(if k=f then (k,v)::r else (k,x)::putF f v r) from rfl]
  by_cases hk:k=f
  ·rw [if_pos hk]
   subst hk
   exact ⟨by simp,λg h=>by simpa using h⟩
  ·rw [if_neg hk]
   refine ⟨?_,λg h=>?_⟩
   ·rw [List.map_cons]
    exact List.mem_cons_of_mem _ i1
   ·rw [List.map_cons] at h ⊢
    rcases List.mem_cons.mp h with e | e
    ·exact List.mem_cons.mpr (.inl e)
    ·exact List.mem_cons_of_mem _ (i2 g e)
theorem zcz (f:Str) (v:V):∀ fs:List (Str×V),(putF f v fs).length<=fs.length+1
 | []=>by simp [putF]
 | (k,x)::r=>by
  have ih:=zcz f v r
  rw [show putF f v ((k,x)::r)=(if k=f then (k,v)::r else (k,x)::putF f v r) from rfl]
  by_cases hk:k=f
  ·rw [if_pos hk,List.length_cons,List.length_cons];lia
  ·rw [if_neg hk,List.length_cons,List.length_cons];lia
theorem RelO.some_of {v:V} {o:Option Value} (r:RelO (some v) o):∃ u,o=some u/\RelV v u:=by
 cases o with
 | none=>exact (show False from r).elim
 | some u=>exact ⟨u,rfl,r⟩
theorem RelO.none_of {o:Option Value} (r:RelO none o):o=none:=by
 cases o with
 | none=>rfl
 | some u=>exact (show False from r).elim
theorem zhp {v:V} {u:Value} (r:RelV v u):PySem.W.handedIn u=true:=by
 cases v with
 | non=>cases (show u=Value.none from r);rfl
 | bl b=>cases (show u=Value.bool b from r);rfl
 | int i=>obtain ⟨t,e⟩:=(show ∃ t,u=Value.int i t from r);cases e;rfl
 | str x=>obtain ⟨t,e⟩:=(show ∃ t,u=Value.str x t from r);cases e;rfl
 | byt b=>obtain ⟨t,e⟩:=(show ∃ t,u=Value.bytes b t from r);cases e;rfl
 | flt b=>obtain ⟨t,e⟩:=(show ∃ t,u=Value.float b t from r);cases e;rfl
 | ref a=>cases (show u=Value.ref a from r);rfl
 | ty n=>cases (show u=Value.type n from r);rfl
section
variable {P:Program} {w:World} {H H':Hp} {h h':Heap} {a C dx:Addr} {fs fs':List (Str×V)}
theorem zci (hok:HOk P w H h) (e:H a=some (.ins C dx fs)):∃ mA,ObjM h a dx C mA/\(∀ f,RelO (fs.lookup f) (mA f))/\PySem.Within mA (fs.map (·.1))/\fs.length<=1000/\H dx=some (.own a):=by
 obtain ⟨d,z,ne,ob,mA,n,r,q⟩:=(show ObjOk P w H h a (.ins C dx fs) from hok a _ e)
 exact ⟨mA,⟨ob,n,ne⟩,r,q,z,d⟩
end
structure Cls (K:PySem.W.Frag) (C:Addr):Prop where
 pg:PySem.W.plainGet K C Str.empty=true
 hd:PySem.W.hasDictIn K C=true
 po:PySem.W.plainOver K C=true
 sa:PySem.W.findIn K (.ref C) "__setattr__" = some (some (.builtin "object.__setattr__"))
theorem Cls.get {K:PySem.W.Frag} {C:Addr} (c:Cls K C) (f:Str):PySem.W.plainGet K C f=true:=c.pg
def NoAttr (K:PySem.W.Frag) (C:Addr) (f:Str):Prop:=PySem.W.findIn K (.ref C) f=some none
theorem NoAttr.taker {K:PySem.W.Frag} {C:Addr} {f:Str} (n:NoAttr K C f):PySem.W.takerIn K C f=some none:=by
 unfold PySem.W.takerIn
 rw [show PySem.W.findIn K (.ref C) f=some none from n]
 rfl
structure Meth (K:PySem.W.Frag) (C:Addr) (m:Str) (f:Addr):Prop where
 at_:PySem.W.findIn K (.ref C) m=some (some (.ref f))
 fn:PySem.W.isFn K (.ref f)=true
 kp:PySem.W.keepIn K (.ref f)=true
section
variable {X:Cx} {pins:List (Addr×Obj)} {σ:St} {H:Hp} {s:Shared} {a C dx:Addr} {fs:List (Str×V)} {f:Str} {v:V} {A:Around} {E:Value->Shared->Prop}
theorem zgH {b:Bool} {Q:Value->Shared->Prop} (I:Inv X pins σ H s) (e:H a=some (.ins C dx fs)) (c:Cls X.K C) (n:NoAttr X.K C f) (l:fs.lookup f=some v)
  (h:∀ u s',Inv X pins σ H s'->RelV v u->Q u s'):wpAny (model X.prog X.w) A (getAttr (.ref a) f b) Q E s:=by
 obtain ⟨mA,O,r,_,_,_⟩:=zci I.hok e
 obtain ⟨u,hu,ru⟩:=RelO.some_of (v:=v) (o:=mA f) (by rw [<- l];exact r f)
 exact zjs I.kIn O (c.get f) c.hd n hu (zhp ru) (h u _ (I.tok _) ru)
theorem zc6 {m:Str} {g:Addr} {pl:Sem Bool} {Q:Value×List Value->Shared->Prop} (I:Inv X pins σ H s) (e:H a=some (.ins C dx fs)) (c:Cls X.K C) (k:Meth X.K C m g) (l:fs.lookup m=none)
  (h:Q (.ref g,[.ref a]) s):wpAny (model X.prog X.w) A (getMethod (.ref a) m pl) Q E s:=by
 obtain ⟨mA,O,r,_,_,_⟩:=zci I.hok e
 have hn:mA m=none:=RelO.none_of (by rw [<- l];exact r m)
 exact zir I.kIn O (c.get m) k.at_ k.fn hn h
theorem zgI {y:V} {u:Value} {Q:Unit->Shared->Prop} (I:Inv X pins σ H s) (e:H a=some (.ins C dx fs)) (c:Cls X.K C) (n:NoAttr X.K C f) (hl:fs.length<1000) (ry:RelV y u)
  (h:∀ s',Inv X pins σ (upd H a (.ins C dx (putF f y fs))) s'->Q () s'):wpAny (model X.prog X.w) A (setAttr (.ref a) f u) Q E s:=by
 obtain ⟨mA,O,r,wi,_,ho⟩:=zci I.hok e
 have hz:(fs.map (·.1)).length<=sizeLine:=by rw [List.length_map,sizeLine_eq];lia
 refine zjt I.kIn O c.sa c.po n.taker c.hd wi hz λh' O' sb=>h _ ?_
 have hd:∃ o,h'.get? dx=some o:=let ⟨o,_,_,e',_⟩:=O'.ns;⟨o,e'⟩
 refine I.write (x:=a) (e:=dx) (by rw [e];exact True.intro) (.inr ho) (λb q hb z=>(sb.2 b hb).trans z) hd ?_
 refine ⟨by rw [yaF O.ne];exact ho,?_,O.ne,O'.obj,_,O'.ns,λg=>?_,λg hg=>?_⟩
 ·have:=zcz f y fs;lia
 ·show RelO ((putF f y fs).lookup g) (if g=f then some u else mA g)
  rw [za2]
  by_cases q:g=f
  ·rw [if_pos q,if_pos q];exact ry
  ·rw [if_neg q,if_neg q];exact r g
 ·by_cases q:g=f
  ·rw [q];exact (zb5 f y fs).1
  ·refine (zb5 f y fs).2 g (wi g λz=>hg ?_)
   show (if g=f then some u else mA g)=none
   rw [if_neg q];exact z
theorem Inv.made (I:Inv X pins σ H s):Inv X pins σ (upd (upd H s.heap.objs.size (.own (s.heap.objs.size+1))) (s.heap.objs.size+1) (.ins C s.heap.objs.size []))
  { s with heap:=(s.heap.push PySem.W.emptyDict).push (PySem.W.instObj C s.heap.objs.size) }:=by
 have e1:(s.heap.push PySem.W.emptyDict).get? s.heap.objs.size=some PySem.W.emptyDict:=Heap.get?_push_size s.heap rfl
 have e2:((s.heap.push PySem.W.emptyDict).push (PySem.W.instObj C s.heap.objs.size)).get? (s.heap.objs.size+1)=some (PySem.W.instObj C s.heap.objs.size):=by
  have:=Heap.get?_push_size (s.heap.push PySem.W.emptyDict) (o:=PySem.W.instObj C s.heap.objs.size) rfl
  rwa [Heap.size_push] at this
 have e3:(s.heap.push PySem.W.emptyDict).Ns s.heap.objs.size (λ_=>none):=⟨PySem.W.emptyDict,#[],_,e1,rfl,(λe he=>absurd he (by simp)),λ_=>rfl⟩
 have I1:=I.laid (a:=s.heap.objs.size) (o:=.own (s.heap.objs.size+1)) (h' := s.heap.push PySem.W.emptyDict) (t' := s.toks) (λb u q=>Heap.get?_push_of_some _ q) (Nat.le_refl _) ⟨_,e1⟩
 refine I1.laid (a:=s.heap.objs.size+1) (o:=.ins C s.heap.objs.size []) (t' := s.toks) (λb u q=>Heap.get?_push_of_some _ q) (Nat.le_of_eq (Heap.size_push _ _)) ?_
 have ne:s.heap.objs.size≠s.heap.objs.size+1:=Nat.ne_of_lt (Nat.lt_succ_self _)
 refine ⟨by rw [yaF ne,zax],Nat.zero_le _,ne,e2,λ_=>none,(Heap.Ns1.of_empty e3).at λo q=>Heap.get?_push_of_some _ q,λ_=>True.intro,λy hy=>absurd rfl hy⟩
theorem zju {prog:Program} {w:World} {env:Env} {e:Expr} {f:Str} {pos:Pos} {s:Shared} {Q:Value->Shared->Prop} (hb:attributeBase e f env (eval e env)=eval e env)
  (h:wpAny (model prog w) A (eval e env) (λo s₁=>wpAny (model prog w) A (getAttr o f true) Q E s₁) E s):wpAny (model prog w) A (eval (.Attribute e f pos) env) Q E s :=
 Attribute_any_ h (by rw [arm_eval_Attribute,hb])
end
def tFld (K:PySem.W.Frag) (ta:TE) (f:Str):TE:=λσ H Q=>ta σ H λx H1=>∃ a C dx fs v,x = .ref a/\H1 a=some (.ins C dx fs)/\Cls K C/\NoAttr K C f/\fs.lookup f=some v/\Q v H1
def sFld (K:PySem.W.Frag) (ta tv:TE) (f:Str):TS:=λD σ H=>tv σ H λy H1=>ta σ H1 λx H2=>∃ a C dx fs,x = .ref a/\H2 a=some (.ins C dx fs)/\Cls K C/\NoAttr K C f/\fs.length<1000 /\
 D.nx σ (upd H2 a (.ins C dx (putF f y fs)))
section
variable {X:Cx} {o e value:Expr} {f:Str} {pos pos' tpos:Pos} {ta tv:TE}
theorem yhl (he:PE X e ta) (hb:attributeBase e f X.env (eval e X.env)=eval e X.env):PE X (.Attribute e f pos) (tFld X.K ta f):=by
 intro pins s σ H Q I h
 refine zju hb (thn (he pins s σ H _ I h) λu s1 Zz=>?_);obtain ⟨x,H1,I1,rx,a,C,dx,fs,v,ex,ea,c,n,l,q⟩:=Zz
 subst ex
 obtain rfl:u=Value.ref a:=rx
 exact zgH I1 ea c n l λu' s2 I2 ru=>⟨v,H1,I2,ru,q⟩
theorem yhm (ha:PE X o ta) (hv:PE X value tv) (hs:swapsWith value (some (.Attribute o f pos')) pos.line X.env=pure false):PS X (.Assign [.Attribute o f pos'] value pos) (sFld X.K ta tv f):=by
 intro pins s σ H D I h
 refine plainObj_wpAny_Assign_Attribute (thn (hv pins s σ H _ I h) λu s1 ⟨y,H1,I1,ry,q⟩=>thn (ha pins s1 σ H1 _ I1 q) λov s2 Zz=>?_) hs;obtain ⟨x,H2,I2,rx,a,C,dx,fs,ex,ea,c,n,l,q2⟩:=Zz
 subst ex
 obtain rfl:ov=Value.ref a:=rx
 exact zgI I2 ea c n l ry λs3 I3=>⟨σ,_,I3,q2⟩
end
section
variable {X:Cx} {pins:List (Addr×Obj)} {σ:St} {H:Hp} {s:Shared} {A:Around} {E:Value->Shared->Prop} {Q:Value->Shared->Prop} {c:Value} {b:Bool}
inductive TyOf (K:PySem.W.Frag) (H:Hp):V->Value->Prop where
 | non:TyOf K H .non (.type "NoneType")
 | bl (x:Bool):TyOf K H (.bl x) (.type "bool")
 | int (i:Int):TyOf K H (.int i) (.type "int")
 | str (x:Str):TyOf K H (.str x) (.type "str")
 | flt (x:UInt64):TyOf K H (.flt x) (.type "float")
 | lst {a:Addr} {xs:List V} (e:H a=some (.lst xs)):TyOf K H (.ref a) (.type "list")
 | frz {a:Addr} {o:Obj} {xs:List V} (e:H a=some (.frz o (.lst xs))):TyOf K H (.ref a) (.type "list")
 | tup {a:Addr} {xs:List V} (e:H a=some (.tup xs)):TyOf K H (.ref a) (.type "tuple")
 | dK {a:Addr} {kvs:List (Key×V)} (e:H a=some (.dK kvs)):TyOf K H (.ref a) (.type "dict")
 | dT {a:Addr} {xc:Option (List Addr)} {kvs:List (List Key×V)} (e:H a=some (.dT xc kvs)):TyOf K H (.ref a) (.type "dict")
 | ins {a C dx:Addr} {fs:List (Str×V)} (e:H a=some (.ins C dx fs)) (cl:Cls K C) (ha:PySem.W.findIn K (.ref C) "__class__" = some (some (.builtin "object.__class__")))
   (hn:PySem.W.specialIn K (.builtin "object.__class__") "__get__" = some (some (.builtin "getset_descriptor.__get__"))) (htk:PySem.W.takesIn K (.builtin "object.__class__")=some true)
   (hm:PySem.W.mroIn K C (.type "object")=some true):TyOf K H (.ref a) (.ref C)
theorem zhq {x:V} {u t:Value} (I:Inv X pins σ H s) (rx:RelV x u) (ty:TyOf X.K H x t) (e:PySem.W.kitOne X.K t c=some b) (h:∀ tk,Q (.bool b) { s with toks:=tk }) :
  wpAny (model X.prog X.w) A (call (.builtin "isinstance") [u,c]) Q E s:=by
 cases ty with
 | non=>cases (show u=Value.none from rx);exact PySem.W.kia_one PySem.W.kitx_none I.kIn True.intro e (λz=>nomatch z) h
 | bl y=>cases (show u=Value.bool y from rx);exact PySem.W.kia_one PySem.W.kitx_bool I.kIn True.intro e (λz=>nomatch z) h
 | int i=>obtain ⟨t,q⟩:=(show ∃ t,u=Value.int i t from rx);cases q;exact PySem.W.kia_one PySem.W.kitx_int I.kIn True.intro e (λz=>nomatch z) h
 | str y=>obtain ⟨t,q⟩:=(show ∃ t,u=Value.str y t from rx);cases q;exact PySem.W.kia_one PySem.W.kitx_str I.kIn True.intro e (λz=>nomatch z) h
 | flt y=>obtain ⟨t,q⟩:=(show ∃ t,u=Value.float y t from rx);cases q;exact PySem.W.kia_one PySem.W.kitx_float I.kIn True.intro e (λz=>nomatch z) h
 | @lst a xs ea =>
  cases (show u=Value.ref a from rx)
  obtain ⟨_,_,n,_,h1⟩:=(show ObjOk X.prog X.w H s.heap a (.lst xs) from I.hok a _ ea)
  exact PySem.W.kia_one PySem.W.kitx_list I.kIn ⟨_,h1,rfl⟩ e (λz=>nomatch z) h
 | @frz a ob xs ea =>
  cases (show u=Value.ref a from rx)
  obtain ⟨_,_,_,n,_,h1⟩:=(show ObjOk X.prog X.w H s.heap a (.frz ob (.lst xs)) from I.hok a _ ea)
  exact PySem.W.kia_one PySem.W.kitx_list I.kIn ⟨_,h1,rfl⟩ e (λz=>nomatch z) h
 | @tup a xs ea =>
  cases (show u=Value.ref a from rx)
  obtain ⟨_,_,_,p⟩:=(show ObjOk X.prog X.w H s.heap a (.tup xs) from I.hok a _ ea)
  obtain ⟨o,h1,h2,_⟩:=p
  exact PySem.W.kia_one PySem.W.kitx_tuple I.kIn ⟨o,h1,h2⟩ e (λz=>nomatch z) h
 | @dK a kvs ea =>
  cases (show u=Value.ref a from rx)
  obtain ⟨_,_,vs,_,p⟩:=(show ObjOk X.prog X.w H s.heap a (.dK kvs) from I.hok a _ ea)
  obtain ⟨o,es,ep,h1,h2,_⟩:=p
  exact PySem.W.kia_one PySem.W.kitx_dict I.kIn ⟨o,h1,h2.1⟩ e (λz=>nomatch z) h
 | @dT a xc kvs ea =>
  cases (show u=Value.ref a from rx)
  obtain ⟨_,_,xs,_,o,es,ep,h1,h2,_⟩:=(show ObjOk X.prog X.w H s.heap a (.dT xc kvs) from I.hok a _ ea)
  exact PySem.W.kia_one PySem.W.kitx_dict I.kIn ⟨o,h1,h2.1⟩ e (λz=>nomatch z) h
 | @ins a C dx fs ea cl ha hn htk hm =>
  cases (show u=Value.ref a from rx)
  obtain ⟨mA,O,_⟩:=zci I.hok ea
  obtain ⟨od,J,_⟩:=O.look
  exact PySem.W.kia_one (PySem.W.kitx_own (cl.get _) cl.hd ha hn htk hm) I.kIn J e (λz=>nomatch z) h
end
structure Room (k:Nat) (A:Around):Prop where
 hd:A.handled=none
 dp:A.depth+3*k+5<recursionLimit
 un:A.units+16*k+200<cLine
theorem Room.mono {j k:Nat} {A:Around} (r:Room k A) (h:j<=k):Room j A:=⟨r.hd,by have:=r.dp;lia,by have:=r.un;lia⟩
theorem Room.deeper {k:Nat} {A:Around} (r:Room (k+1) A) (env:Env):Room k (A.deeper env) :=
 ⟨r.hd,by have:=r.dp;show A.depth+1+3*k+5<_;lia,by have:=r.un;show A.units+3+16*k+200<_;lia⟩
theorem zgJ {A:Around} {C:Addr} {us:List Value} {kw:List (Str×Value)}:(A.under (.builtin "type.__call__" ⟨.ref C::us,kw⟩)).depth=A.depth+1:=by
 first | rfl | simp [Around.under,Code.weight,Code.isCreation,Code.isGuard,Code.isCaller,Code.frames,Code.isFrame,guardIds]
theorem zgK {A:Around} {C:Addr} {us:List Value} {kw:List (Str×Value)}:(A.under (.builtin "type.__call__" ⟨.ref C::us,kw⟩)).units=A.units+1:=by
 first | rfl | simp [Around.under,Code.cUnits,Code.frames,Code.isFrame]
theorem Room.make {k:Nat} {A:Around} (r:Room (k+1) A) (C:Addr) (us:List Value) (kw:List (Str×Value)):Room k (A.under (.builtin "type.__call__" ⟨.ref C::us,kw⟩)) :=
 ⟨r.hd,by have:=r.dp;rw [zgJ];lia,by have:=r.un;rw [zgK];lia⟩
theorem Room.depth {k:Nat} {A:Around} (r:Room k A):A.depth<recursionLimit:=by have:=r.dp;lia
def tNil:TA:=λ_ H Q=>Q [] H
def yiE (ta:TE) (tr:TA):TA:=λσ H Q=>ta σ H λx H1=>tr σ H1 λxs H2=>Q (x::xs) H2
section
variable {X:Cx} {e:Expr} {es:List Expr} {te:TE} {t:TA} {pos:Pos}
theorem yf0:PA X [] tNil:=λ_ _ _ _ H Q I h=>Calls.spliced_nil ⟨[],H,I,.nil,h⟩
theorem zds (ha:PE X e te) (hr:PA X es t) (hs:starEach (e::es) X.env=(false,eval e X.env)::starEach es X.env:=by rfl):PA X (e::es) (yiE te t):=by
 intro pos pins s σ H Q I h
 rw [hs]
 show wpAny _ _ (spliced ((false,eval e X.env)::backTo pos (starEach es X.env))) _ _ s
 refine Calls.spliced_cons (thn (ha pins s σ H _ I h) λu s1 Zz=>?_);obtain ⟨x,H1,I1,r1,q1⟩:=Zz
 exact thn (hr pos pins s1 σ H1 _ I1 q1) λus s2 ⟨xs,H2,I2,r2,q2⟩=>⟨x::xs,H2,I2,.cons r1 r2,q2⟩
def tTup (t:TA):TE:=λσ H Q=>t σ H λxs H1=>xs.length<=sizeLine/\∀ p,H1 p=none->Q (.ref p) (upd H1 p (.tup xs))
def tLst (t:TA):TE:=λσ H Q=>t σ H λxs H1=>xs.length<=sizeLine/\∀ p,H1 p=none->Q (.ref p) (upd H1 p (.lst xs))
theorem yhn {x1} (h:PA X es t):PE X (.Tuple es x1 pos) (tTup t):=by
 intro pins s σ H Q I hq
 refine wpAny_Tuple_spliced (thn (h pos pins s σ H _ I hq) λus s1 ⟨xs,H1,I1,r,z,q⟩=>⟨by rw [<- r.length];exact z,?_⟩)
 have hf:H1 s1.heap.objs.size=none:=I1.hok.fresh (Nat.le_refl _)
 refine ⟨.ref s1.heap.objs.size,upd H1 s1.heap.objs.size (.tup xs),I1.laid (t' := s1.toks) (λb u e=>Heap.get?_push_of_some _ e) (Nat.le_refl _) ?_,rfl,q _ hf⟩
 exact ⟨z,us,r,⟨_,Heap.get?_push_size _ rfl,rfl,_,rfl⟩⟩
theorem yf1 (h:PA X es t):PE X (.List es pos) (tLst t):=by
 intro pins s σ H Q I hq
 refine wpAny_List_spliced (thn (h pos pins s σ H _ I hq) λus s1 ⟨xs,H1,I1,r,z,q⟩=>⟨by rw [<- r.length];exact z,?_⟩)
 have hf:H1 s1.heap.objs.size=none:=I1.hok.fresh (Nat.le_refl _)
 refine ⟨.ref s1.heap.objs.size,upd H1 s1.heap.objs.size (.lst xs),I1.laid (t' := s1.toks) (λb u e=>Heap.get?_push_of_some _ e) (Nat.le_refl _) ?_,rfl,q _ hf⟩
 exact ⟨z,us,0,r,Heap.get?_push_size _ rfl⟩
end
abbrev Sp:=List V->Hp->VK->XK->Prop
abbrev CXT:=List Env->Hp->Shared->XK->Value->Shared->Prop
structure Env0 (P:Program) (w:World) (K:PySem.W.Frag) (mg:Str->Option Value) (base:Heap) (A:Around) (outer:List Env) (s:Shared) (H:Hp):Prop where
 frames:A.frames=some outer
 mod:Mod K mg base
 bs:∀ b o,base.get? b=some o->s.heap.get? b=some o/\H b=none
 bsz:base.objs.size<=s.heap.objs.size
 funs:s.heap.FunFrames base outer
 frf:∀ b∈frs outer,H b=none
 hok:HOk P w H s.heap
 bare:AllBare s.gens
def CE (outer:List Env) (P:Program) (w:World) (H:Hp) (s:Shared) (Q:VK) (u:Value) (s':Shared):Prop :=
 ∃ v H',s'.os=s.os/\AllBare s'.gens/\Un (frs outer) [] H H' s.heap s'.heap/\HOk P w H' s'.heap/\RelV v u/\Q v H'
def CR (CX:CXT) (outer:List Env) (P:Program) (w:World) (H:Hp) (s:Shared) (Q:VK) (E:XK) (r:Result) (s':Shared):Prop :=
 match r with
 | .ok (.ret u)=>CE outer P w H s Q u s'
 | .ok _=>False
 | .error e=>CX outer H s E e s'
structure FnOk (P:Program) (w:World) (K:PySem.W.Frag) (mg:Str->Option Value) (base:Heap) (CX:CXT) (k:Nat) (f:Addr) (fd:FuncData) (ps:List Str) (sp:Sp):Prop where
 len:∀ vs H Q E,sp vs H Q E->vs.length=ps.length
 run:∀ (A:Around) (outer:List Env) (s:Shared) (H:Hp) (args:Args) (us:List Value) (vs:List V) (Q:VK) (E:XK),Room k A->Env0 P w K mg base A outer s H->BindsTo s fd args (ps.zip us)->Vals vs us->sp vs H Q E ->
  codeAny (model P w) A (.call (.ref f) args) (CR CX outer P w H s Q E) s
theorem FnOk.imp {P:Program} {w:World} {K:PySem.W.Frag} {mg:Str->Option Value} {base:Heap} {CX:CXT} {k:Nat} {f:Addr} {fd:FuncData} {ps:List Str} {sp sp':Sp} (F:FnOk P w K mg base CX k f fd ps sp)
  (h:∀ vs H Q E,sp' vs H Q E->sp vs H Q E):FnOk P w K mg base CX k f fd ps sp' :=
 ⟨λvs H Q E q=>F.len vs H Q E (h _ _ _ _ q),λA outer s H args us vs Q E hr he hb hv hs=>F.run A outer s H args us vs Q E hr he hb hv (h _ _ _ _ hs)⟩
theorem Env0.make {P:Program} {w:World} {K:PySem.W.Frag} {mg:Str->Option Value} {base:Heap} {A:Around} {outer:List Env} {s:Shared} {H:Hp} (e:Env0 P w K mg base A outer s H) (C:Addr) (us:List Value) (kw:List (Str×Value)) :
  Env0 P w K mg base (A.under (.builtin "type.__call__" ⟨.ref C::us,kw⟩)) outer s H:=⟨by first | exact e.frames | (simpa [Around.under,Code.envs,Code.isFrame,pushEnvs] using e.frames),e.mod,e.bs,e.bsz,e.funs,e.frf,e.hok,e.bare⟩
section
variable {X:Cx} {pins:List (Addr×Obj)} {σ:St} {H:Hp} {s s':Shared}
theorem Inv.env0 (I:Inv X pins σ H s):Env0 X.prog X.w X.K X.mg X.base X.A X.stack s H :=
 ⟨I.ok.frames,I.ok.mod,I.bs,Nat.le_trans I.ok.bsz I.sz,I.stack,I.stkFree,I.hok,I.bare⟩
theorem Inv.after {Q:VK} {u:Value} (I:Inv X pins σ H s) (h:CE X.stack X.prog X.w H s Q u s'):EP X pins σ Q u s' := by
 obtain ⟨v,H',os,bare,un,hok,r,q⟩:=h
 obtain ⟨hh,g,d,t,os'⟩:=s'
 obtain rfl:os'=s.os:=os
 exact ⟨v,H',I.call (h' := hh) (g' := g) (d' := d) (t' := t) (ch:=[]) un hok bare (λb z=>absurd z (by simp)),r,q⟩
end
def Binds (K:PySem.W.Frag) (fd:FuncData) (ps:List Str) (ds:List Value):Prop :=
 ∀ (s:Shared) (us:List Value),K.In s.heap->(us++ds).length=ps.length->BindsTo s fd ⟨us,[]⟩ (ps.zip (us++ds))
theorem Binds.all {K:PySem.W.Frag} {fd:FuncData} {ps:List Str} (h:∀ us:List Value,us.length=ps.length->bindArgs fd ⟨us,[]⟩=pure (ps.zip us)):Binds K fd ps []:=λs us _ hl=>by
 rw [List.append_nil] at hl ⊢
 exact .of_eq (h us hl)
def yho (CX:CXT) (X:Cx) (E:XK):Prop:=∀ (pins:List (Addr×Obj)) (σ:St) (H:Hp) (s:Shared) (e:Value) (s':Shared),Inv X pins σ H s->CX X.stack H s E e s'->X.xe e s'
section
variable {X:Cx} {CX:CXT} {k:Nat} {f C:Addr} {fd:FuncData} {ps:List Str} {sp:Sp} {dvs:List V} {ds:List Value} {E:XK} {x m:Str} {p pos apos:Pos} {e o:Expr} {es:List Expr} {ta:TE} {t:TA}
structure Mk (K:PySem.W.Frag) (C f:Addr):Prop where
 makes:PySem.W.makesIn K C=true
 init:PySem.W.findIn K (.ref C) "__init__" = some (some (.ref f))
 fn:PySem.W.isFn K (.ref f)=true
 kp:PySem.W.keepIn K (.ref C)=true
end
section
variable {X:Cx} {CX:CXT} {k:Nat} {f C:Addr} {fd:FuncData} {ps ks:List Str} {sp:Sp} {E:XK} {x m:Str} {p pos apos kpos:Pos} {e o:Expr} {es:List Expr} {kws:List Keyword} {te ta:TE} {t tk:TA} {nm:Option Str}
variable {g:List Value->List Value->List Value} {gV:List V->List V->List V}
end
structure FnScope (N P:List Str) (sc:Scope):Prop where
 kind:sc.kind = .function
 co:sc.isCoroutine=false
 gen:sc.isGenerator=false
 nd:N.Nodup
 pre:N.take P.length=P
 par:∀ x∈P,sc.names.lookup x=some .local\/sc.names.lookup x=some .cell
 nofree:∀ y∈sc.names,y.2 ≠ .free
theorem zdW {kindOf:Str->Option NameKind} {x:Str}:∀ {binds:List (Str×Value)} {m:Str->Option Value},(∀ v,(x,v)∉binds)->bindL kindOf binds m x=m x
 | [],_,_=>rfl
 | (n,v)::r,m,h=>by
  unfold bindL
  rw [zdW λw hw=>h w (List.mem_cons_of_mem _ hw)]
  split
  ·have:x≠n:=by rintro rfl;exact h v List.mem_cons_self
   simp [this]
  ·rfl
theorem zdX {kindOf:Str->Option NameKind} {x:Str}:∀ {binds:List (Str×Value)} {m:Str->Option Value},(∀ v,(x,v)∉binds)->bindC kindOf binds m x=m x
 | [],_,_=>rfl
 | (n,v)::r,m,h=>by
  unfold bindC
  rw [zdX λw hw=>h w (List.mem_cons_of_mem _ hw)]
  split
  ·rfl
  ·have:x≠n:=by rintro rfl;exact h v List.mem_cons_self
   simp [this]
theorem zdY {kindOf:Str->Option NameKind} {x:Str} {v:Value}:∀ {P:List Str} {vs:List Value} {i:Nat} {m:Str->Option Value},P.Nodup->P[i]? = some x->vs[i]? = some v->kindOf x=some .local ->
  bindL kindOf (P.zip vs) m x=some v
 | [],_,_,_,_,h,_,_=>by simp at h
 | _::_,[],_,_,_,_,h,_=>by simp at h
 | p::P,w::vs,0,m,nd,h1,h2,hk=>by
  simp at h1 h2;subst h1;subst h2
  show bindL kindOf ((p,w)::P.zip vs) m p=_
  unfold bindL
  rw [zdW λv hv=>(List.nodup_cons.mp nd).1 (List.of_mem_zip hv).1,if_pos hk]
  simp
 | p::P,w::vs,i+1,m,nd,h1,h2,hk=>by
  show bindL kindOf ((p,w)::P.zip vs) m x=_
  unfold bindL
  exact zdY (i:=i) (List.nodup_cons.mp nd).2 (by simpa using h1) (by simpa using h2) hk
theorem zdZ {kindOf:Str->Option NameKind} {x:Str} {v:Value}:∀ {P:List Str} {vs:List Value} {i:Nat} {m:Str->Option Value},P.Nodup->P[i]? = some x->vs[i]? = some v->kindOf x≠some .local ->
  bindC kindOf (P.zip vs) m x=some v
 | [],_,_,_,_,h,_,_=>by simp at h
 | _::_,[],_,_,_,_,h,_=>by simp at h
 | p::P,w::vs,0,m,nd,h1,h2,hk=>by
  simp at h1 h2;subst h1;subst h2
  show bindC kindOf ((p,w)::P.zip vs) m p=_
  unfold bindC
  rw [zdX λv hv=>(List.nodup_cons.mp nd).1 (List.of_mem_zip hv).1,if_neg hk]
  simp
 | p::P,w::vs,i+1,m,nd,h1,h2,hk=>by
  show bindC kindOf ((p,w)::P.zip vs) m x=_
  unfold bindC
  exact zdZ (i:=i) (List.nodup_cons.mp nd).2 (by simpa using h1) (by simpa using h2) hk
def start (N:List Str) (vs:List V):St:=vs.map some++List.replicate (N.length-vs.length) none
def cxOf (CX:CXT) (P:Program) (w:World) (K:PySem.W.Frag) (mg:Str->Option Value) (base:Heap) (N:List Str) (qual:Str) (scope:Scope) (f:Addr) (cd:Value) (A:Around) (outer:List Env) (s:Shared) (H:Hp) (E:XK):Cx where
 prog:=P
 w:=w
 K:=K
 mg:=mg
 base:=base
 A:=A.deeper (envOfC qual scope s.heap.objs.size f cd)
 N:=N
 s₀:=s
 H₀:=H
 env:=envOfC qual scope s.heap.objs.size f cd
 outer:=outer
 stack:=envOfC qual scope s.heap.objs.size f cd::outer
 ex:=[]
 calm:=true
 fn:=λ_=>true
 pn:=[]
 xe:=λe s' => wpAny (model P w) (A.deeper (envOfC qual scope s.heap.objs.size f cd)) (leaving (envOfC qual scope s.heap.objs.size f cd) e) (λ_ s'' => CX outer H s E e s'') (λe' s'' => CX outer H s E e' s'') s'
theorem zeB {sc:Scope} {n:Nat} {x:Str} (h:sc.names.lookup x=some .cell):∃ c,(cellsFrom n sc.names []).lookup x=some c:=by
 have q:=PySem.W.cellsFrom_some sc.names n [] (.inl h)
 exact Option.isSome_iff_exists.mp q
theorem zhr {CX:CXT} {P:Program} {w:World} {K:PySem.W.Frag} {mg:Str->Option Value} {base:Heap} {N ps:List Str} {qual:Str} {scope:Scope} {f:Addr} {cd:Value} {A:Around} {outer:List Env} {s s1:Shared} {H:Hp} {E:XK} {us:List Value} {vs:List V}
  (S:FnScope N ps scope) (hd:A.handled=none) (e0:Env0 P w K mg base A outer s H) (hl:vs.length=ps.length) (r:Vals vs us)
  (x:InCallC s s.heap.objs.size (bindL (envOfC qual scope s.heap.objs.size f cd).kindOf (ps.zip us) λ_=>none) (cellsFrom (s.heap.objs.size+1) scope.names []) (bindC (envOfC qual scope s.heap.objs.size f cd).kindOf (ps.zip us) λ_=>none) s1) :
  Inv (cxOf CX P w K mg base N qual scope f cd A outer s H E) [] (start N vs) H s1:=by
 have hpl:ps.length<=N.length:=by have:=congrArg List.length S.pre;rw [List.length_take] at this;omega
 obtain ⟨h1,tk,rfl,hk⟩:=x.done
 have noA:∀ b:Addr,b∉(cxOf CX P w K mg base N qual scope f cd A outer s H E).ex:=λb z=>absurd (show b∈([]:List Addr) from z) (by simp)
 refine ⟨⟨e0.mod,S.kind,rfl,rfl,Nat.le_refl _,λy z c h1 h2=>?_,λy hy=>?_,λy c _ h=>?_,λ_=>hd,Around.frames_deeper e0.frames,.inr ⟨rfl,rfl⟩,λb z=>absurd z (noA b),e0.bs,e0.bsz,λb _ _=>noA b,λb z=>absurd z (noA b),e0.funs,e0.frf⟩,
  rfl,e0.bare,Un.kept hk,⟨_,x.toInCall.ns,λi y v h1 h2 h3=>?_⟩,λy c h=>⟨_,x.cell y c h⟩,e0.hok.fresh (Nat.le_refl _),λy c h=>?_,λp hp=>absurd (show p∈([]:List (Addr×Obj)) from hp) (by simp),e0.hok.kept hk,?_⟩
 ·exact name_of_addr x.apart (PySem.mem_of_lookup h1) (PySem.mem_of_lookup h2)
 ·have hy:scope.names.lookup y=some .cell\/scope.names.lookup y=some .free:=hy
  rcases hy with hy | hy
  ·exact zeB hy
  ·exact absurd rfl (S.nofree _ (PySem.mem_of_lookup hy))
 ·exact Nat.le_of_lt (x.above y c (PySem.mem_of_lookup h))
 ·have hi:i<vs.length:=by
   unfold start at h2
   by_cases hi:i<vs.length
   ·exact hi
   ·rw [List.getElem?_append_right (by simpa using hi)] at h2
    rw [List.getElem?_replicate] at h2
    split at h2<;>cases h2
  have ha:vs[i]? = some v:=by
   unfold start at h2
   rw [List.getElem?_append_left (by simpa using hi),List.getElem?_map] at h2
   cases e:vs[i]? with
   | none=>rw [e] at h2;cases h2
   | some a=>rw [e] at h2;cases h2;rfl
  obtain ⟨u,hu,rv⟩:=r.get ha
  have hp:ps[i]? = some y:=by
   rw [<- S.pre,List.getElem?_take_of_lt (by omega)];exact h1
  have ndP:ps.Nodup:=by rw [<- S.pre];exact S.nd.sublist (List.take_sublist _ _)
  refine ⟨u,rv,?_⟩
  rcases S.par y (List.mem_of_getElem? hp) with k | k
  ·exact .inl ⟨k,zdY ndP hp hu k⟩
  ·obtain ⟨c,e⟩:=zeB (n:=s.heap.objs.size+1) k
   refine .inr ⟨.inl k,c,e,?_⟩
   have q:=x.cell y c e
   rw [zdZ ndP hp hu (by show scope.names.lookup y≠_;rw [k];decide)] at q
   exact q
 ·exact e0.hok.fresh (Nat.le_of_lt (x.above y c (PySem.mem_of_lookup h)))
 ·unfold start
  show _=N.length
  rw [List.length_append,List.length_map,List.length_replicate]
  omega
theorem yiF {CX:CXT} {P:Program} {w:World} {K:PySem.W.Frag} {mg:Str->Option Value} {base:Heap} {k:Nat} {f:Addr} {name qual:Str} {params:Arguments} {body:List Stmt} {scope:Scope} {dV kV doc pm cdv ct oc:Value} {an od:Option Addr}
  {osl:Array (Option Value)} {N ps:List Str} {sp:Sp} (lk:K.lookup f=some ⟨oc,od,.func (PySem.W.fnOf name qual params body scope dV kV doc pm an cdv ct),osl⟩) (hcd:PySem.W.codeIn K cdv qual=true) (S:FnScope N ps scope)
  (len:∀ vs H Q E,sp vs H Q E->vs.length=ps.length)
  (hbody:∀ (A:Around) (outer:List Env) (s:Shared) (H:Hp) (vs:List V) (Q:VK) (E:XK),Room k (A.deeper (envOfC qual scope s.heap.objs.size f cdv))->sp vs H Q E ->
   ∃ t,PSs (cxOf CX P w K mg base N qual scope f cdv A outer s H E) body t/\t { nx:=λ_ H' => Q .non H',rt:=Q } (start N vs) H) :
  FnOk P w K mg base CX (k+1) f (PySem.W.fnOf name qual params body scope dV kV doc pm an cdv ct) ps sp:=by
 refine ⟨len,λA outer s H args us vs Q E hr e0 hb r hsp=>?_⟩
 have hl:=len _ _ _ _ hsp
 have KX:K.In s.heap:=e0.mod.kin.keeps λb o e=>(e0.bs b o e).1
 have lim:s.heap.NoLimit:=e0.mod.nolimit.keeps λb o e=>(e0.bs b o e).1
 have hkind:∀ y∈ps.zip us,scope.names.lookup y.1=some .local\/(scope.names.lookup y.1=some .cell/\((cellsFrom (s.heap.objs.size+1) scope.names []).lookup y.1).isSome=true):=λ⟨n,v⟩ hy=>by
  rcases S.par n (List.of_mem_zip hy).1 with q | q
  ·exact .inl q
  ·exact .inr ⟨q,PySem.W.cellsFrom_some _ _ _ (.inl q)⟩
 refine codeAny_call_function hr.depth (KX _ _ lk) rfl S.co S.gen rfl (PySem.W.codeRec_of KX hcd) (hb _ _ _ _ ?_)
 refine wpAny_newFunctionEnv_cells S.kind hkind λenv he s1 x=>?_
 subst he
 refine ⟨lim.keeps x.toInCall.keep,codeAny_func ?_⟩
 obtain ⟨t,ht,hq⟩:=hbody A outer s H vs Q E (hr.deeper _) hsp
 have I:Inv (cxOf CX P w K mg base N qual scope f cdv A outer s H E) [] (start N vs) H s1:=zhr S hr.hd e0 hl r x
 refine wpAny_mono (ht [] s1 (start N vs) H _ I hq) (λfl s' hs=>?_) λe s' hs=>hs
 have fin:∀ {σ':St} {H':Hp} {v:V} {u:Value},Inv (cxOf CX P w K mg base N qual scope f cdv A outer s H E) [] σ' H' s'->RelV v u->Q v H'->CE outer P w H s Q u s' :=
  λ{σ' H' v u} J rv q=>⟨v,H',J.os,J.bare,J.base,J.hok,rv,q⟩
 cases fl with
 | ret u =>
  obtain ⟨v,σ',H',J,rv,q⟩:=hs
  exact fin J rv q
 | next =>
  obtain ⟨σ',H',J,q⟩:=hs
  exact fin (v:=V.non) (u:=Value.none) J rfl q
 | brk =>
  obtain ⟨_,_,_,q⟩:=hs
  exact False.elim q
 | cont =>
  obtain ⟨_,_,_,q⟩:=hs
  exact False.elim q
section
variable {X:Cx} {x:Str} {p pos:Pos} {e:Expr} {es:List Expr} {t:TA} {id T:String} {r:List V->Hp->VK->Prop}
def tCB (r:List V->Hp->VK->Prop) (t:TA):TE:=λσ H Q=>t σ H λvs H1=>r vs H1 Q
theorem zeC (hc:CallR X (.builtin id) r) (hg:Gl X x) (hm:X.mg x=none) (hv:bootBuiltins x=some (.builtin id)) (ha:PA X (e::es) t) (hn:x ≠ "__name__" := by decide) (hdb:(x == ("__debug__" : Str))=false:=by decide)
  (he:starEach (e::es) X.env=(false,eval e X.env)::starEach es X.env:=by rfl) (hpl:(backTo pos (starEach es X.env)).any (·.1)=false:=by rfl):PE X (.Call (.Name x p) (e::es) [] pos) (tCB r t):=by
 intro pins s σ H Q I h
 refine wpAny_Call_Name_kw (yd7 I hg hm hv ?_ hn hdb)
 exact PyProof.Rows.callWith_builtin1 (thn (ha pos pins s σ H _ I h) λus s1 ⟨vs,H1,I1,r1,q1⟩=>hc pins s1 σ H1 vs us Q I1 r1 q1) he hpl
theorem zhs (hc:CallR X (.type T) r) (hg:Gl X x) (hm:X.mg x=none) (hv:bootBuiltins x=some (.type T)) (ha:PA X (e::es) t) (hn:x ≠ "__name__" := by decide) (hdb:(x == ("__debug__" : Str))=false:=by decide)
  (he:starEach (e::es) X.env=(false,eval e X.env)::starEach es X.env:=by rfl) (hpl:(backTo pos (starEach es X.env)).any (·.1)=false:=by rfl):PE X (.Call (.Name x p) (e::es) [] pos) (tCB r t):=by
 intro pins s σ H Q I h
 refine wpAny_Call_Name_kw (yd7 I hg hm hv ?_ hn hdb)
 exact PyProof.Rows.callWith_type1 (thn (ha pos pins s σ H _ I h) λus s1 ⟨vs,H1,I1,r1,q1⟩=>hc pins s1 σ H1 vs us Q I1 r1 q1) he hpl
end
end L2
namespace HT
open PySem PyProof.Rows
section
open PySem.SeqAt
open PySem.AutoSeq1 (wpAny_loadPart')
open PySem.MeetsSeq PySem.MeetsSeq2 PySem.MeetsSeq3
end
section
variable {prog:Program} {w:World} {A:Around} {E:Value->Shared->Prop} {s:Shared}
theorem cat_tup {t b:Addr} {vs ws:List Value} {Q:Value->Shared->Prop} (ht:IsTup s.heap t vs.toArray) (hb:IsTup s.heap b ws.toArray) (hv:vs≠[])
  (h1:ws=[]->Q (.ref t) s) (h2:ws≠[]->Q (.ref s.heap.objs.size) { s with heap:=s.heap.push { cls:=.type "tuple",data:=.seq (vs++ws).toArray } })
  (hsz:vs.length+ws.length<=sizeLine):wpAny (model prog w) A (binaryOp .Add (.ref t) (.ref b)) Q E s:=by
 obtain ⟨⟨cls,dd,data,sl⟩,ho,hc,n,hd⟩:=id ht
 obtain ⟨⟨cls2,dd2,data2,sl2⟩,ho2,hc2,n2,hd2⟩:=id hb
 simp only at hc hd hc2 hd2
 subst hc hd hc2 hd2
 have e:vs.toArray++ws.toArray=(vs++ws).toArray:=by simp
 by_cases hw:ws=[]
 ·exact concat_meets ⟨_,ho,rfl⟩ ⟨_,ho2,rfl⟩ noFill_tuple_add seq_tuple_add PySem.F.slot_tuple_add PySem.F.entry_tuple_add (PySem.F.args_tuple_add_2 _ _)
   (tuple_addW1 t b vs.toArray ws.toArray n n2 dd dd2 sl sl2 (by simpa using hv) (by simp [hw])) ⟨ho,ho2,h1 hw⟩
 ·refine concat_meets ⟨_,ho,rfl⟩ ⟨_,ho2,rfl⟩ noFill_tuple_add seq_tuple_add PySem.F.slot_tuple_add PySem.F.entry_tuple_add (PySem.F.args_tuple_add_2 _ _)
   (tuple_addW2 t b vs.toArray ws.toArray n n2 dd dd2 sl sl2 (by simpa using hv) (by simpa using hw) (by rw [List.size_toArray,List.size_toArray];exact hsz)) ⟨ho,ho2,?_⟩
  rw [e]
  exact h2 hw
def sIx (n d:Nat):Option Int->Nat
 | none=>d
 | some v=>if v<0 then (v+(n:Int)).toNat else min v.toNat n
theorem sIx_none (n d:Nat):sIx n d none=d:=rfl
theorem sIx_nat (n d k:Nat):sIx n d (some (k:Int))=min k n:=by
 show (if (k:Int)<0 then ((k:Int)+(n:Int)).toNat else min (k:Int).toNat n)=min k n
 rw [if_neg (by lia),Int.toNat_natCast]
theorem sIx_le (n d:Nat) (hd:d<=n) (o:Option Int):sIx n d o<=n:=by
 cases o with
 | none=>exact hd
 | some v =>
  show (if v<0 then (v+(n:Int)).toNat else min v.toNat n)<=n
  by_cases hv:v<0
  ·rw [if_pos hv];lia
  ·rw [if_neg hv];exact Nat.min_le_right _ _
theorem zfR (v:Int) (n d:Nat):(if v<0 then max (v+(n:Int)) 0 else min v (n:Int))=((sIx n d (some v):Nat):Int):=by
 show (if v<0 then max (v+(n:Int)) 0 else min v (n:Int))=(((if v<0 then (v+(n:Int)).toNat else min v.toNat n):Nat):Int)
 by_cases hv:v<0
 ·simp only [if_pos hv];lia
 ·simp only [if_neg hv];lia
theorem zgL (lo hi:Option Int) (n:Nat):Builtin.Slice.sliceAdjust lo hi 1 (n:Int)=(((sIx n 0 lo:Nat):Int),((sIx n n hi:Nat):Int)):=by
 have h1 : ¬ ((1:Int)<0):=by lia
 unfold Builtin.Slice.sliceAdjust
 simp only [h1,if_false]
 refine Prod.ext ?_ ?_
 ·cases lo with
  | none=>rfl
  | some v=>exact zfR v n 0
 ·cases hi with
  | none=>rfl
  | some v=>exact zfR v n n
theorem zgM (i j:Nat):Builtin.Slice.slicePlaces (i:Int) (j:Int) 1=j-i:=by
 unfold Builtin.Slice.slicePlaces
 have h1:(1:Int) > 0:=by lia
 simp only [h1,if_true,Int.ediv_one]
 split<;>lia
theorem zc7 {v:Value} {o:Option Int} {Q:Option Int->Shared->Prop} (p:IsPart v o) (h:Q o s):wpAny (model prog w) A (Builtin.Slice.slicePartIndex v) Q E s:=by
 cases p with
 | none=>exact slicePart_none h
 | int i t=>exact slicePart_int h
theorem zcJ {sl:Addr} {vl vu:Value} {lo hi:Option Int} {n:Nat} {Q:Int×Int×Nat->Shared->Prop} (hs:s.heap.IsSliceOf sl vl vu .none) (pl:IsPart vl lo) (pu:IsPart vu hi)
  (h:Q (((sIx n 0 lo:Nat):Int),1,sIx n n hi-sIx n 0 lo) s):wpAny (model prog w) A (Builtin.Slice.sliceApplied (.ref sl) (pure (n:Int))) Q E s:=by
 obtain ⟨os,hos,hcs,hds⟩:=id hs
 unfold Builtin.Slice.sliceApplied Builtin.Slice.sliceFields
 refine wpAny_bind (wpAny_bind (wpAny_field hos hds (x:=vl) rfl (wpAny_bind (wpAny_field hos hds (x:=vu) rfl (wpAny_bind (wpAny_field hos hds (x:=.none) rfl (wpAny_pure ?_)))))))
 refine wpAny_bind (slicePart_none ?_)
 show wpAny _ _ (if ((1:Int) == 0)=true then _ else _) _ _ s
 rw [if_neg (by decide)]
 refine wpAny_bind (zc7 pl (wpAny_bind (zc7 pu (wpAny_bind (wpAny_pure ?_)))))
 show wpAny _ _ (match Builtin.Slice.sliceAdjust lo hi 1 (n:Int) with | (lo,hi)=>pure (lo,(1:Int),Builtin.Slice.slicePlaces lo hi 1)) _ _ s
 rw [zgL lo hi n]
 show wpAny _ _ (pure (((sIx n 0 lo:Nat):Int),(1:Int),Builtin.Slice.slicePlaces ((sIx n 0 lo:Nat):Int) ((sIx n n hi:Nat):Int) 1)) _ _ s
 rw [zgM]
 exact wpAny_pure h
theorem zit (xs:Array Value) (i k:Nat):((List.range k).filterMap λ(m:Nat)=>xs[((i:Int)+(m:Int)*1).toNat]?).toArray=((xs.toList.drop i).take k).toArray:=by
 have e:(λ(m:Nat)=>xs[((i:Int)+(m:Int)*1).toNat]?)=λm=>xs[i+m]? := by
  funext m
  have:((i:Int)+(m:Int)*1).toNat=i+m:=by lia
  rw [this]
 rw [e]
 have:=pick_run xs i k
 rw [List.filterMap_map] at this
 have e2:((λx=>xs[x]?) ∘ λx=>i+x)=λm=>xs[i+m]? := rfl
 rw [e2] at this
 rw [this]
theorem getItem_tuple_cut {t sl:Addr} {items:Array Value} {vl vu:Value} {lo hi:Option Int} {Q:Value->Shared->Prop} (ht:IsTup s.heap t items) (hs:s.heap.IsSliceOf sl vl vu .none) (pl:IsPart vl lo) (pu:IsPart vu hi)
  (hw : ¬ (sIx items.size 0 lo=0/\sIx items.size items.size hi=items.size))
  (h:Q (.ref s.heap.objs.size) { s with heap:=s.heap.push { cls:=.type "tuple",data:=.seq ((items.toList.drop (sIx items.size 0 lo)).take (sIx items.size items.size hi-sIx items.size 0 lo)).toArray } })
  (hsz:items.size<=sizeLine):wpAny (model prog w) A (getItem (.ref t) (.ref sl)) Q E s:=by
 have htake:sizeOk (.seq ((items.toList.drop (sIx items.size 0 lo)).take (sIx items.size items.size hi-sIx items.size 0 lo)).toArray):=by
  show ((items.toList.drop (sIx items.size 0 lo)).take (sIx items.size items.size hi-sIx items.size 0 lo)).toArray.size<=sizeLine
  rw [List.size_toArray,List.length_take,List.length_drop,Array.length_toList]
  omega
 have hj:sIx items.size items.size hi<=items.size:=sIx_le _ _ (Nat.le_refl _) hi
 obtain ⟨os,hos,hcs,hds⟩:=id hs
 have hTs:s.TypeIs (.ref sl) "slice" := ⟨os,hos,hcs⟩
 unfold getItem
 try with_reducible refine wpAny_holding ?_
 first | refine wpAny_bind (wpAny_pure ?_) | skip
 refine wpAny_bind (wpAny_sequenceKey ht.typeIs (by decide) ?_)
 refine wpAny_bind (wpAny_callSpecial?_slot (name:=Str.ofString "__getitem__") ht.typeIs PyProof.Rows.slot_tuple_getitem
  (wpAny_call_entry PyProof.Rows.slot_tuple_getitem ht.typeIs entry_tuple_getitem ?_ (args_tuple_getitem _ _)))
 show wpAny _ _ (Builtin.Tuple.tupleItemsOf (.ref t) >>= _) _ _ s
 refine wpAny_bind (tupleItemsOf_ ht ?_)
 refine wpAny_bind (wpAny_typeOf hTs ?_)
 rw [if_pos (by decide)]
 refine wpAny_bind (zcJ hs pl pu ?_)
 have hno : ¬ ((((sIx items.size 0 lo:Nat):Int) == 0 && (1:Int) == 1 && (sIx items.size items.size hi-sIx items.size 0 lo) == items.size)=true):=by
  intro q
  rw [Bool.and_eq_true,Bool.and_eq_true] at q
  have q1:((sIx items.size 0 lo:Nat):Int)=0:=eq_of_beq q.1.1
  have q2:sIx items.size items.size hi-sIx items.size 0 lo=items.size:=eq_of_beq q.2
  exact hw ⟨by omega,by omega⟩
 show wpAny _ _ (if (((sIx items.size 0 lo:Nat):Int) == 0 && (1:Int) == 1 && (sIx items.size items.size hi-sIx items.size 0 lo) == items.size)=true then _ else _) _ _ s
 rw [if_neg hno,zit]
 first
  | exact wpAny_bind (m:=Builtin.Tuple.tupleExact _) (wpAny_newObj_type (wpAny_pure ⟨_,rfl,wpAny_pure h⟩) htake)
  | exact wpAny_bind (m:=Builtin.Tuple.tupleExact _) (wpAny_newObj_type (wpAny_bind (wpAny_pure (wpAny_pure ⟨_,rfl,wpAny_pure h⟩))) htake)
  | exact wpAny_bind (wpAny_bind (m:=Builtin.Tuple.tupleExact _) (wpAny_newObj_type (wpAny_pure (wpAny_pure ⟨_,rfl,wpAny_pure h⟩)) htake))
  | exact wpAny_bind (wpAny_bind (m:=Builtin.Tuple.tupleExact _) (wpAny_newObj_type (wpAny_pure ⟨_,rfl,wpAny_pure h⟩) htake))
end
end HT
namespace L2
open PySem PySem.Spec PyProof.Rows
abbrev TO:=St->Hp->(Option Int->Hp->Prop)->Prop
def PO (X:Cx) (e:Option Expr) (t:TO):Prop :=
 ∀ (pins:List (Addr×Obj)) (s:Shared) (σ:St) (H:Hp) (Q:Option Int->Hp->Prop),Inv X pins σ H s->t σ H Q ->
  wpAny (model X.prog X.w) X.A (evalPart e X.env) (λu s' => ∃ o H',Inv X pins σ H' s'/\IsPart u o/\Q o H') X.xe s
def yfJ:TO:=λ_ H Q=>Q none H
def ygA (t:TE):TO:=λσ H Q=>t σ H λx H1=>∃ i,x = .int i/\Q (some i) H1
section
variable {X:Cx} {e:Expr} {te:TE} {lo hi:Option Expr} {tl th:TO} {pos p2:Pos}
theorem zjv:PO X none yfJ:=by
 intro pins s σ H Q I h
 rw [evalPart_none]
 exact wpAny_pure ⟨none,H,I,.none,h⟩
theorem zjw (h:PE X e te):PO X (some e) (ygA te):=by
 intro pins s σ H Q I hw
 rw [evalPart_some]
 refine thn (h pins s σ H _ I hw) λu s1 Zz=>?_;obtain ⟨x,H1,I1,r1,q1⟩:=Zz
 obtain ⟨i,rfl,q⟩:=q1
 obtain ⟨t,rfl⟩:=r1
 exact ⟨some i,H1,I1,.int i t,q⟩
def SlR (X:Cx) (r:V->Option Int->Option Int->Hp->VK->Prop):Prop :=
 ∀ (pins:List (Addr×Obj)) (s:Shared) (σ:St) (H:Hp) (x:V) (v vl vu:Value) (lo hi:Option Int) (sl:Addr) (Q:VK),Inv X pins σ H s->RelV x v->s.heap.IsSliceOf sl vl vu .none->IsPart vl lo->IsPart vu hi->r x lo hi H Q ->
  ∃ T id,typeLookup (.type T) "__getitem__" = pure (some (.builtin id))/\s.TypeIs v T/\wpAny (model X.prog X.w) X.A (getItem v (.ref sl)) (EP X pins σ Q) X.xe s
theorem SlR.or {r r':V->Option Int->Option Int->Hp->VK->Prop} (h:SlR X r) (h':SlR X r'):SlR X (λx lo hi H Q=>r x lo hi H Q\/r' x lo hi H Q):=by
 intro pins s σ H x v vl vu lo hi sl Q I rx hs pl pu q
 rcases q with q | q
 ·exact h pins s σ H x v vl vu lo hi sl Q I rx hs pl pu q
 ·exact h' pins s σ H x v vl vu lo hi sl Q I rx hs pl pu q
def tSl (r:V->Option Int->Option Int->Hp->VK->Prop) (te:TE) (tl th:TO):TE:=λσ H Q=>te σ H λx H1=>tl σ H1 λl H2=>th σ H2 λu H3=>r x l u H3 Q
theorem ziu {r:V->Option Int->Option Int->Hp->VK->Prop} (hr:SlR X r) (he:PE X e te) (hl:PO X lo tl) (hu:PO X hi th):PE X (.Subscript e (.Slice lo hi none p2) pos) (tSl r te tl th):=by
 intro pins s σ H Q I h
 refine Subscript_ (thn (he pins s σ H _ I h) λv s1 Zz=>?_);obtain ⟨x,H1,I1,r1,q1⟩:=Zz
 refine wpAny_Slice (thn (hl pins s1 σ H1 _ I1 q1) λvl s2 ⟨l,H2,I2,pl,q2⟩=>thn (hu pins s2 σ H2 _ I2 q2) λvu s3 Zz=>?_);obtain ⟨u,H3,I3,pu,q3⟩:=Zz
 rw [evalPart_none]
 refine wpAny_pure ?_
 have I4:Inv X pins σ H3 { s3 with heap:=s3.heap.push { cls:=.type "slice",data:=.fields #[vl,vu,.none] } }:=I3.kept (t' := s3.toks) λb ob q=>Heap.get?_push_of_some _ q
 obtain ⟨T,id,hT,ht,hg⟩:=hr pins { s3 with heap:=s3.heap.push { cls:=.type "slice",data:=.fields #[vl,vu,.none] } } σ H3 x v vl vu l u s3.heap.objs.size Q I4 r1 (Heap.IsSliceOf.new ..) pl pu q3
 show wpAny (model X.prog X.w) X.A (subscriptTail e (.Slice lo hi none p2) v (.ref s3.heap.objs.size)) (EP X pins σ Q) X.xe { s3 with heap:=s3.heap.push { cls:=.type "slice",data:=.fields #[vl,vu,.none] } }
 exact tail_any (ops:=[.ref s3.heap.objs.size,v]) ht hT hg (by with_unfolding_all rfl)
def cutV (xs:List V) (lo hi:Option Int):List V:=(xs.drop (HT.sIx xs.length 0 lo)).take (HT.sIx xs.length xs.length hi-HT.sIx xs.length 0 lo)
theorem zcA (xs:List V) (lo hi:Option Int):(cutV xs lo hi).length<=xs.length:=by
 unfold cutV
 rw [List.length_take,List.length_drop]
 lia
def rSlT (K:PySem.W.Frag):V->Option Int->Option Int->Hp->VK->Prop:=λx lo hi H Q=>∃ a xs,x = .ref a/\SqT K H a xs /\
 ¬ (HT.sIx xs.length 0 lo=0/\HT.sIx xs.length xs.length hi=xs.length)/\∀ p,H p=none->Q (.ref p) (upd H p (.tup (cutV xs lo hi)))
theorem sl_tup:SlR X (rSlT X.K):=by
 intro pins s σ H x v vl vu lo hi sl Q I rx hs pl pu h
 obtain ⟨a,xs,rfl,hx,hw,q⟩:=h
 cases rx
 obtain ⟨its,r,ht,hz⟩:=I.tuple hx
 have hlen:its.toArray.size=xs.length:=by rw [List.size_toArray];exact r.length.symm
 refine ⟨"tuple",_,PyProof.Rows.slot_tuple_getitem.lookup,ht.typeIs,?_⟩
 refine HT.getItem_tuple_cut ht hs pl pu (by rw [hlen];exact hw) ?_ (by rw [hlen];exact hz)
 rw [hlen]
 refine ⟨.ref s.heap.objs.size,_,I.laid (t' := s.toks) (o:=.tup (cutV xs lo hi)) (λb ob q=>Heap.get?_push_of_some _ q) (Nat.le_refl _) ?_,rfl,q _ (I.hok.fresh (Nat.le_refl _))⟩
 exact ⟨Nat.le_trans (zcA xs lo hi) hz,_,(r.drop (HT.sIx xs.length 0 lo)).take (HT.sIx xs.length xs.length hi-HT.sIx xs.length 0 lo),IsTup.new _ _⟩
def yiG (K:PySem.W.Frag):R2:=λx y H Q=>∃ a b xs ys,x = .ref a/\y = .ref b/\SqT K H a xs/\SqT K H b ys/\xs≠[]/\xs.length+ys.length<=sizeLine /\
 (ys=[]->Q (.ref a) H)/\(ys≠[]->∀ p,H p=none->Q (.ref p) (upd H p (.tup (xs++ys))))
theorem Vals.nil_iff {xs:List V} {us:List Value} (r:Vals xs us):us=[] ↔ xs=[]:=by
 cases r with
 | nil=>simp
 | cons _ _=>simp
theorem zjx:OpR X (binaryOp .Add) (yiG X.K):=by
 intro pins s σ H x y v u Q I rx ry h
 obtain ⟨a,b,xs,ys,rfl,rfl,ha,hb,hx,hz,q1,q2⟩:=h
 cases rx
 cases ry
 obtain ⟨its,r1,p1,_⟩:=I.tuple ha
 obtain ⟨its2,r2,p2,_⟩:=I.tuple hb
 refine HT.cat_tup p1 p2 (λz=>hx (r1.nil_iff.mp z)) (λz=>⟨.ref a,H,I,rfl,q1 (r2.nil_iff.mp z)⟩) (λz=>?_) (by rw [<- r1.length,<- r2.length];exact hz)
 refine ⟨.ref s.heap.objs.size,_,I.laid (t' := s.toks) (o:=.tup (xs++ys)) (λb ob q=>Heap.get?_push_of_some _ q) (Nat.le_refl _) ?_,rfl,q2 (λw=>z (r2.nil_iff.mpr w)) _ (I.hok.fresh (Nat.le_refl _))⟩
 exact ⟨by rw [List.length_append];exact hz,_,r1.append r2,IsTup.new _ _⟩
end
def ixN (n:Nat) (i:Int):Option Nat:=if 0<=i then (if i<n then some i.toNat else none) else if -(n:Int)<=i then some (i+n).toNat else none
def atI {α:Type} (xs:List α) (i:Int):Option α:=(ixN xs.length i).bind λj=>xs[j]?
theorem zfS {n:Nat} {i:Int} {j:Nat} (h:ixN n i=some j):seqIndex? i n=some j/\j<n /\ -(n:Int)<=i/\i<n:=by
 unfold ixN at h
 by_cases h0:0<=i
 ·rw [if_pos h0] at h
  by_cases h1:i<n
  ·rw [if_pos h1] at h
   have e:i.toNat=j:=Option.some.inj h
   exact ⟨by rw [seqIndex_of h0 h1,e],by lia,by lia,h1⟩
  ·rw [if_neg h1] at h;cases h
 ·rw [if_neg h0] at h
  by_cases h1 : -(n:Int)<=i
  ·rw [if_pos h1] at h
   have e:(i+n).toNat=j:=Option.some.inj h
   exact ⟨by rw [seqIndex_neg (by lia) h1,e],by lia,h1,by lia⟩
  ·rw [if_neg h1] at h;cases h
theorem zcj {α:Type} {xs:List α} {i:Int} {v:α} (h:atI xs i=some v):∃ j,seqIndex? i xs.length=some j/\xs[j]? = some v/\j<xs.length /\ -(xs.length:Int)<=i/\i<xs.length:=by
 unfold atI at h
 cases e:ixN xs.length i with
 | none=>rw [e] at h;cases h
 | some j =>
  rw [e] at h
  obtain ⟨h1,h2,h3,h4⟩:=zfS e
  exact ⟨j,h1,h,h2,h3,h4⟩
theorem zck {α:Type} {xs:List α} {j:Nat} {v:α} (h:xs[j]? = some v):atI xs (j:Int)=some v:=by
 have hj:j<xs.length:=(List.getElem?_eq_some_iff.mp h).1
 have e:ixN xs.length (j:Int)=some j:=by
  unfold ixN
  rw [if_pos (by lia),if_pos (by lia)];simp
 unfold atI;rw [e];exact h
theorem ziv {α:Type} (xs:List α) (v:α):atI (xs++[v]) (-1)=some v:=by
 have hl:(xs++[v]).length=xs.length+1:=by simp
 have e:ixN (xs++[v]).length (-1)=some xs.length:=by
  unfold ixN
  rw [hl,if_neg (by decide),if_pos (by lia)]
  congr 1
  lia
 unfold atI
 rw [e]
 show (xs++[v])[xs.length]? = some v
 simp
def yfK (b:Expr):Prop:=∀ o i,subscripted b false o i=operate [o,i] (getItem o i)
def IxR (X:Cx) (r:R2):Prop :=
 ∀ (value slice:Expr) (pins:List (Addr×Obj)) (s:Shared) (σ:St) (H:Hp) (x y:V) (v u:Value) (Q:VK),Inv X pins σ H s->RelV x v->RelV y u->r x y H Q ->
  subscripted slice false v u=operate [v,u] (getItem v u)->wpAny (model X.prog X.w) X.A (subscriptTail value slice v u) (EP X pins σ Q) X.xe s
def MtR (X:Cx) (id:String) (r:V->List V->Hp->VK->Prop):Prop :=
 ∀ (pins:List (Addr×Obj)) (s:Shared) (σ:St) (H:Hp) (x:V) (xs:List V) (v:Value) (us:List Value) (Q:VK),Inv X pins σ H s->RelV x v->Vals xs us->r x xs H Q ->
  wpAny (model X.prog X.w) X.A (call (.builtin id) (v::us)) (EP X pins σ Q) X.xe s
section
variable {X:Cx} {a b:Expr} {ta tb:TE} {pos:Pos}
theorem IxR.or {r r':R2} (h:IxR X r) (h':IxR X r'):IxR X (λx y H Q=>r x y H Q\/r' x y H Q):=by
 intro value slice pins s σ H x y v u Q I rx ry q hs
 rcases q with q | q
 ·exact h value slice pins s σ H x y v u Q I rx ry q hs
 ·exact h' value slice pins s σ H x y v u Q I rx ry q hs
theorem yiH {r:R2} (hr:IxR X r) (ha:PE X a ta) (hb:PE X b tb) (hs:yfK b):PE X (.Subscript a b pos) (tOp r ta tb):=by
 intro pins s σ H Q I h
 exact Subscript_ (binT ha hb I h λv u s2 x y H2 I2 rx ry q=>hr a b pins s2 σ H2 x y v u Q I2 rx ry q (hs _ _))
def rIxL (K:PySem.W.Frag):R2:=λx y H Q=>∃ p xs i v,x = .ref p/\y = .int i/\SqL K H p xs/\atI xs i=some v/\Q v H
def rIxT (K:PySem.W.Frag):R2:=λx y H Q=>∃ p xs i v,x = .ref p/\y = .int i/\SqT K H p xs/\atI xs i=some v/\Q v H
def rIxS:R2:=λx y H Q=>∃ z i c,x = .str z/\y = .int i/\z.length<=sizeLine/\atI z.cps.toList i=some c/\Q (.str ⟨#[c]⟩) H
theorem zjy:IxR X (rIxL X.K):=by
 intro value slice pins s σ H x y v u Q I rx ry h hs
 obtain ⟨p,xs,i,z,rfl,rfl,hq,he,q⟩:=h
 cases rx
 obtain ⟨t,rfl⟩:=ry
 obtain ⟨its,r,pl,hz⟩:=I.list hq
 obtain ⟨j,h1,h2,h3,h4,h5⟩:=zcj he
 obtain ⟨w,ew,rw'⟩:=r.get h2
 have hl:=r.length
 have hn:=ydF
 have fin:EP X pins σ Q w s:=⟨z,H,I,rw',q⟩
 by_cases h0:0<=i
 ·have hj:i.toNat=j:=by
   rw [seqIndex_of h0 h5] at h1
   exact Option.some.inj h1
  exact item_listR pl.isList h0 (by lia) (by rw [hj];simpa using ew) fin hs
 ·have hj:(i+(its.toArray.size:Int)).toNat=j:=by
   rw [seqIndex_neg (by lia) h4] at h1
   rw [List.size_toArray,<- hl]
   exact Option.some.inj h1
  exact subscriptTail_builtinR (x:=w) pl.isList.typeIs slot_list_getitem.lookup
   (wpAny_getItem_list_neg (Q:=λr s' => r=w/\EP X pins σ Q r s') pl.isList (by lia) (by rw [List.size_toArray]<;>lia) (by lia) (by rw [hj];simpa using ew) ⟨rfl,fin⟩) hs
theorem ix_tup:IxR X (rIxT X.K):=by
 intro value slice pins s σ H x y v u Q I rx ry h hs
 obtain ⟨p,xs,i,z,rfl,rfl,hq,he,q⟩:=h
 cases rx
 obtain ⟨t,rfl⟩:=ry
 obtain ⟨its,r,pl,hz⟩:=I.tuple hq
 obtain ⟨j,h1,h2,h3,h4,h5⟩:=zcj he
 obtain ⟨w,ew,rw'⟩:=r.get h2
 have hl:=r.length
 have hn:=ydF
 have fin:EP X pins σ Q w s:=⟨z,H,I,rw',q⟩
 exact subscriptTail_builtinR (x:=w) pl.typeIs slot_tuple_getitem.lookup
  (getItem_tuple (j:=j) (Q:=λr s' => r=w/\EP X pins σ Q r s') pl (by lia) (by lia) (by rw [List.size_toArray,<- hl];exact h1) (by simpa using ew) ⟨rfl,fin⟩) hs
theorem yhp:IxR X rIxS:=by
 intro value slice pins s σ H x y v u Q I rx ry h hs
 obtain ⟨z,i,c,rfl,rfl,hz,he,q⟩:=h
 obtain ⟨t,rfl⟩:=rx
 obtain ⟨t',rfl⟩:=ry
 obtain ⟨j,h1,h2,h3,h4,h5⟩:=zcj he
 have hl:z.cps.toList.length=z.length:=by simp [Str.length]
 rw [hl] at h1 h4 h5
 have hn:=ydF
 exact tail_any (typeIs_str s z t) slot_str_getitem.lookup (getItem_str (c:=c) (by
  have e1:decide (i < -(2 ^ 63:Int))=false:=decide_eq_false (by lia)
  have e2:decide (i ≥ 2 ^ 63)=false:=decide_eq_false (by lia)
  rw [e1,e2,Bool.or_false]) (by rw [h1];simpa using h2) ⟨.str ⟨#[c]⟩,H,I.tok _,⟨_,rfl⟩,q⟩) hs
def rIx (K:PySem.W.Frag):R2:=λx y H Q=>rIxL K x y H Q\/rIxT K x y H Q\/rIxS x y H Q
theorem yhq:IxR X (rIx X.K):=zjy.or (ix_tup.or yhp)
theorem zgN (its:List Value) (n j:Nat) (u:Value):Obj.mapSeq (·.setIfInBounds j u) { cls:=.type "list",data:=.seq its.toArray n }={ cls:=.type "list",data:=.seq (its.set j u).toArray n }:=by
 simp [Obj.mapSeq]
theorem Inv.lst {pins:List (Addr×Obj)} {σ:St} {H:Hp} {s:Shared} {p:Addr} {xs:List V} (I:Inv X pins σ H s) (h:H p=some (.lst xs)) :
  ∃ (its:List Value) (n:Nat),Vals xs its/\s.heap.get? p=some { cls:=.type "list",data:=.seq its.toArray n }/\xs.length<=sizeLine:=by
 obtain ⟨z,its,n,r,e⟩:=I.hok p _ h
 exact ⟨its,n,r,e,z⟩
theorem Inv.lstUpd {pins:List (Addr×Obj)} {σ:St} {H:Hp} {s:Shared} {p:Addr} {xs ys:List V} {its its':List Value} {n n':Nat} {f:Obj->Obj} (I:Inv X pins σ H s) (h:H p=some (.lst xs))
  (ho:s.heap.get? p=some { cls:=.type "list",data:=.seq its.toArray n }) (hf:f { cls:=.type "list",data:=.seq its.toArray n }={ cls:=.type "list",data:=.seq its'.toArray n' }) (r:Vals ys its') (hz:ys.length<=sizeLine) (t:Nat) :
  Inv X pins σ (upd H p (.lst ys)) { s with heap:=s.heap.update p f,toks:=t }:=by
 have e:(s.heap.update p f).get? p=some { cls:=.type "list",data:=.seq its'.toArray n' }:=by
  rw [Heap.get?_update_self f ho (by rw [hf]<;>rfl),hf]
 refine I.write (x:=p) (e:=p) (by rw [h];trivial) (.inl rfl) (λb u hb q=>(Heap.get?_update_other _ _ (Ne.symm hb)).trans q) ⟨_,e⟩ ?_
 exact ⟨hz,its',n',r,e⟩
def yiI:V->V->V->Hp->(Hp->Prop)->Prop:=λo i v H Q=>∃ p xs k j,o = .ref p/\i = .int k/\H p=some (.lst xs)/\ixN xs.length k=some j/\Q (upd H p (.lst (xs.set j v)))
theorem ziw:PSet X yiI:=by
 intro pins s σ H o i v ov iv u Q I ro ri rv h
 obtain ⟨p,xs,k,j,rfl,rfl,hp,hj,q⟩:=h
 cases ro
 obtain ⟨t,rfl⟩:=ri
 obtain ⟨its,n,r,ho,hz⟩:=I.lst hp
 obtain ⟨h1,h2,h3,h4⟩:=zfS hj
 have hl:=r.length
 have hn:=ydF
 have I':Inv X pins σ (upd H p (.lst (xs.set j v))) { s with heap:=s.heap.update p (Obj.mapSeq (·.setIfInBounds j u)) } :=
  I.lstUpd hp ho (zgN its n j u) (r.set rv j) (by rw [List.length_set];exact hz) s.toks
 by_cases h0:0<=k
 ·have hk:k.toNat=j:=by
   rw [seqIndex_of h0 h4] at h1
   exact Option.some.inj h1
  exact PySem.W.ki_setAt ho h0 (by lia) (by rw [List.size_toArray,<- hl];exact h4) (by rw [hk];exact ⟨_,I',q⟩)
 ·have hk:(k+(its.toArray.size:Int)).toNat=j:=by
   rw [seqIndex_neg (by lia) h3] at h1
   rw [List.size_toArray,<- hl]
   exact Option.some.inj h1
  exact PySem.W.ki_setBack ho (by lia) (by rw [List.size_toArray,<- hl];exact h3) (by lia) (by rw [hk];exact ⟨_,I',q⟩)
theorem zeD (lo hi:Option Int) (n:Nat):(sliceBounds lo hi none n).1=((HT.sIx n 0 lo:Nat):Int)/\(sliceBounds lo hi none n).2.1=((HT.sIx n n hi:Nat):Int)/\(sliceBounds lo hi none n).2.2=1:=by
 refine ⟨?_,?_,rfl⟩
 ·cases lo with
  | none=>simp [sliceBounds,HT.sIx]
  | some i =>
   simp only [sliceBounds,HT.sIx,Option.getD_none,show (1:Int) > 0 by decide,if_true]
   by_cases h:i<0
   ·simp only [h,if_true]<;>lia
   ·simp only [h,if_false]<;>lia
 ·cases hi with
  | none=>simp [sliceBounds,HT.sIx]
  | some i =>
   simp only [sliceBounds,HT.sIx,Option.getD_none,show (1:Int) > 0 by decide,if_true]
   by_cases h:i<0
   ·simp only [h,if_true]<;>lia
   ·simp only [h,if_false]<;>lia
theorem zel (its:List Value) (lo hi:Option Int):slicePick its.toArray lo hi none=((its.drop (HT.sIx its.length 0 lo)).take (HT.sIx its.length its.length hi-HT.sIx its.length 0 lo)).toArray:=by
 obtain ⟨h1,h2,h3⟩:=zeD lo hi its.toArray.size
 unfold slicePick
 rw [h1,h2,h3]
 simp only [sliceRange_one,pick_run,List.size_toArray]<;>rfl
def rSlL (K:PySem.W.Frag):V->Option Int->Option Int->Hp->VK->Prop:=λx lo hi H Q=>∃ a xs,x = .ref a/\SqL K H a xs/\∀ p,H p=none->Q (.ref p) (upd H p (.lst (cutV xs lo hi)))
theorem zjz:SlR X (rSlL X.K):=by
 intro pins s σ H x v vl vu lo hi sl Q I rx hs pl pu h
 obtain ⟨a,xs,rfl,hx,q⟩:=h
 cases rx
 obtain ⟨its,r,ht,hz⟩:=I.list hx
 have hlen:=r.length
 refine ⟨"list",_,slot_list_getitem.lookup,ht.isList.typeIs,?_⟩
 refine wpAny_getItem_list_slice ht.isList hs pl pu .none (by simp) ?_ (by rw [List.size_toArray]<;>omega)
 rw [zel,<- hlen]
 refine ⟨.ref s.heap.objs.size,_,I.laid (t' := s.toks) (o:=.lst (cutV xs lo hi)) (λb ob q=>Heap.get?_push_of_some _ q) (Nat.le_refl _) ?_,rfl,q _ (I.hok.fresh (Nat.le_refl _))⟩
 exact ⟨Nat.le_trans (zcA xs lo hi) hz,_,0,(r.drop (HT.sIx xs.length 0 lo)).take (HT.sIx xs.length xs.length hi-HT.sIx xs.length 0 lo),Heap.get?_push_size _ rfl⟩
theorem zeE:OpR X (compareOp .NotIn) (λx y H Q=>∃ i j,x = .str i/\y = .str j/\Q (.bl (!(!(Builtin.Str.occurrences j i 0 j.length 1).isEmpty))) H):=by
 intro pins s σ H x y v u Q I rx ry h
 obtain ⟨i,j,rfl,rfl,q⟩:=h
 obtain ⟨t,rfl⟩:=rx
 obtain ⟨t',rfl⟩:=ry
 exact notIn_str ⟨.bl _,H,I,rfl,q⟩
theorem zeF:CallR X (.builtin "len") (λxs H Q=>∃ p ys,xs=[.ref p]/\(SqL X.K H p ys\/SqT X.K H p ys)/\Q (.int ys.length) H):=by
 intro pins s σ H xs us Q I r h
 obtain ⟨p,ys,rfl,hq,q⟩:=h
 obtain ⟨u,rfl,rx⟩:=ydd r
 cases rx
 have hn:=ydF
 rcases hq with hq | hq
 ·obtain ⟨its,r',pl,hz⟩:=I.list hq
  have hlen:=r'.length
  exact Calls.call_len_list pl.isList (by simp only [List.size_toArray]<;>lia) ⟨.int ys.length,H,I.tok _,⟨s.toks+1,by rw [List.size_toArray,hlen]⟩,q⟩
 ·obtain ⟨its,r',pl,hz⟩:=I.tuple hq
  have hlen:=r'.length
  exact len_tuple pl (by simp only [List.size_toArray]<;>lia) ⟨.int ys.length,H,I.tok _,⟨s.toks+1,by rw [List.size_toArray,hlen]⟩,q⟩
theorem zeG:CallR X (.builtin "len") (λxs H Q=>∃ z,xs=[.str z]/\z.length<=sizeLine/\Q (.int z.length) H):=by
 intro pins s σ H xs us Q I r h
 obtain ⟨z,rfl,hz,q⟩:=h
 obtain ⟨u,rfl,t,rfl⟩:=ydd r
 have hn:=ydF
 exact len_str (by lia) ⟨.int z.length,H,I.tok _,⟨_,rfl⟩,q⟩
theorem CallR.or {f:Value} {r r':List V->Hp->VK->Prop} (h:CallR X f r) (h':CallR X f r'):CallR X f (λxs H Q=>r xs H Q\/r' xs H Q):=by
 intro pins s σ H xs us Q I rs q
 rcases q with q | q
 ·exact h pins s σ H xs us Q I rs q
 ·exact h' pins s σ H xs us Q I rs q
def tyV (K:PySem.W.Frag) (T:String) (x:V) (H:Hp):Prop:=match x with
 | .str _=>T = "str"
 | .int _=>T = "int"
 | .ref p=>(T = "list" /\ ∃ xs,SqL K H p xs)\/(T = "tuple" /\ ∃ o,K.lookup p=some o/\o.cls = .type "tuple" /\ o.dict=none) \/
   (T = "dict" /\ ((∃ kvs,H p=some (.dK kvs))\/∃ xc kvs,H p=some (.dT xc kvs)))\/(T = "set" /\ ∃ S n,H p=some (.set S n))
 | _=>False
theorem yf2 {pins:List (Addr×Obj)} {σ:St} {H:Hp} {s:Shared} {T:String} {x:V} {v:Value} (I:Inv X pins σ H s) (r:RelV x v) (ty:tyV X.K T x H) :
  s.TypeIs v T/\∀ a,v = .ref a->∃ ob,s.heap.get? a=some ob/\ob.dict=none:=by
 cases x with
 | str z =>
  obtain ⟨t,rfl⟩:=r
  cases (show T = "str" from ty)
  exact ⟨typeIs_str s z t,λ_ e=>nomatch e⟩
 | int i =>
  obtain ⟨t,rfl⟩:=r
  cases (show T = "int" from ty)
  exact ⟨typeIs_int s i t,λ_ e=>nomatch e⟩
 | ref p =>
  cases r
  rcases ty with ⟨rfl,xs,hq⟩ | ⟨rfl,o,hk,hc,hd⟩ | ⟨rfl,hk⟩ | ⟨rfl,S,n,hk⟩
  ·obtain ⟨its,_,pl,_⟩:=I.list hq
   refine ⟨pl.isList.typeIs,λa e=>?_⟩
   cases e
   obtain ⟨o,n,e,c,hd,_⟩:=pl
   exact ⟨o,e,hd⟩
  ·refine ⟨⟨o,I.kIn p o hk,hc⟩,λa e=>?_⟩
   cases e
   exact ⟨o,I.kIn _ o hk,hd⟩
  ·have z:∃ o,s.heap.get? p=some o/\o.ExactDict:=by
    rcases hk with ⟨kvs,hk⟩ | ⟨xc,kvs,hk⟩
    ·obtain ⟨_,_,_,_,o,_,_,e,ex,_⟩:=I.hok p _ hk
     exact ⟨o,e,ex⟩
    ·obtain ⟨_,_,_,_,o,_,_,e,ex,_⟩:=I.hok p _ hk
     exact ⟨o,e,ex⟩
   obtain ⟨o,e,ex⟩:=z
   refine ⟨⟨o,e,ex.1⟩,λa e2=>?_⟩
   cases e2
   exact ⟨o,e,ex.2.1⟩
  ·obtain ⟨o,_,_,_,e,ex,_⟩:=I.hok p _ hk
   refine ⟨⟨o,e,ex.1⟩,λa e2=>?_⟩
   cases e2
   exact ⟨o,e,ex.2.1⟩
 | _=>exact False.elim ty
def tBM0 (K:PySem.W.Frag) (T:String) (r:V->List V->Hp->VK->Prop) (to:TE):TE:=λσ H Q=>to σ H λx H1=>tyV K T x H1/\r x [] H1 Q
def tBM (K:PySem.W.Frag) (T:String) (r:V->List V->Hp->VK->Prop) (to:TE) (t:TA):TE:=λσ H Q=>to σ H λx H1=>tyV K T x H1/\t σ H1 λxs H2=>r x xs H2 Q
variable {o e:Expr} {es:List Expr} {to:TE} {t:TA} {name:Str} {apos cpos:Pos} {T id:String} {r:V->List V->Hp->VK->Prop}
theorem yhr (pa:PlainAttrs T) (slot:Slot T name id) (hty:typeOf (.builtin id)=pure (.type "method_descriptor")) (hm:MtR X id r) (ho:PE X o to)
  (hbase:attributeBase o name X.env (eval o X.env)=eval o X.env:=by rfl) (hline:(apos.endLine == cpos.line)=true:=by rfl):PE X (.Call (.Attribute o name apos) [] [] cpos) (tBM0 X.K T r to):=by
 intro pins s σ H Q I h
 refine wpAny_Call_method0_late hbase hline (thn (ho pins s σ H _ I h) λv s1 Zz=>?_);obtain ⟨x,H1,I1,r1,ty,q1⟩:=Zz
 obtain ⟨h1,h2⟩:=yf2 I1 r1 ty
 exact ⟨T,id,pa,slot,hty,h1,h2,Calls.callWith_builtin rfl (PySem.evalArgs_none (hm pins s1 σ H1 x [] v [] Q I1 r1 .nil q1))⟩
theorem yiJ (pa:PlainAttrs T) (slot:Slot T name id) (hty:typeOf (.builtin id)=pure (.type "method_descriptor")) (hm:MtR X id r) (ho:PE X o to) (ha:PA X (e::es) t)
  (hbase:attributeBase o name X.env (eval o X.env)=eval o X.env:=by rfl)
  (hfew:((backTo cpos (starEach (e::es) X.env)).all (λx=>!x.1) && (backToKw cpos (keywordEach [] X.env)).all (λx=>x.1.isSome)
   && decide ((e::es).length+([]:List Keyword).length+(if ([]:List Keyword).isEmpty then 0 else 1)<30))=true:=by rfl)
  (hline:(apos.endLine == cpos.line)=true:=by rfl) (hs:starEach (e::es) X.env=(false,eval e X.env)::starEach es X.env:=by rfl) (hplain:(backTo cpos (starEach es X.env)).any (·.1)=false:=by rfl) :
  PE X (.Call (.Attribute o name apos) (e::es) [] cpos) (tBM X.K T r to t):=by
 intro pins s σ H Q I h
 refine wpAny_Call_method_late hbase hfew hline rfl (thn (ho pins s σ H _ I h) λv s1 Zz=>?_);obtain ⟨x,H1,I1,r1,ty,q1⟩:=Zz
 obtain ⟨h1,h2⟩:=yf2 I1 r1 ty
 refine ⟨T,id,pa,slot,hty,h1,h2,?_⟩
 have hA:=ha cpos pins s1 σ H1 _ I1 q1
 rw [hs] at hA ⊢
 refine Calls.callWith_builtin (by show (false || (backTo cpos (starEach es X.env)).any (·.1))=false;rw [hplain]<;>rfl) (Calls.evalArgs_plain ?_)
 exact thn hA λus s2 ⟨vs,H2,I2,r2,q2⟩=>hm pins s2 σ H2 x vs v us Q I2 r1 r2 q2
end
def MtM (X:Cx) (id:String) (r:V->List V->Hp->VK->Prop):Prop :=
 ∀ (pins:List (Addr×Obj)) (s:Shared) (σ:St) (H:Hp) (x:V) (xs:List V) (v:Value) (us:List Value) (Q:VK),Inv X pins σ H s->RelV x v->Vals xs us->r x xs H Q ->
  wpAny (model X.prog X.w) X.A (call (.builtin id) (v::us)) (EP X pins σ Q) X.xe s
theorem Vals.one:∀ {x:V} {us:List Value},Vals [x] us->∃ u,us=[u]/\RelV x u
 | _,_,.cons r .nil=>⟨_,rfl,r⟩
theorem Vals.zero:∀ {us:List Value},Vals [] us->us=[]
 | _,.nil=>rfl
theorem Vals.dropLast {xs:List V} {us:List Value} (h:Vals xs us):Vals xs.dropLast us.dropLast:=by
 induction h with
 | nil=>exact .nil
 | cons r t ih =>
  cases t with
  | nil=>exact .nil
  | cons q t' => exact .cons r ih
theorem Vals.rep {xs:List V} {us:List Value} (h:Vals xs us):∀ k:Nat,Vals (List.replicate k xs).flatten (List.replicate k us).flatten
 | 0=>.nil
 | k+1=>by
  rw [List.replicate_succ,List.replicate_succ,List.flatten_cons,List.flatten_cons]
  exact Vals.append h (Vals.rep h k)
theorem zgO {α:Type} (l:List α):l.eraseIdx (l.length-1)=l.dropLast:=by
 induction l with
 | nil=>rfl
 | cons a r ih =>
  cases r with
  | nil=>rfl
  | cons b r =>
   have e:(a::b::r).length-1=((b::r).length-1)+1:=by
    have h1:(a::b::r).length=r.length+2:=rfl
    have h2:(b::r).length=r.length+1:=rfl
    omega
   rw [e,List.eraseIdx_cons_succ,ih]
   all_goals rfl
section
variable {X:Cx} {pins:List (Addr×Obj)} {σ:St} {H:Hp} {s:Shared} {l b:Addr} {xs ys zs:List V}
theorem Inv.lset {its its':List Value} {n:Nat} {f:Array Value->Array Value} {t':Nat} (I:Inv X pins σ H s) (hH:H l=some (.lst xs))
  (e:s.heap.get? l=some { cls:=.type "list",data:=.seq its.toArray n }) (hf:f its.toArray=its'.toArray) (hv:Vals ys its') (hz:ys.length<=sizeLine) :
  Inv X pins σ (upd H l (.lst ys)) { s with heap:=s.heap.update l (Obj.mapSeq f),toks:=t' }:=by
 have q:=PySem.IsL.update e f
 rw [hf] at q
 refine I.write (x:=l) (e:=l) (by rw [hH];exact trivial) (.inl rfl) (λb' u hb hu=>(Heap.get?_update_other s.heap (Obj.mapSeq f) (Ne.symm hb)).trans hu) ⟨_,q⟩ ?_
 exact ⟨hz,its',_,hv,q⟩
theorem Inv.lnew {its:List Value} {t':Nat} (I:Inv X pins σ H s) (hv:Vals ys its) (hz:ys.length<=sizeLine) :
  Inv X pins σ (upd H s.heap.objs.size (.lst ys)) { s with heap:=s.heap.push { cls:=.type "list",data:=.seq its.toArray },toks:=t' } :=
 I.laid (λ_ _ q=>Heap.get?_push_of_some _ q) (Nat.le_refl _) ⟨hz,its,0,hv,Heap.get?_push_size _ rfl⟩
theorem Inv.fresh (I:Inv X pins σ H s):H s.heap.objs.size=none:=I.hok.fresh (Nat.le_refl _)
theorem Inv.lstM (I:Inv X pins σ H s) (hH:H l=some (.lst xs)):xs.length<=sizeLine/\∃ (its:List Value) (n:Nat),Vals xs its/\xs.length=its.length/\s.heap.get? l=some { cls:=.type "list",data:=.seq its.toArray n }:=by
 obtain ⟨z,its,n,r,e⟩:=I.hok l _ hH
 exact ⟨z,its,n,r,r.length,e⟩
end
section
variable {X:Cx}
def ygW:V->List V->Hp->VK->Prop:=λx vs H Q=>∃ l xs y,x = .ref l/\vs=[y]/\H l=some (.lst xs)/\xs.length<sizeLine/\Q .non (upd H l (.lst (xs++[y])))
theorem zd0:MtM X "list.append" ygW:=by
 intro pins s σ H x vs v us Q I rx rv h
 obtain ⟨l,xs,y,rfl,rfl,hH,hz,q⟩:=h
 cases rx
 obtain ⟨u,rfl,ru⟩:=rv.one
 obtain ⟨z,its,n,r,hl,e⟩:=I.lstM hH
 refine call_meets F.slot_list_append ⟨_,e,rfl⟩ F.entry_list_append (F.args_list_append_2 _ _) (PySem.list_append l its.toArray n u (by rw [List.size_toArray];lia)) ⟨e,?_⟩
 refine ⟨.non,_,I.lset (its' := its++[u]) hH e (by simp) (r.append (.cons ru .nil)) ?_,rfl,q⟩
 rw [List.length_append,List.length_singleton]
 lia
def rPop:V->List V->Hp->VK->Prop:=λx vs H Q=>∃ l xs y,x = .ref l/\vs=[]/\H l=some (.lst xs)/\xs[xs.length-1]? = some y/\Q y (upd H l (.lst xs.dropLast))
theorem yhs:MtM X "list.pop" rPop:=by
 intro pins s σ H x vs v us Q I rx rv h
 obtain ⟨l,xs,y,rfl,rfl,hH,hy,q⟩:=h
 cases rx
 have hus:=rv.zero
 subst hus
 obtain ⟨z,its,n,r,hl,e⟩:=I.lstM hH
 obtain ⟨u,hu,ru⟩:=r.get hy
 have hy':its.toArray[its.toArray.size-1]? = some u:=by
  show its.toArray[its.length-1]? = some u
  rw [<- Array.getElem?_toList,<- hl]
  exact hu
 refine call_meets F.slot_list_pop ⟨_,e,rfl⟩ F.entry_list_pop (F.args_list_pop_1 _) (MeetsSeq.list_pop_last l its.toArray n u hy' (by rw [List.size_toArray];omega)) ⟨e,?_⟩
 refine ⟨y,_,I.lset (its' := its.dropLast) hH e ?_ r.dropLast ?_,ru,q⟩
 ·show its.toArray.eraseIdxIfInBounds (its.toArray.size-1)=its.dropLast.toArray
  rw [List.size_toArray,List.eraseIdxIfInBounds_toArray,zgO]
 ·rw [List.length_dropLast]
  omega
def yht:V->List V->Hp->VK->Prop:=λx vs H Q=>∃ l xs,x = .ref l/\vs=[]/\H l=some (.lst xs)/\Q .non (upd H l (.lst []))
theorem zix:MtM X "list.clear" yht:=by
 intro pins s σ H x vs v us Q I rx rv h
 obtain ⟨l,xs,rfl,rfl,hH,q⟩:=h
 cases rx
 have hus:=rv.zero
 subst hus
 obtain ⟨z,its,n,r,hl,e⟩:=I.lstM hH
 refine call_meets F.slot_list_clear ⟨_,e,rfl⟩ F.entry_list_clear (F.args_list_clear_1 _) (AutoSeq1.list_clear_list_0 l its.toArray n (by rw [List.size_toArray];lia)) ⟨e,?_⟩
 exact ⟨.non,_,I.lset (its' := []) (ys:=[]) hH e rfl .nil (Nat.zero_le _),rfl,q⟩
end
section
variable {prog:Program} {w:World} {A:Around} {E:Value->Shared->Prop} {s:Shared}
end
section
variable {X:Cx}
end
section
variable {κ:Type} [DecidableEq κ]
def valV (kvs:List (κ×V)) (k:κ):Option V:=(kvs.find? λkv=>decide (kv.1=k)).map (·.2)
def putK (kvs:List (κ×V)) (k:κ) (v:V):List (κ×V) :=
 if (kvs.any λkv=>decide (kv.1=k))=true then kvs.map (λkv=>if kv.1=k then (kv.1,v) else kv) else kvs++[(k,v)]
theorem zbJ {p:κ×V} {r:List (κ×V)} {k:κ} (e:p.1=k):valV (p::r) k=some p.2:=by simp [valV,List.find?_cons,e]
theorem zbi {p:κ×V} {r:List (κ×V)} {k:κ} (e : ¬ p.1=k):valV (p::r) k=valV r k:=by simp [valV,List.find?_cons,e]
theorem zbK (k:κ):∀ kvs:List (κ×V),(kvs.any λkv=>decide (kv.1=k))=(valV kvs k).isSome
 | []=>rfl
 | p::r=>by
  rw [List.any_cons]
  by_cases e:p.1=k
  ·simp only [zbJ e,decide_eq_true e,Bool.true_or,Option.isSome_some]
  ·rw [zbi e,decide_eq_false e,Bool.false_or];exact zbK k r
theorem zcB (kvs:List (κ×V)) (k:κ) (v:V):(putK kvs k v).length<=kvs.length+1:=by
 unfold putK
 split
 ·rw [List.length_map];lia
 ·rw [List.length_append,List.length_cons,List.length_nil];lia
theorem RelO.isSome_eq {o:Option V} {u:Option Value} (r:RelO o u):o.isSome=u.isSome:=by
 cases o with
 | none=>cases u with
  | none=>rfl
  | some _=>exact (show False from r).elim
 | some _=>cases u with
  | none=>exact (show False from r).elim
  | some _=>rfl
theorem RelO.getD {o:Option V} {u:Option Value} {d:V} {d':Value} (r:RelO o u) (rd:RelV d d'):RelV (o.getD d) (u.getD d'):=by
 cases o with
 | none=>cases u with
  | none=>exact rd
  | some _=>exact (show False from r).elim
 | some _=>cases u with
  | none=>exact (show False from r).elim
  | some _=>exact r
theorem KV.val {kvs:List (κ×V)} {vs:List (κ×Value)} (r:KV kvs vs) (k:κ):RelO (valV kvs k) (valueAt vs k):=by
 unfold KV at r
 induction r with
 | nil=>exact True.intro
 | @cons p q ps qs h t ih =>
  obtain ⟨h1,h2⟩:=h
  by_cases e:p.1=k
  ·have e':q.1=k:=h1.symm.trans e
   have b:valueAt (q::qs) k=some q.2:=by simp [valueAt,List.find?_cons,e']
   rw [zbJ e,b];exact h2
  ·have e' : ¬ q.1=k:=λz=>e (h1.trans z)
   have b:valueAt (q::qs) k=valueAt qs k:=by simp [valueAt,List.find?_cons,e']
   rw [zbi e,b];exact ih
theorem KV.any {kvs:List (κ×V)} {vs:List (κ×Value)} (r:KV kvs vs) (k:κ):(kvs.any λkv=>decide (kv.1=k))=vs.any λkv=>decide (kv.1=k):=by
 unfold KV at r
 induction r with
 | nil=>rfl
 | cons h t ih=>rw [List.any_cons,List.any_cons,ih,h.1]
theorem KV.repl {kvs:List (κ×V)} {vs:List (κ×Value)} (r:KV kvs vs) (k:κ) {y:V} {u:Value} (ry:RelV y u) :
  KV (kvs.map λkv=>if kv.1=k then (kv.1,y) else kv) (vs.map λkv=>if kv.1=k then (kv.1,u) else kv):=by
 unfold KV at r ⊢
 induction r with
 | nil=>exact .nil
 | @cons p q ps qs h t ih =>
  rw [List.map_cons,List.map_cons]
  refine .cons ?_ ih
  obtain ⟨h1,h2⟩:=h
  by_cases e:p.1=k
  ·rw [if_pos e,if_pos (h1.symm.trans e)];exact ⟨h1,ry⟩
  ·rw [if_neg e,if_neg (λz=>e (h1.trans z))];exact ⟨h1,h2⟩
theorem KV.put {kvs:List (κ×V)} {vs:List (κ×Value)} (r:KV kvs vs) (k:κ) {y:V} {u:Value} (ry:RelV y u):KV (putK kvs k y) (stored vs k u):=by
 unfold putK stored
 rw [r.any k]
 by_cases e:(vs.any λkv=>decide (kv.1=k))=true
 ·rw [if_pos e,if_pos e];exact r.repl k ry
 ·rw [if_neg e,if_neg e];exact Paired.snoc r ⟨rfl,ry⟩
theorem KV.length {kvs:List (κ×V)} {vs:List (κ×Value)} (r:KV kvs vs):kvs.length=vs.length:=Paired.length r
end
theorem yfk {P:Program} {w:World} {k:Key} {u:Value} (r:RelV (kV k) u):(ycp P w).is k u=true:=by
 cases k with
 | inl i=>obtain ⟨t,e⟩:=(show ∃ t,u=Value.int i t from r);subst e;exact zfm P w i t
 | inr x=>obtain ⟨t,e⟩:=(show ∃ t,u=Value.str x t from r);subst e;exact zfn P w x t
theorem yhu {P:Program} {w:World} {y:V} {k:Key} {u:Value} (e:kOf y=some k) (r:RelV y u):(ybU P w).is k u=true:=by
 cases y with
 | int i=>cases e;obtain ⟨t,e⟩:=(show ∃ t,u=Value.int i t from r);subst e;exact zey P w i t
 | str x=>cases e;obtain ⟨t,e⟩:=(show ∃ t,u=Value.str x t from r);subst e;exact zez P w x t
 | bl b=>cases e;cases (show u=Value.bool b from r);exact decide_eq_true rfl
 | _=>cases e
theorem zd1 {P:Program} {w:World}:∀ {ys:List V} {ks:List Key} {us:List Value},ys.map kOf=ks.map some->Vals ys us->ItemsAre (ybU P w) ks us
 | [],[],_,_,r=>by cases r;exact .nil
 | [],_::_,_,e,_=>by simp at e
 | _::_,[],_,e,_=>by simp at e
 | y::ys,k::ks,_,e,r=>by
  rw [List.map_cons,List.map_cons] at e
  injection e with e1 e2
  cases r with
  | cons h t=>exact .cons (yhu e1 h) (zd1 e2 t)
def KTup (H:Hp) (b:Addr) (k:List Key):Prop:=∃ ys,H b=some (.tup ys)/\ys.map kOf=k.map some
theorem KTup.of {H:Hp} {b:Addr} {k:List Key} (e:H b=some (.tup (k.map kV))):KTup H b k:=⟨_,e,by rw [List.map_map];exact List.map_congr_left λx _=>ygZ x⟩
def DictE {P:Program} {w:World} {K:Type} [DecidableEq K] (h:Heap) (kn:PySem.HeapKind P w K) (d:Addr) (xs:List (K×Addr×Value)) (n:Nat):Prop :=
 ∃ o es,h.get? d=some o/\o.ExactDict/\o.data = .dict es n/\es.toList=xs.map (entryOfKey kn)/\(∀ x∈xs,kn.is h x.1 x.2.1)/\(xs.map (·.1)).Nodup
theorem DictE.of {P:Program} {w:World} {K:Type} [DecidableEq K] {h:Heap} {kn:PySem.HeapKind P w K} {d:Addr} {xs:List (K×Addr×Value)} {n:Nat} (e:DictE h kn d xs n):h.DictOfH kn d xs:=e.imp λ_ ⟨es,r⟩=>⟨es,n,r⟩
theorem setE {P:Program} {w:World} {K:Type} [DecidableEq K] {kn:PySem.HeapKind P w K} {d b:Addr} {k:K} {xs:List (K×Addr×Value)} {A:Around} {E:Value->Shared->Prop} {s:Shared} {v:Value} {Q:Unit->Shared->Prop}
  (hu:kn.room A.in1) (hk:kn.is s.heap k b) (hm:DictE s.heap kn d xs xs.length) (hz:xs.length<=sizeLine)
  (q:∀ g,DictE g kn d (storedH xs k b v) (storedH xs k b v).length->Heap.SameBut d s.heap g->Q () { s with heap:=g,toks:=s.toks+kn.draws k }) :
  wpAny (model P w) A (setItem (.ref d) (.ref b) v) Q E s:=by
 have ty:=hm.of.typeIs
 obtain ⟨o,es,e1,e2,e3,e4,e5,e6⟩:=hm
 unfold setItem
 try with_reducible refine wpAny_holding ?_
 refine wpAny_bind (wpAny_sequenceKey ty (by decide) (wpAny_bind (wpAny_callSpecial?_slot (name:=Str.ofString "__setitem__") ty slot_dict_setitem (wpAny_call_entry slot_dict_setitem ty entry_dict_setitem ?_ (args_dict_setitem _ _ _)))))
 show wpAny _ _ (Builtin.Dict.notOrdered "__setitem__" _ >>= _) _ _ s
 refine wpAny_bind (wpAny_notOrdered_dict ty (show wpAny _ _ (dictSet d (.ref b) v >>= _) _ _ s from wpAny_bind ?_))
 have fin:∀ g,DictE g kn d (storedH xs k b v) (storedH xs k b v).length->Heap.SameBut d s.heap g->wpAny (model P w) A.in1 (pure Unit.unit) (λ_ s' => Q () s') (λ_ _=>False) { s with heap:=g,toks:=s.toks+kn.draws k }:=λg a c=>wpAny_pure (q g a c)
 unfold dictSet
 try with_reducible refine wpAny_holding ?_
 refine wpAny_bind (kn.pyHash hu hk ?_)
 unfold dictSetHashed
 try with_reducible refine wpAny_holding ?_
 refine wpAny_bind (wpAny_dictFind_heap (s:={ s with toks:=s.toks+kn.draws k }) hu hk e1 e3 e4 e5 e6 (λno=>?_) λj p hj=>?_)
 ·have st:=storedH_new (a:=b) (v:=v) (atKey_none_of_get no)
  refine wpAny_bind (wpAny_rule (wpAny_updateDictKeys (hz:=by have z:=size_of_entries e4;lia) (s:={ s with toks:=s.toks+kn.draws k }) e1 e3 (wpAny_pure ⟨.none,rfl,wpAny_pure (q _ ?_ (Heap.SameBut.update ..))⟩)))
  have ln:(xs++[(k,b,v)]).length=xs.length+1:=by simp
  rw [st,ln]
  refine ⟨_,_,Heap.get?_update_self _ e1 (Obj.isFreed_of_dict (Obj.data_mapDictKeys e3 _)),e2.mapDictKeys _,Obj.data_mapDictKeys e3 _,?_,λx hx=>?_,?_⟩
  ·simp [e4,entryOfKey]
  ·rcases List.mem_append.mp hx with hx | hx
   ·exact kn.keeps (e5 x hx) e1 e3 (Heap.SameBut.update ..)
   ·have z:x=(k,b,v):=by simpa using hx
    rw [z];exact kn.keeps hk e1 e3 (Heap.SameBut.update ..)
  ·rw [List.map_append,List.nodup_append]
   exact ⟨e6,by simp,λx hx y hy z=>not_mem_keys_of_get no (by
    have e:y=k:=by simpa using hy
    rw [<- e,<- z];exact hx)⟩
 ·have st:=storedH_old (a:=b) (v:=v) (atKey_of_get e6 hj)
  refine wpAny_bind (wpAny_rule (wpAny_bind (wpAny_updateDict (s:={ s with toks:=s.toks+kn.draws k }) e1 e3 (wpAny_point (wpAny_pure ⟨.none,rfl,wpAny_pure (q _ ?_ (Heap.SameBut.update ..))⟩)))))
  rw [st,List.length_map]
  refine ⟨_,_,Heap.get?_update_self _ e1 (Obj.isFreed_of_dict (Obj.data_mapDict e3 _)),e2.mapDict _,Obj.data_mapDict e3 _,?_,λx hx=>?_,?_⟩
  ·have z:=modify_map_putAt (entryOfKey kn) (λe:DictEntry=>{ e with val:=v }) k v (λ_ _=>rfl) e6 hj
   rw [<- e4] at z
   obtain ⟨l⟩:=es
   simpa using z
  ·obtain ⟨y,hy,rfl⟩:=List.mem_map.mp hx
   unfold putAt
   split<;>exact kn.keeps (e5 y hy) e1 e3 (Heap.SameBut.update ..)
  ·rw [keys_map_putAt];exact e6
def adX (xc:Option (List Addr)) (old:Bool) (b:Addr):Option (List Addr):=xc.map λas=>if old then as else as++[b]
theorem yhv {xs:List (List Key×Addr×Value)} {k:List Key} {b:Addr} {u:Value} {xc:Option (List Addr)} (h:∀ as,xc=some as->xs.map (·.2.1)=as):∀ as,adX xc (atKey xs k).isSome b=some as->(storedH xs k b u).map (·.2.1)=as:=by
 intro as e
 obtain ⟨bs,e1,e2⟩:=Option.map_eq_some_iff.mp e
 subst e2
 unfold storedH
 by_cases q:(atKey xs k).isSome=true
 ·rw [if_pos q,if_pos q,List.map_map,<- h bs e1]
  exact List.map_congr_left λx _=>by show (putAt k u x).2.1=x.2.1;unfold putAt;split<;>rfl
 ·rw [if_neg q,if_neg q,List.map_append,h bs e1];rfl
abbrev KT (H:Hp):List (List Key×V)->List (List Key×Addr×Value)->Prop:=Paired λp q=>p.1=q.1/\(∃ ys,H q.2.1=some (.tup ys)/\ys.map kOf=p.1.map some)/\RelV p.2 q.2.2
theorem KT.val {H:Hp} {kvs:List (List Key×V)} {xs:List (List Key×Addr×Value)} (r:KT H kvs xs) (k:List Key):RelO (valV kvs k) ((atKey xs k).map (·.2)):=by
 induction r with
 | nil=>exact True.intro
 | @cons p q ps qs h t ih =>
  obtain ⟨h1,_,h2⟩:=h
  by_cases e:p.1=k
  ·have e':q.1=k:=h1.symm.trans e
   have b:atKey (q::qs) k=some q.2:=by simp [atKey,List.find?_cons,e']
   rw [zbJ e,b];exact h2
  ·have e' : ¬ q.1=k:=λz=>e (h1.trans z)
   have b:atKey (q::qs) k=atKey qs k:=by simp [atKey,List.find?_cons,e']
   rw [zbi e,b];exact ih
theorem KT.repl {H:Hp} {kvs:List (List Key×V)} {xs:List (List Key×Addr×Value)} (r:KT H kvs xs) (k:List Key) {y:V} {u:Value} (ry:RelV y u) :
  KT H (kvs.map λkv=>if kv.1=k then (kv.1,y) else kv) (xs.map (putAt k u)):=by
 induction r with
 | nil=>exact .nil
 | @cons p q ps qs h t ih =>
  rw [List.map_cons,List.map_cons]
  refine .cons ?_ ih
  obtain ⟨h1,h2,h3⟩:=h
  unfold putAt
  by_cases e:p.1=k
  ·rw [if_pos e,if_pos (h1.symm.trans e)];exact ⟨h1,h2,ry⟩
  ·rw [if_neg e,if_neg (λz=>e (h1.trans z))];exact ⟨h1,h2,h3⟩
theorem KT.put {H:Hp} {kvs:List (List Key×V)} {xs:List (List Key×Addr×Value)} (r:KT H kvs xs) (k:List Key) {b:Addr} {y:V} {u:Value} (hb:KTup H b k) (ry:RelV y u) :
  KT H (putK kvs k y) (storedH xs k b u):=by
 have e:(kvs.any λkv=>decide (kv.1=k))=(atKey xs k).isSome:=by
  rw [zbK,(r.val k).isSome_eq,Option.isSome_map]
 unfold putK storedH
 rw [e]
 by_cases q:(atKey xs k).isSome=true
 ·rw [if_pos q,if_pos q];exact r.repl k ry
 ·rw [if_neg q,if_neg q];exact Paired.snoc r ⟨rfl,hb,ry⟩
theorem KT.keeps {H H':Hp} {kvs:List (List Key×V)} {xs:List (List Key×Addr×Value)} (r:KT H kvs xs) (ht:∀ b ys,H b=some (.tup ys)->H' b=some (.tup ys)):KT H' kvs xs :=
 Paired.mapP r λ_ _ z=>⟨z.1,z.2.1.imp λ_ e=>⟨ht _ _ e.1,e.2⟩,z.2.2⟩
section
variable {P:Program} {w:World} {H:Hp} {h:Heap} {a:Addr}
theorem ygB {u:HO} (ok:HOk P w H h) (e:Rd H a u):ObjOk P w H h a u:=e.ok ok
theorem yej {kvs:List (Key×V)} (ok:HOk P w H h) (e:Rd H a (.dK kvs)):kvs.length<=sizeLine/\(a == sysModules)=false/\∃ vs,KV kvs vs/\h.DictOf (ycp P w) a vs :=
 show ObjOk P w H h a (.dK kvs) from ygB ok e
theorem dk_of {kvs:List (Key×V)} (ok:HOk P w H h) (e:H a=some (.dK kvs)):kvs.length<=sizeLine/\(a == sysModules)=false/\∃ vs,KV kvs vs/\h.DictOf (ycp P w) a vs:=yej ok (.inl e)
theorem yev {ks:List Key} (ok:HOk P w H h) (e:KTup H a ks):(tupleKind (ybU P w)).is h ks a:=by
 obtain ⟨ys,e,ek⟩:=e
 obtain ⟨_,its,r,o,h1,h2,n,h3⟩:=(show ObjOk P w H h a (.tup ys) from ok a _ e)
 exact ⟨o,its.toArray,n,h1,h2,h3,by simpa using zd1 ek r⟩
theorem yeH {xc:Option (List Addr)} {kvs:List (List Key×V)} (ok:HOk P w H h) (e:Rd H a (.dT xc kvs)):kvs.length<=sizeLine/\(a == sysModules)=false /\
  ∃ xs,KT H kvs xs/\(∀ as,xc=some as->xs.map (·.2.1)=as)/\DictE h (tupleKind (ybU P w)) a xs xs.length:=by
 obtain ⟨z,y,xs,r,o,es,ep,h1,h2,h3,h4,h5⟩:=(show ObjOk P w H h a (.dT xc kvs) from ygB ok e)
 obtain ⟨h5,h6,h7⟩:=h5
 subst h6
 refine ⟨z,y,xs,r,h7,o,es,h1,h2,h3,h4,λx hx=>?_,h5⟩
 have all:∀ {l:List (List Key×V)} {m:List (List Key×Addr×Value)},KT H l m->∀ x∈m,(tupleKind (ybU P w)).is h x.1 x.2.1:=by
  intro l m q
  induction q with
  | nil=>intro x hx;exact nomatch hx
  | @cons p q ps qs hq t ih =>
   intro x hx
   rcases List.mem_cons.mp hx with e | hx
   ·subst e
    exact yev ok (by rw [<- hq.1];exact hq.2.1)
   ·exact ih x hx
 exact all r x hx
theorem yiK {xc:Option (List Addr)} {kvs:List (List Key×V)} (ok:HOk P w H h) (e:H a=some (.dT xc kvs)):kvs.length<=sizeLine/\(a == sysModules)=false /\
  ∃ xs,KT H kvs xs/\(∀ as,xc=some as->xs.map (·.2.1)=as)/\DictE h (tupleKind (ybU P w)) a xs xs.length:=yeH ok (.inl e)
end
def DGet (H:Hp) (a:Addr) (y:V) (r:Option V):Prop :=
 (∃ kvs k,Rd H a (.dK kvs)/\y=kV k/\r=valV kvs k)\/∃ xc kvs k b,Rd H a (.dT xc kvs)/\y = .ref b/\KTup H b k/\r=valV kvs k
def DPut (H:Hp) (a:Addr) (y v:V) (H':Hp):Prop :=
 (∃ kvs k,H a=some (.dK kvs)/\y=kV k/\kvs.length<sizeLine/\H'=upd H a (.dK (putK kvs k v))) \/
 ∃ xc kvs k b,H a=some (.dT xc kvs)/\y = .ref b/\KTup H b k/\kvs.length<sizeLine/\H'=upd H a (.dT (adX xc (kvs.any λkv=>decide (kv.1=k)) b) (putK kvs k v))
theorem DGet.k {H:Hp} {a:Addr} {kvs:List (Key×V)} {k:Key} (e:H a=some (.dK kvs)):DGet H a (kV k) (valV kvs k):=.inl ⟨kvs,k,.inl e,rfl,rfl⟩
theorem DGet.t {H:Hp} {a b:Addr} {kvs:List (List Key×V)} {k:List Key} {xc:Option (List Addr)} (e:H a=some (.dT xc kvs)) (eb:KTup H b k):DGet H a (.ref b) (valV kvs k):=.inr ⟨xc,kvs,k,b,.inl e,rfl,eb,rfl⟩
theorem DPut.k {H:Hp} {a:Addr} {kvs:List (Key×V)} {k:Key} {v:V} (e:H a=some (.dK kvs)) (hl:kvs.length<sizeLine):DPut H a (kV k) v (upd H a (.dK (putK kvs k v))):=.inl ⟨kvs,k,e,rfl,hl,rfl⟩
theorem DPut.t {H:Hp} {a b:Addr} {kvs:List (List Key×V)} {k:List Key} {v:V} (e:H a=some (.dT none kvs)) (eb:KTup H b k) (hl:kvs.length<sizeLine) :
  DPut H a (.ref b) v (upd H a (.dT none (putK kvs k v))):=.inr ⟨none,kvs,k,b,e,rfl,eb,hl,rfl⟩
section
variable {X:Cx} {pins:List (Addr×Obj)} {σ:St} {H:Hp} {s:Shared} {a:Addr} {y v:V} {u r:Value} {o:Option V} {A:Around} {E:Value->Shared->Prop}
theorem Inv.big (I:Inv X pins σ H s):sysModules<s.heap.objs.size:=by
 have h:mainGlobals<s.heap.objs.size:=(I.mod.glob.keeps I.bk).lt
 exact Nat.lt_trans (by decide) h
theorem zht {Q:Value->Shared->Prop} (hu:A.units+1<cLine) (I:Inv X pins σ H s) (g:DGet H a y (some v)) (ry:RelV y u) (h:∀ w' s',Inv X pins σ H s'->RelV v w'->Q w' s') :
  wpAny (model X.prog X.w) A (getItem (.ref a) u) Q E s:=by
 rcases g with ⟨kvs,k,e,ey,l⟩ | ⟨xc,kvs,k,b,e,ey,eb,l⟩
 ·subst ey
  obtain ⟨z,hd,vs,rel,dd⟩:=yej I.hok e
  obtain ⟨w',hw,rw'⟩:=RelO.some_of (v:=v) (o:=valueAt vs k) (by rw [l];exact rel.val k)
  exact wpAny_getItem_of (yfk ry) dd.mapOf hw (h w' _ (I.tok _) rw')
 ·subst ey
  cases (show u=Value.ref b from ry)
  obtain ⟨z,hd,xs,rel,_,dd⟩:=yeH I.hok e
  replace dd:=dd.of
  obtain ⟨w',hw,rw'⟩:=RelO.some_of (v:=v) (o:=(atKey xs k).map (·.2)) (by rw [l];exact rel.val k)
  obtain ⟨p,hp,hp2⟩:=Option.map_eq_some_iff.mp hw
  refine wpAny_getItem_heap (tupleKind_room_in1 hu) (yev I.hok eb) dd hp ?_
  rw [hp2]
  exact h w' _ (I.tok _) rw'
theorem zjA {Q:Value->Shared->Prop} (hu:A.units+1<cLine) (I:Inv X pins σ H s) (g:DGet H a y o) (ry:RelV y u) (h:∀ s',Inv X pins σ H s'->Q (.bool (!o.isSome)) s') :
  wpAny (model X.prog X.w) A (compareOp .NotIn u (.ref a)) Q E s:=by
 rcases g with ⟨kvs,k,e,ey,l⟩ | ⟨xc,kvs,k,b,e,ey,eb,l⟩
 ·subst ey
  obtain ⟨z,hd,vs,rel,dd⟩:=yej I.hok e
  refine wpAny_notIn_of (yfk ry) hd dd.mapOf ?_
  rw [<- (rel.val k).isSome_eq,<- l]
  exact h _ (I.tok _)
 ·subst ey
  cases (show u=Value.ref b from ry)
  obtain ⟨z,hd,xs,rel,_,dd⟩:=yeH I.hok e
  replace dd:=dd.of
  refine wpAny_notIn_heap (tupleKind_room_in1 hu) (yev I.hok eb) hd dd ?_
  have q:=(rel.val k).isSome_eq
  rw [Option.isSome_map] at q
  rw [<- q,<- l]
  exact h _ (I.tok _)
theorem zfT {h':Heap} {t':Nat} {ob:HO} (I:Inv X pins σ H s) (mu:Mut (H a)) (hs:Heap.SameBut a s.heap h') (he:∃ q,h'.get? a=some q) (new:ObjOk X.prog X.w (upd H a ob) h' a ob) :
  Inv X pins σ (upd H a ob) { s with heap:=h',toks:=t' } :=
 I.write (x:=a) (e:=a) mu (.inl rfl) (λb q hb z=>(hs.2 b hb).trans z) he new
theorem yhw {P:Program} {w:World} {H':Hp} {h':Heap} {kvs:List (Key×V)} {vs:List (Key×Value)} (z:kvs.length<=sizeLine) (hd:(a == sysModules)=false) (rel:KV kvs vs) (dd:h'.DictOf (ycp P w) a vs) :
  ObjOk P w H' h' a (.dK kvs):=⟨z,hd,vs,rel,dd⟩
theorem zhu {H':Hp} {Q:Unit->Shared->Prop} (hu:A.units+1<cLine) (I:Inv X pins σ H s) (g:DPut H a y v H') (ry:RelV y u) (rv:RelV v r) (h:∀ s',Inv X pins σ H' s'->Q () s') :
  wpAny (model X.prog X.w) A (setItem (.ref a) u r) Q E s:=by
 rcases g with ⟨kvs,k,e,ey,l,eH⟩ | ⟨xc,kvs,k,b,e,ey,eb,l,eH⟩
 ·subst ey eH
  obtain ⟨z,hd,vs,rel,dd⟩:=dk_of I.hok e
  have hz:vs.length<=sizeLine:=by rw [<- rel.length];exact z
  have hl:(putK kvs k v).length<=sizeLine:=by have:=zcB kvs k v;lia
  refine wpAny_setItem_pairs (hsz:=hz) (yfk ry) dd λh' dd' hs=>h _ ?_
  have he:∃ q,h'.get? a=some q:=let ⟨q,_,_,hq,_⟩:=dd';⟨q,hq⟩
  exact zfT I (by rw [e];exact True.intro) hs he (yhw hl hd (rel.put k rv) dd')
 ·subst ey eH
  cases (show u=Value.ref b from ry)
  obtain ⟨z,hd,xs,rel,ha,dd⟩:=yiK I.hok e
  have hz:xs.length<=sizeLine:=by rw [<- Paired.length rel];exact z
  have hl:(putK kvs k v).length<=sizeLine:=by have:=zcB kvs k v;lia
  have eo:(kvs.any λkv=>decide (kv.1=k))=(atKey xs k).isSome:=by rw [zbK,(rel.val k).isSome_eq,Option.isSome_map]
  refine setE (tupleKind_room_in1 hu) (yev I.hok eb) dd hz λh' dd' hs=>h _ ?_
  obtain ⟨q,es,hq,h2,h3,h4,_,h5⟩:=dd'
  refine zfT I (by rw [e];exact True.intro) hs ⟨q,hq⟩ ⟨hl,hd,_,(rel.put k eb rv).keeps λc ys ec=>?_,q,es,_,hq,h2,h3,h4,h5,rfl,by rw [eo];exact yhv ha⟩
  rw [yaF (yip ec e (λz=>nomatch z))]
  exact ec
end
section
variable {X:Cx} {pins:List (Addr×Obj)} {σ:St} {H:Hp} {s:Shared} {a:Addr} {kvs:List (Key×V)} {k:Key} {u:Value} {A:Around} {E:Value->Shared->Prop}
theorem yiL {Q:Value->Shared->Prop} (I:Inv X pins σ H s) (e:Rd H a (.dK kvs)) (h:∀ t s',Inv X pins σ H s'->Q (.int kvs.length t) s'):wpAny (model X.prog X.w) A (call (.builtin "len") [.ref a]) Q E s:=by
 obtain ⟨z,hd,vs,rel,dd⟩:=yej I.hok e
 refine call_len_dict hd dd (by rw [<- rel.length];rw [sizeLine_eq] at z;lia) ?_
 rw [<- rel.length]
 exact h _ _ (I.tok _)
end
def NoSl (i:Expr):Prop:=∀ ov iv,subscripted i false ov iv=operate [ov,iv] (getItem ov iv)
theorem zjB {prog:Program} {w:World} {A:Around} {E:Value->Shared->Prop} {s:Shared} {env:Env} {value slice:Expr} {pos:Pos} {T id:String} {Q:Value->Shared->Prop}
  (hl:typeLookup (.type T) "__getitem__" = pure (some (.builtin id))) (hs:NoSl slice)
  (h:wpAny (model prog w) A (eval value env) (λo s₁=>wpAny (model prog w) A (eval slice env) (λi s₂=>s₂.TypeIs o T/\wpAny (model prog w) A (getItem o i) Q E s₂) E s₁) E s) :
  wpAny (model prog w) A (eval (.Subscript value slice pos) env) Q E s:=by
 refine Subscript_ (wpAny_mono h (λo s₁ h₁=>wpAny_mono h₁ (λi s₂ h₂=>?_) λ_ _ x=>x) λ_ _ x=>x)
 obtain ⟨hT,h₂⟩:=h₂
 unfold subscriptTail
 refine wpAny_bind ?_
 rw [getitemInPython_of_ne hT.not_modules]
 refine wpAny_bind (wpAny_specialOf hT hl ?_)
 have fin:wpAny (model prog w) A (subscripted slice false o i) (λr s₃=>wpAny (model prog w) A (letTemporaryGo value o r >>= λ_=>pure r) Q E s₃) E s₂:=by
  rw [hs o i]
  exact wpAny_operating (wpAny_mono h₂ (λr s₃ h₃=>wpAny_bind (wpAny_letTemporaryGo (wpAny_pure h₃))) λ_ _ x=>x)
 first
  | exact wpAny_pure (wpAny_bind fin)
  | exact wpAny_bind (wpAny_pure (wpAny_bind fin))
  | exact wpAny_bind fin
theorem zfp {X:Cx} {pins:List (Addr×Obj)} {σ:St} {H:Hp} {s:Shared} {a:Addr} {y:V} {o:Option V} (I:Inv X pins σ H s) (g:DGet H a y o):s.TypeIs (.ref a) "dict" := by
 rcases g with ⟨kvs,k,e,_,_⟩ | ⟨xc,kvs,k,b,e,_,_,_⟩
 ·obtain ⟨_,_,vs,_,dd⟩:=yej I.hok e
  exact dd.typeIs
 ·obtain ⟨_,_,xs,_,_,dd⟩:=yeH I.hok e
  replace dd:=dd.of
  exact dd.typeIs
def yiM (td ty:TE):TE:=λσ H Q=>td σ H λx H1=>ty σ H1 λy H2=>∃ a v,x = .ref a/\DGet H2 a y (some v)/\Q v H2
def yiN (td ty tv:TE):TS:=λD σ H=>tv σ H λv H1=>td σ H1 λx H2=>ty σ H2 λy H3=>∃ a H4,x = .ref a/\DPut H3 a y v H4/\D.nx σ H4
section
variable {X:Cx} {o i e value:Expr} {pos pos' tpos:Pos} {td ty tv:TE}
theorem zjC (hu:X.A.units+1<cLine) (ho:PE X o td) (hi:PE X i ty) (hs:NoSl i):PE X (.Subscript o i pos) (yiM td ty):=by
 intro pins s σ H Q I h
 refine zjB PySem.F.slot_dict_getitem.lookup hs (thn (ho pins s σ H _ I h) λu s1 ⟨x,H1,I1,rx,q1⟩=>thn (hi pins s1 σ H1 _ I1 q1) λiv s2 Zz=>?_);obtain ⟨y,H2,I2,ry,a,v,ex,g,q2⟩:=Zz
 subst ex
 obtain rfl:u=Value.ref a:=rx
 exact ⟨zfp I2 g,zht hu I2 g ry λw' s3 I3 rw' => ⟨v,H2,I3,rw',q2⟩⟩
theorem zjD (hu:X.A.units+1<cLine) (ho:PE X o td) (hi:PE X i ty) (hv:PE X value tv) (hs:swapsWith value (some (.Subscript o i pos')) pos.line X.env=pure false) :
  PS X (.Assign [.Subscript o i pos'] value pos) (yiN td ty tv):=by
 intro pins s σ H D I h
 refine wpAny_Assign_Subscript (thn (hv pins s σ H _ I h) λr s1 ⟨v,H1,I1,rv,q1⟩=>thn (ho pins s1 σ H1 _ I1 q1) λu s2 ⟨x,H2,I2,rx,q2⟩=>thn (hi pins s2 σ H2 _ I2 q2) λiv s3 Zz=>?_) hs;obtain ⟨y,H3,I3,ry,a,H4,ex,g,q3⟩:=Zz
 subst ex
 obtain rfl:u=Value.ref a:=rx
 exact zhu hu I3 g ry rv λs4 I4=>⟨σ,H4,I4,q3⟩
end
theorem ziy {P:Program} {w:World} {H:Hp} (h:Heap) (hb:sysModules<h.objs.size):ObjOk P w H (h.push { cls:=.type "dict",data:=.dict #[] }) h.objs.size (.dK []) :=
 ⟨Nat.zero_le _,beq_eq_false_iff_ne.mpr (Ne.symm (Nat.ne_of_lt hb)),[],.nil,Heap.DictOf.new h⟩
theorem ziz {P:Program} {w:World} {H:Hp} {xc:Option (List Addr)} (hx:xc=none\/xc=some []) (h:Heap) (hb:sysModules<h.objs.size):ObjOk P w H (h.push { cls:=.type "dict",data:=.dict #[] }) h.objs.size (.dT xc []) :=
 ⟨Nat.zero_le _,beq_eq_false_iff_ne.mpr (Ne.symm (Nat.ne_of_lt hb)),[],.nil,_,#[],0,Heap.get?_push_size _ rfl,⟨rfl,rfl,rfl⟩,rfl,rfl,List.nodup_nil,rfl,λas e=>by
  rcases hx with rfl | rfl
  ·cases e
  ·injection e⟩
def yhx:TE:=λ_ H Q=>∀ p,H p=none->Q (.ref p) (upd H p (.dK []))
def yhy:TE:=λ_ H Q=>∀ p,H p=none->Q (.ref p) (upd H p (.dT none []))
section
variable {X:Cx} {pos:Pos}
theorem ziA:PE X (.Dict [] [] pos) yhx:=λpins s σ H Q I h =>
 wpAny_Dict_empty ⟨.ref s.heap.objs.size,_,I.laid (a:=s.heap.objs.size) (o:=.dK []) (t' := s.toks) (λ_ _ q=>Heap.get?_push_of_some _ q) (Nat.le_refl _) (ziy s.heap I.big),rfl,h _ (I.hok.fresh (Nat.le_refl _))⟩
theorem ziB:PE X (.Dict [] [] pos) yhy:=λpins s σ H Q I h =>
 wpAny_Dict_empty ⟨.ref s.heap.objs.size,_,I.laid (a:=s.heap.objs.size) (o:=.dT none []) (t' := s.toks) (λ_ _ q=>Heap.get?_push_of_some _ q) (Nat.le_refl _) (ziz (.inl rfl) s.heap I.big),rfl,h _ (I.hok.fresh (Nat.le_refl _))⟩
end
structure M1 (X:Cx) (o:Expr) (m:Str) (apos:Pos) (e:Expr) (cpos:Pos):Prop where
 base:attributeBase o m X.env (eval o X.env)=eval o X.env
 few:((backTo cpos (starEach [e] X.env)).all (λx=>!x.1) && (backToKw cpos (keywordEach [] X.env)).all (λx=>x.1.isSome)
  && decide (([e]:List Expr).length+([]:List Keyword).length+(if ([]:List Keyword).isEmpty then 0 else 1)<30))=true
 line:(apos.endLine == cpos.line)=true
 trees:backTo cpos (starEach [e] X.env)=[(false,eval e X.env)]
def IsD (H:Hp) (a:Addr):Prop:=(∃ kvs,Rd H a (.dK kvs))\/∃ xc kvs,Rd H a (.dT xc kvs)
theorem yhz {X:Cx} {pins:List (Addr×Obj)} {σ:St} {H:Hp} {s:Shared} {a:Addr} (I:Inv X pins σ H s) (d:IsD H a) :
  s.TypeIs (.ref a) "dict" /\ (∀ b,Value.ref a = .ref b->∃ ob,s.heap.get? b=some ob/\ob.dict=none)/\(a == sysModules)=false:=by
 rcases d with ⟨kvs,e⟩ | ⟨xc,kvs,e⟩
 ·obtain ⟨_,hd,vs,_,dd⟩:=yej I.hok e
  refine ⟨dd.typeIs,λb q=>?_,hd⟩
  cases q
  obtain ⟨ob,_,_,h1,h2,_⟩:=dd
  exact ⟨ob,h1,h2.2.1⟩
 ·obtain ⟨_,hd,xs,_,_,dd⟩:=yeH I.hok e
  replace dd:=dd.of
  refine ⟨dd.typeIs,λb q=>?_,hd⟩
  cases q
  obtain ⟨ob,_,_,h1,h2,_⟩:=dd
  exact ⟨ob,h1,h2.2.1⟩
section
variable {X:Cx} {pins:List (Addr×Obj)} {σ:St} {H:Hp} {s:Shared} {a:Addr} {y d:V} {u r:Value} {o:Option V} {A:Around} {E:Value->Shared->Prop}
theorem yhA {Q:Value->Shared->Prop} (hu:A.units+1<cLine) (I:Inv X pins σ H s) (g:DGet H a y o) (ry:RelV y u) (h:∀ w' s',Inv X pins σ H s'->RelV (o.getD .non) w'->Q w' s') :
  wpAny (model X.prog X.w) A (call (.builtin "dict.get") [.ref a,u]) Q E s:=by
 rcases g with ⟨kvs,k,e,ey,l⟩ | ⟨xc,kvs,k,b,e,ey,eb,l⟩
 ·subst ey
  obtain ⟨z,hd,vs,rel,dd⟩:=yej I.hok e
  refine call_meetsIn PySem.F.slot_dict_get dd.typeIs PySem.F.entry_dict_get (PySem.F.args_dict_get_2 _ _) (meets_dict_get (ycp X.prog X.w) a (yfk ry) hd) ⟨_,dd.mapOf,h _ _ (I.tok _) ?_⟩
  rw [l]
  exact (rel.val k).getD rfl
 ·subst ey
  cases (show u=Value.ref b from ry)
  obtain ⟨z,hd,xs,rel,_,dd⟩:=yeH I.hok e
  replace dd:=dd.of
  refine call_meetsIn PySem.F.slot_dict_get dd.typeIs PySem.F.entry_dict_get (PySem.F.args_dict_get_2 _ _) (meetsH_dict_get (tupleKind (ybU X.prog X.w)) a b hd) ⟨tupleKind_room_in1 hu,k,xs,yev I.hok eb,dd,h _ _ (I.tok _) ?_⟩
  rw [l]
  exact (rel.val k).getD rfl
end
def yhB (td ty:TE):TE:=λσ H Q=>td σ H λx H1=>∃ a,x = .ref a/\IsD H1 a/\ty σ H1 λy H2=>∃ o,DGet H2 a y o/\Q (o.getD .non) H2
section
variable {X:Cx} {o e f:Expr} {apos cpos:Pos} {td ty tx:TE}
theorem ziC (hu:X.A.units+1<cLine) (ho:PE X o td) (he:PE X e ty) (m:M1 X o "get" apos e cpos):PE X (.Call (.Attribute o "get" apos) [e] [] cpos) (yhB td ty):=by
 intro pins s σ H Q I h
 refine wpAny_Call_method m.base m.few m.line PySem.F.plainAttrs_dict PySem.F.slot_dict_get PySem.F.type_dict_get (thn (ho pins s σ H _ I h) λu s1 Zz=>?_);obtain ⟨x,H1,I1,rx,a,ex,d,q1⟩:=Zz
 subst ex
 obtain rfl:u=Value.ref a:=rx
 obtain ⟨t1,t2,_⟩:=yhz I1 d
 refine ⟨t1,t2,?_⟩
 rw [m.trees]
 refine Calls.callWith_builtin rfl (Calls.evalArgs_plain (Calls.spliced_cons (thn (he pins s1 σ H1 _ I1 q1) λiv s2 ⟨y,H2,I2,ry,ov,g,q2⟩=>Calls.spliced_nil ?_)))
 exact yhA hu I2 g ry λw' s3 I3 rw' => ⟨_,H2,I3,rw',q2⟩
end
section
variable {X:Cx} {pins:List (Addr×Obj)} {σ:St} {H:Hp} {s:Shared} {a:Addr} {kvs:List (Key×V)} {A:Around} {E:Value->Shared->Prop}
end
section
variable {X:Cx} {pins:List (Addr×Obj)} {σ:St} {H:Hp} {s:Shared} {a:Addr} {y:V} {u:Value} {A:Around} {E:Value->Shared->Prop}
end
end L2
namespace Att
open PySem PySem.W PySem.Calls PyProof.Rows
theorem zc8 {P:Params} {h:Heap}:∀ (ns:List Int) (vs:List Value),WellAll P h vs (ns.map WData.int)->IntsAre vs ns:=by
 intro ns
 induction ns with
 | nil =>
  intro vs w
  rw [List.map_nil] at w
  cases w
  exact .nil
 | cons n ns ih =>
  intro vs w
  rw [List.map_cons] at w
  cases w with
  | cons a b =>
   cases a
   exact .cons _ _ (ih _ b)
theorem zhv {l:OpenLaw} {n:Nat} (hn:l.most=some n) {P:Params} {h:Heap} {args:List WData} {vals:List Value}
  (hpre:l.row.toRowW.claim.pre args=true) (hwl:WellAll P h vals args) :
  ∃ a vs ns,vals=[Value.ref a]/\args=[WData.list (ns.map WData.int)]/\h.get? a=some { cls:=.type "list",data:=.seq vs.toArray }/\IntsAre vs ns/\ns.length<=n:=by
 have hsh:WShape.hasAll [] args [.list .int]=true:=(pre_splitW hpre).1
 have hc:l.pre.holds [] { args:=args }=true:=(pre_splitW hpre).2
 obtain ⟨d,r,rfl,h1,h2⟩:=hasAllW_cons hsh
 obtain rfl:=hasAllW_nil h2
 obtain ⟨xs,rfl,h3⟩:=hasW_list h1
 obtain ⟨ns,rfl⟩:=items_int h3
 have hlen:ns.length<=n:=by
  unfold OpenLaw.pre at hc
  have h4:(WTm.not (.lt (.lit (.int (n:Int))) (.len (.arg 0)))).holds [] { args:=[.list (ns.map .int)] }=true:=by
   have h4:=(holds_andW hc).1
   rw [hn] at h4
   exact h4
  have h5:=condW_of h4 (w_not (w_lt w_lit (w_len_list (w_arg rfl))))
  rw [List.length_map] at h5
  refine Nat.le_of_not_lt λq=>?_
  have q':(n:Int)<((ns.length:Nat):Int):=by lia
  first
   | (rw [decide_eq_true q'] at h5;exact absurd h5 (by decide))
   | (simp at h5;lia)
 cases hwl with
 | cons w1 w2 =>
  cases w2
  cases w1 with
  | list ho hall=>exact ⟨_,_,ns,rfl,rfl,ho,zc8 ns _ hall,hlen⟩
theorem zhw (l:OpenLaw) (args:List WData):l.row.toRowW.claim.post args (.bool true) args=true :=
 postW_of (r:=l.row.toRowW) (X:=(true == true))
  (show WShape.has [] (.bool true) .bool=true by first | rfl | decide | simp [WShape.has,WShape.arms,WShape.armsAll])
  (show (WTm.eq .res (.lit (.bool true))).value [] { args:=args,res:=some (.bool true),after:=args }=some (.bool (true == true)) from w_eq_bool (w_res rfl) w_lit) rfl
theorem attach_call {l:OpenLaw} {n:Nat} {q:Program} {loose:List Str} {XP:(Str->Option Value)->Heap->Prop} {YP:World->Heap->Prop} {d:DefRec}
  (hn:l.most=some n) (hdf:d.params.defaults=[])
  (call:∀ (w:World) (s₀ s₁:Shared) (mg mb:Str->Option Value) (fa:Addr) (o:Obj) (pm cd doc:Value) (a:Addr) (vs:List Value) (ns:List Int),
   Ground q loose [] XP w s₀ mg mb s₁.heap->YP w s₁.heap ->
   s₁.heap.get? fa=some o->o.data = .func (docDef d.name d.params d.body d.scope pm cd doc)->s₁.heap.CodeRec cd d.name->mg d.name=some (.ref fa) ->
   s₁.heap.get? a=some { cls:=.type "list",data:=.seq vs.toArray }->IntsAre vs ns->ns.length<=n->s₁.gens = #[] ->
   codeAny (model l.prog w) callerA (.call (.ref fa) ⟨[.ref a],[]⟩) (λr s' => r = .ok (.ret (.bool true))/\OldK s₁.heap s'.heap/\s'.os=s₁.os/\AllBare s'.gens) s₁) :
  WalkO q loose XP YP l.row.toRowW d [] (λf vs=>PySem.call f vs):=by
 intro w s₀ s₁ mg mb G Y fa o pm cd doc dV kV ho hd hcd hD hmg hg args vals as hpre hlay hrd hwl hlo
 obtain rfl:dV = .none:=Dflts.none hD hdf
 obtain rfl:kV = .none:=Dflts.noKw hD
 obtain ⟨a,vs,ns,rfl,rfl,hobj,hints,hlen⟩:=zhv hn hpre hwl
 refine enter_call (codeAny_mono (call w s₀ s₁ mg mb fa o pm cd doc a vs ns G Y ho (fd_plain hd) hcd hmg hobj hints hlen hg) λr s' hq=>?_)
 obtain ⟨rfl,h2,h3,h4⟩:=hq
 exact ⟨.inl ⟨.bool true,.bool true,[],rfl,λ_=>rfl,.bool true,zhw l _,λ_=>⟨List.Pairwise.nil,λ_ hm=>(nomatch hm)⟩⟩,h2,h3,h4⟩
section
variable {prog:Program} {w:World} {A:Around} {E:Value->Shared->Prop} {s:Shared} {K:Frag}
end
end Att
namespace L2
open PySem PySem.Spec PyProof.Rows
theorem zd2:∀ {vs:List Value} {ns:List Int},IntsAre vs ns->Vals (ns.map V.int) vs
 | _,_,.nil=>.nil
 | _,_,.cons n t h=>.cons ⟨t,rfl⟩ (zd2 h)
def Only (H:Hp):Prop:=∀ b,H b=none\/∃ o xs,H b=some (.frz o (.lst xs))
theorem ziD {P:Program} {w:World} {K:PySem.W.Frag} {mg mb:Str->Option Value} {CX:CXT} {k:Nat} {fa a:Addr} {fd:FuncData} {x:Str} {sp:Sp} {s₁:Shared} {vs:List Value} {ns:List Int}
  (KX:K.In s₁.heap) (hns:s₁.heap.Ns mainGlobals mg) (hb:s₁.heap.Ns builtinsNs mb) (hbb:∀ x:Str,x ≠ "__name__" -> mb x=bootBuiltins x) (hlim:s₁.heap.NoLimit) (hg:s₁.gens = #[])
  (ha:s₁.heap.get? a=some { cls:=.type "list",data:=.seq vs.toArray }) (hi:IntsAre vs ns) (hl:ns.length<=sizeLine) (hr:Room k callerA)
  (F:∀ base:Heap,K.In base->base.Ns mainGlobals mg->FnOk P w K mg base CX k fa fd [x] sp) (hbind:∀ (s:Shared) (u:Value),BindsTo s fd ⟨[u],[]⟩ [(x,u)])
  (hsp:∀ H:Hp,Only H->SqL K H a (ns.map V.int)->sp [.ref a] H (λv _=>v = .bl true) λ_ _ _=>False)
  (hCX:∀ H e s',CX [] H s₁ (λ_ _ _=>False) e s'->False) :
  codeAny (model P w) callerA (.call (.ref fa) ⟨[.ref a],[]⟩) (λr s' => r = .ok (.ret (.bool true))/\OldK s₁.heap s'.heap/\s'.os=s₁.os/\AllBare s'.gens) s₁:=by
 have rv:=zd2 hi
 have lenV:=hi.length
 have core:∀ H:Hp,Only H->SqL K H a (ns.map V.int)->HOk P w H s₁.heap->(∀ b,H b≠none->b=a)->(H a≠none->K.lookup a=none) ->
   codeAny (model P w) callerA (.call (.ref fa) ⟨[.ref a],[]⟩) (λr s' => r = .ok (.ret (.bool true))/\OldK s₁.heap s'.heap/\s'.os=s₁.os/\AllBare s'.gens) s₁:=by
  intro H hO hS hok hA hK
  have base_of:∀ {b:Addr} {o:Obj},s₁.heap.get? b=some o->H b=none->(hidT s₁.heap H).get? b=some o:=λe n=>zii e n
  have noA:∀ {b:Addr} {o:Obj} {es:Array DictEntry} {ep:Nat},s₁.heap.get? b=some o->o.data = .dict es ep->H b=none:=λ{b o es ep} e d=>by
   cases q:H b with
   | none=>rfl
   | some u =>
    have e':b=a:=hA b (by rw [q];simp)
    subst e'
    rw [ha] at e;cases e
    have d':Data.seq vs.toArray _=Data.dict es ep:=d
    cases d'
  have nsK:∀ {b:Addr} {m:Str->Option Value},s₁.heap.Ns b m->(hidT s₁.heap H).Ns b m:=λ{b m} ⟨o,es,ep,e,d,r⟩=>⟨o,es,ep,base_of e (noA e d),d,r⟩
  have hKb:K.In (hidT s₁.heap H):=λb o e=>base_of (KX b o e) (by
   cases q:H b with
   | none=>rfl
   | some u =>
    have e':b=a:=hA b (by rw [q];simp)
    subst e'
    rw [hK (by rw [q];simp)] at e;cases e)
  have hM:Mod K mg (hidT s₁.heap H):=⟨hKb,nsK hns,⟨mb,nsK hb,hbb⟩,let ⟨mc,h1,h2⟩:=hlim;⟨mc,nsK h1,h2⟩⟩
  have e0:Env0 P w K mg (hidT s₁.heap H) callerA [] s₁ H:=⟨rfl,hM,λb o e=>zjj e,Nat.le_of_eq (zhg _ _),trivial,λb hb=>absurd (show b∈([]:List Addr) from hb) (by simp),hok,.of_eq hg⟩
  refine codeAny_mono ((F _ hKb (nsK hns)).run callerA [] s₁ H ⟨[.ref a],[]⟩ [.ref a] [.ref a] _ _ hr e0 (hbind s₁ (.ref a)) (.cons rfl .nil) (hsp H hO hS)) λr s' h=>?_
  cases r with
  | error e=>exact (hCX H e s' h).elim
  | ok fl =>
   cases fl with
   | next=>exact False.elim h
   | brk=>exact False.elim h
   | cont=>exact False.elim h
   | ret u =>
    obtain ⟨v,H',os,bare,un,hok',r',q⟩:=h
    have q':v = .bl true:=q
    subst q'
    obtain rfl:u=Value.bool true:=r'
    refine ⟨rfl,OldK.of_keep λb o e=>?_,os,bare⟩
    cases q:H b with
    | none=>exact un.keep b o e q (by intro z;exact absurd (show b∈([]:List Addr) from z) (by simp)) (by simp)
    | some u =>
     rcases hO b with z | ⟨ob,xs,z⟩
     ·rw [q] at z;cases z
     ·have z2:=un.frzs b ob _ z
      obtain ⟨e1,_⟩:=hok b _ z
      obtain ⟨e2,_⟩:=hok' b _ z2
      rw [e] at e1;cases e1
      exact e2
 cases hk:K.lookup a with
 | some o =>
  have e:=KX a o hk
  rw [ha] at e
  cases e
  refine core (λ_=>none) (λ_=>.inl rfl) (.inr ⟨_,vs.toArray,_,hk,rfl,rfl,rfl,by rw [List.size_toArray,lenV];exact hl,by simpa using rv⟩) (λb u z=>by have z':(none:Option HO)=some u:=z;cases z') (λb z=>absurd rfl z) λz=>absurd rfl z
 | none =>
  refine core (λb=>if b=a then some (.frz { cls:=.type "list",data:=.seq vs.toArray } (.lst (ns.map V.int))) else none) (λb=>?_) (.inl (.inr ⟨{ cls:=.type "list",data:=.seq vs.toArray },if_pos rfl⟩)) (λb u z=>?_) (λb z=>?_) λ_=>hk
  ·by_cases hb:b=a
   ·exact .inr ⟨_,_,if_pos hb⟩
   ·exact .inl (if_neg hb)
  ·by_cases hb:b=a
   ·have z' := (if_pos hb).symm.trans z
    cases z'
    subst hb
    exact ⟨ha,by rw [List.length_map];exact hl,vs,_,rv,ha⟩
   ·have z' := (if_neg hb).symm.trans z
    cases z'
  ·by_cases hb:b=a
   ·exact hb
   ·exact absurd (if_neg hb) z
theorem walk_of {l:PySem.W.OpenLaw} {n k:Nat} {q:Program} {loose:List Str} {XP:(Str->Option Value)->Heap->Prop} {YP:World->Heap->Prop} {d:DefRec} {K:Params->PySem.W.Frag} {CX:World->CXT} {sp:World->Sp} {x:Str}
  (hn:l.most=some n) (hn2:n<=sizeLine) (hdf:d.params.defaults=[]) (hr:Room k callerA)
  (hY:∀ (w:World) (h:Heap),YP w h->(K w.params).In h)
  (F:∀ (w:World) (mg:Str->Option Value) (fa:Addr) (h:Heap),(K w.params).In h->h.Ns mainGlobals mg->mg d.name=some (.ref fa) ->
   ∃ fd:FuncData,(∀ (s:Shared) (u:Value),BindsTo s fd ⟨[u],[]⟩ [(x,u)]) /\
    ∀ base:Heap,(K w.params).In base->base.Ns mainGlobals mg->FnOk l.prog w (K w.params) mg base (CX w) k fa fd [x] (sp w))
  (hsp:∀ (w:World) (H:Hp) (a:Addr) (ns:List Int),ns.length<=n->Only H->SqL (K w.params) H a (ns.map V.int)->sp w [.ref a] H (λv _=>v = .bl true) λ_ _ _=>False)
  (hCX:∀ (w:World) (H:Hp) (s:Shared) (e:Value) (s':Shared),CX w [] H s (λ_ _ _=>False) e s'->False) :
  PySem.W.WalkO q loose XP YP l.row.toRowW d [] (λf vs=>PySem.call f vs):=by
 refine Att.attach_call hn hdf λw s₀ s₁ mg mb fa o pm cd doc a vs ns G Y ho hd hcd hmg hobj hints hlen hg=>?_
 have KX:=hY w _ Y
 obtain ⟨fd,hb,hF⟩:=F w mg fa _ KX G.T.g hmg
 exact ziD KX G.T.g G.T.b G.T.builtins G.T.nolimit hg hobj hints (Nat.le_trans hlen hn2) hr hF hb (λH hO hS=>hsp w H a ns hlen hO hS) λH e s' => hCX w H s₁ e s'
def yaO (s:Stmt) (j:Nat):Stmt:=match s with
 | .ClassDef _ _ _ body _ _ _ _ _ _ _=>body.getD j (.Pass ⟨0,0,0,0⟩)
 | _=>.Pass ⟨0,0,0,0⟩
def yc3 (s:Stmt):Arguments:=match s with
 | .FunctionDef _ a _ _ _ _ _ _ _ _=>a
 | _=>{ posonlyargs:=[],args:=[],vararg:=none,kwonlyargs:=[],kw_defaults:=[],kwarg:=none,defaults:=[] }
def yb7 (s:Stmt):List Stmt:=match s with
 | .FunctionDef _ _ b _ _ _ _ _ _ _=>b
 | _=>[]
def yaf (s:Stmt):Scope:=match s with
 | .FunctionDef _ _ _ _ _ _ sc _ _ _=>sc
 | _=>{ kind:=.function,names:=[],isGenerator:=false,isCoroutine:=false }
abbrev E0:XK:=λ_ _ _=>False
structure Fun (K:PySem.W.Frag) (x qual:Str) (st:Stmt) (f:Addr) (fd:FuncData):Prop where
 ex:∃ (oc:Value) (od:Option Addr) (kV doc pm:Value) (an:Option Addr) (cdv ct:Value) (osl:Array (Option Value)),
  fd=PySem.W.fnOf x qual (yc3 st) (yb7 st) (yaf st) .none kV doc pm an cdv ct/\K.lookup f=some ⟨oc,od,.func fd,osl⟩/\PySem.W.codeIn K cdv qual=true
 kp:PySem.W.keepIn K (.ref f)=true
section
variable {P:Program} {w:World} {K:PySem.W.Frag} {mg:Str->Option Value} {base:Heap}
theorem Fun.binds {x qual:Str} {st:Stmt} {f:Addr} {fd:FuncData} {ps:List Str} (F:Fun K x qual st f fd)
  (h:∀ (kV doc pm:Value) (an:Option Addr) (cdv ct:Value) (us:List Value),us.length=ps.length->bindArgs (PySem.W.fnOf x qual (yc3 st) (yb7 st) (yaf st) .none kV doc pm an cdv ct) ⟨us,[]⟩=pure (ps.zip us)):Binds K fd ps []:=by
 obtain ⟨oc,od,kV,doc,pm,an,cdv,ct,osl,rfl,lk,hcd⟩:=F.ex
 exact .all (h kV doc pm an cdv ct)
theorem yf3 {x qual:Str} {st:Stmt} {f:Addr} {oc:Value} {od an:Option Addr} {osl:Array (Option Value)} {kV doc pm cdv ct:Value} (l:K.lookup f=some ⟨oc,od,.func (PySem.W.fnOf x qual (yc3 st) (yb7 st) (yaf st) .none kV doc pm an cdv ct),osl⟩)
  (c:PySem.W.codeIn K cdv qual=true) (k:PySem.W.keepIn K (.ref f)=true):Fun K x qual st f (PySem.W.fnOf x qual (yc3 st) (yb7 st) (yaf st) .none kV doc pm an cdv ct):=⟨⟨oc,od,kV,doc,pm,an,cdv,ct,osl,rfl,l,c⟩,k⟩
end
section
variable {X:Cx}
theorem pv (i:Nat) {x:Str} {pos:Pos} (hN:X.N[i]? = some x:=by rfl) (hv:Vis X.env.scope x:=by first | exact Or.inl rfl | exact Or.inr (Or.inl rfl) | exact Or.inr (Or.inr rfl)) (hd:(x == ("__debug__" : Str))=false:=by decide)
  (hcd:(x == ("__classdict__" : Str))=false:=by decide):PE X (.Name x pos) (tVar i):=yg0 hN hv hd hcd
theorem zhx:CallR X (.builtin "len") (λxs H Q=>∃ a kvs,xs=[V.ref a]/\H a=some (.dK kvs)/\Q (.int kvs.length) H):=by
 intro pins s σ H xs us Q I r h
 obtain ⟨a,kvs,rfl,ha,q⟩:=h
 obtain ⟨u,rfl,ru⟩:=ydd r
 cases ru
 exact yiL I (.inl ha) λt s' I' => ⟨.int kvs.length,H,I',⟨t,rfl⟩,q⟩
end
section
variable {κ:Type} [DecidableEq κ]
end
end L2
set_option maxHeartbeats 4000000
namespace L2
open PySem PySem.Spec PyProof.Rows
section
variable {X:Cx} {pins:List (Addr×Obj)} {σ:St} {H:Hp} {s:Shared} {h':Heap}
theorem Inv.turnedL {t':Nat} {fp:List Addr} (I:Inv X pins σ H s) (k:∀ b o,b∉fp->s.heap.get? b=some o->h'.get? b=some o) (hf:∀ b∈fp,FpOk X pins H b) :
  Inv X pins σ H { s with heap:=h',toks:=t' }:=by
 have nit:∀ b u,H b=some u->b∉fp:=λb u e z=>by
  have q:=(hf b z).1
  rw [q] at e
  cases e
 refine I.step (g' := s.gens) (d' := s.drawn) (ch:=fp) (λb hb=>?_) (λb o _ _ hc e _=>k b o hc e) (λb o _ _ hc e _=>⟨o.slots,k b o hc e⟩) (λ_ _ _ _ n=>n)
  (λb o hc e=>⟨o,k b o hc e⟩) (λ_ _ e=>e) (λ_ _ _ e=>e) (λb ps e=>⟨#[],by rw [e];simp⟩) (λm hm=>?_) (λb u e=>?_) I.bare
 ·obtain ⟨_,f1,_,f3,f4,f5⟩:=hf b hb
  exact ⟨f3,f1,f4,f5⟩
 ·obtain ⟨o,es,ep,ho,r⟩:=hm
  exact ⟨o,es,ep,k _ o (λz=>(hf _ z).2.1 rfl) ho,r⟩
 ·refine (I.hok b u e).stay (λc v hc q=>k c v ?_ q) (λ_ q=>q) λ_ _ q=>q
  rcases hc with z | z
  ·rw [z];exact nit b u e
  ·exact nit c _ z
theorem Inv.adopt {T:Addr} {ob:HO} (I:Inv X pins σ H s) (hn:H T=none) (hT:X.s₀.heap.objs.size<=T) (hL:T≠X.env.locals) (hc:∀ x c,X.env.cells.lookup x=some c->c≠T)
  (hp:∀ p∈X.pn++pins,p.1≠T) (new:ObjOk X.prog X.w (upd H T ob) s.heap T ob):Inv X pins σ (upd H T ob) s:=by
 have hne:∀ b u,H b=some u->b≠T:=λb u e=>zaw e hn
 refine I.step (h' := s.heap) (g' := s.gens) (d' := s.drawn) (t' := s.toks) (ch:=[T]) (λb hb=>?_) (λb o _ _ _ e _=>e) (λb o _ _ _ e _=>⟨o.slots,e⟩) (λb o hb e n=>?_) (λb o _ e=>⟨o,e⟩)
  (λb xs e=>by rw [yaF (hne b _ e)];exact e) (λb o u e=>by rw [yaF (hne b _ e)];exact e) (λb ps e=>⟨#[],by rw [yaF (hne b _ e),e];simp⟩) (λm hm=>hm) (λb u e=>?_) I.bare
 ·have e:b=T:=by simpa using hb
  subst e
  exact ⟨.inr hT,hL,hc,hp⟩
 ·rw [yaF (λz=>hb (by simp [z]))];exact n
 ·by_cases hb:b=T
  ·subst hb;rw [zax] at e;cases e;exact new
  ·rw [yaF hb] at e
   exact (I.hok b u e).stay (λc v _ q=>q) (λc q=>by rw [yaF (hne c _ q)];exact q) λc xs q=>by rw [yaF (hne c _ q)];exact q
end
def Ite (K:PySem.W.Frag) (a:Addr):It :=
 ⟨λi H=>∃ xs x,SqL K H a xs/\xs[i]? = some x,λi H x H' => ∃ (T:Addr) (y:V),x = .ref T/\H T=none/\H'=upd H T (.tup [.int i,y])/\∀ xs,SqL K H a xs->xs[i]? = some y,λi H=>∃ xs,SqL K H a xs/\xs.length<=i⟩
theorem zhy {P:Program} {w:World} {K:PySem.W.Frag} {es:List Expr} {k:Nat} {tp:Pos} (a it e:Addr) (hei:e≠it) :
  Turn P w K (.Tuple es k tp) (Ite K a) [e,it] e (λi h=>(∃ old,IsEnum h e it i old)/\h.IsListIter it a i) where
 mem:=by simp
 obj:=λi h st b hb=>by
  obtain ⟨⟨old,he⟩,o,ho,hc,hd⟩:=st
  have hb':b=e\/b=it:=by simpa using hb
  rcases hb' with rfl | rfl
  ·exact ⟨_,he,λv z=>by
    have z':Data.fields _=Data.cell v:=z
    cases z'⟩
  ·exact ⟨o,ho,λv z=>by rw [hd] at z;cases z⟩
 keep:=λi h h' st k=>by
  obtain ⟨⟨old,he⟩,hit⟩:=st
  exact ⟨⟨old,k e (by simp) _ he⟩,hit.at λo q=>k it (by simp) o q⟩
 item:=by
  intro X hP hw hK hc i pins s σ H E I hf st hg
  subst hP hw hK
  obtain ⟨xs,x,hq,hx⟩:=hg
  obtain ⟨its,rv,p,hz⟩:=I.list hq
  obtain ⟨u,hu,ru⟩:=rv.get hx
  obtain ⟨⟨old,he⟩,hit⟩:=st
  refine wpAny_pyNext_enum_item he hit p.isList (x:=u) (by simpa using hu) hei λh1 ho hit1 hT hsz hk=>?_
  refine ⟨.ref s.heap.objs.size,rfl,wpAny_letOwnedTupleGo_enum ho λh2 he2 hs2=>?_⟩
  replace hs2:Heap.SameBut e h1 h2:=hs2
  have helt:e<s.heap.objs.size:=Heap.lt_size he
  have I1:Inv X pins σ H { s with heap:=h2,toks:=s.toks+1 }:=I.turnedL (fp:=[e,it]) (λb o hb q=>by
   have n1:b≠e:=λz=>hb (by simp [z])
   have n2:b≠it:=λz=>hb (by simp [z])
   exact (hs2.2 b n1).trans (hk b o n1 n2 q)) hf
  have hT2:h2.get? s.heap.objs.size=some { cls:=.type "tuple",data:=.seq #[.int i s.toks,u] }:=(hs2.2 _ (Nat.ne_of_gt helt)).trans hT
  have fp:=I.fpOk (H' := H) (Nat.le_refl s.heap.objs.size) (I.hok.fresh (Nat.le_refl _))
  obtain ⟨f0,f1,f2,f3,f4,f5⟩:=fp
  have I2:Inv X pins σ (upd H s.heap.objs.size (.tup [.int i,x])) { s with heap:=h2,toks:=s.toks+1 } :=
   I1.adopt (T:=s.heap.objs.size) f0 (I.sz) f1 f4 f5 ⟨by show 2<=sizeLine;decide,[.int i s.toks,u],.cons ⟨_,rfl⟩ (.cons ru .nil),⟨_,hT2,rfl,_,rfl⟩⟩
  refine ⟨.ref s.heap.objs.size,_,I2,rfl,⟨s.heap.objs.size,x,rfl,f0,rfl,λys hy=>by rw [I.list_inj hy hq];exact hx⟩,⟨⟨u,by simpa using he2⟩,hit1.extBut hs2.extBut (Ne.symm hei)⟩,λb hb=>?_⟩
  obtain ⟨g0,_⟩:=hf b hb
  obtain ⟨o,hob,_⟩:∃ o,s.heap.get? b=some o/\True:=by
   have hb':b=e\/b=it:=by simpa using hb
   rcases hb' with rfl | rfl
   ·exact ⟨_,he,trivial⟩
   ·obtain ⟨o,q,_⟩:=hit
    exact ⟨o,q,trivial⟩
  rw [yaF (Nat.ne_of_lt (Heap.lt_size hob))]
  exact g0
 done:=by
  intro X hP hw hK hc i pins s σ H E I hf st hg
  subst hP hw hK
  obtain ⟨xs,hq,hx⟩:=hg
  obtain ⟨its,rv,p,hz⟩:=I.list hq
  obtain ⟨⟨old,he⟩,hit⟩:=st
  have hl:=rv.length
  exact wpAny_pyNext_enum_end (I.ok.hd hc) he hit p.isList (by simp;omega) λh' eb=>⟨rfl,I.turnedL (fp:=[e,it]) (t' := s.toks) (λb o hb q=>eb b o (λz=>hb (by simp [z])) q) hf⟩
 self:=λ_ _ _ _ _ st h=>by
  obtain ⟨⟨old,he⟩,_⟩:=st
  exact wpAny_pyIter_enum he h
section
variable {X:Cx}
def iEnum (K:PySem.W.Frag) (ta:TA):TI:=λσ H R=>ta σ H λvs H1=>∃ a,vs=[.ref a]/\(∃ xs,SqL K H1 a xs)/\R (Ite K a) H1
theorem zjE {l:Expr} {ta:TA} {p pos tp:Pos} {es:List Expr} {k:Nat} (hg:Gl X "enumerate") (hm:X.mg "enumerate" = none) (ha:PA X [l] ta) (hs:starEach [l] X.env=[(false,eval l X.env)]:=by rfl) :
  PI X (.Tuple es k tp) (.Call (.Name "enumerate" p) [l] [] pos) (iEnum X.K ta):=by
 intro pins s σ H R I h
 refine Call_ (yd7 I hg hm boot_enumerate (PyProof.Rows.callWith_type1 (thn (ha pos pins s σ H _ I h) λus s1 Zz=>?_) hs rfl));obtain ⟨vs,H1,I1,r1,q1⟩:=Zz
 obtain ⟨a,e,⟨xs,hq⟩,q⟩:=q1
 subst e
 cases r1 with
 | cons r rr =>
  cases rr
  cases r
  obtain ⟨its,rv,pl,hz⟩:=I1.list hq
  refine call_enumerate_list pl.isList λh' he hit hsz hk=>wpAny_pyIter_enum he ?_
  refine ⟨s1.heap.objs.size+1,[s1.heap.objs.size+1,s1.heap.objs.size],_,_,H1,rfl,I1.kept (t' := s1.toks) λb o e=>hk b o e,zhy a _ _ (Nat.succ_ne_self _),⟨⟨_,he⟩,hit⟩,λb hb=>?_,q⟩
  have hb':b=s1.heap.objs.size+1\/b=s1.heap.objs.size:=by simpa using hb
  rcases hb' with rfl | rfl
  ·exact I1.fpOk (Nat.le_succ _) (I1.hok.fresh (Nat.le_succ _))
  ·exact I1.fpOk (Nat.le_refl _) (I1.hok.fresh (Nat.le_refl _))
end
def Its (x:Str):It:=⟨λi _=>i<x.cps.size,λi H v H' => H'=H/\∃ c,x.cps[i]? = some c/\v = .str ⟨#[c]⟩,λi _=>x.cps.size<=i⟩
theorem zhz {P:Program} {w:World} {A:Around} (hh:A.handled=none) (it:Addr) (x:Str) (t:Tok) :
  Walks P w A it [it] [it] x.cps.size (SignAt x) (λi h=>h.IsStrIter it (strIterType x) x t i):=by
 cases ha:x.cps.all (· < 128) with
 | false =>
  have e:strIterType x = "str_iterator" := by simp [strIterType,ha]
  rw [e]
  exact Walks.strWide hh it x t
 | true =>
  have e:strIterType x = "str_ascii_iterator" := by simp [strIterType,ha]
  rw [e]
  exact Walks.strAscii hh it x t
theorem ziE {P:Program} {w:World} {K:PySem.W.Frag} {y:Str} {py:Pos} (it:Addr) (x:Str) (t:Tok):Turn P w K (.Name y py) (Its x) [it] it (λi h=>h.IsStrIter it (strIterType x) x t i) where
 mem:=by simp
 obj:=λi h st b hb=>by
  have e:b=it:=by simpa using hb
  subst e
  obtain ⟨o,e,c,d⟩:=st
  exact ⟨o,e,λv z=>by rw [d] at z;cases z⟩
 keep:=λi h h' st k=>by
  obtain ⟨o,e,r⟩:=st
  exact ⟨o,k it (by simp) o e,r⟩
 item:=by
  intro X hP hw hK hc i pins s σ H E I hf st hg
  subst hP hw hK
  refine (zhz (I.ok.hd hc) it x t).item i s _ _ hg st λv h1 tk hv st1 kk=>?_
  obtain ⟨c,u,hcp,rfl⟩:=hv
  have I1:Inv X pins σ H { s with heap:=h1,toks:=tk }:=I.turnedL (fp:=[it]) kk hf
  exact ⟨_,rfl,wpAny_pure ⟨.str ⟨#[c]⟩,H,I1,⟨u,rfl⟩,⟨rfl,c,hcp,rfl⟩,st1,λb hb=>(hf b hb).1⟩⟩
 done:=by
  intro X hP hw hK hc i pins s σ H E I hf st hg
  subst hP hw hK
  have hx:x.cps[i]? = none:=Array.getElem?_eq_none hg
  cases ha:x.cps.all (· < 128) with
  | false =>
   have e:strIterType x = "str_iterator" := by simp [strIterType,ha]
   rw [e] at st
   exact wpAny_pyNext_wide_end (I.ok.hd hc) st hx λh' eb=>⟨rfl,I.turnedL (fp:=[it]) (t' := s.toks) (λb o hb q=>eb b o (λz=>hb (by simp [z])) q) hf⟩
  | true =>
   have e:strIterType x = "str_ascii_iterator" := by simp [strIterType,ha]
   rw [e] at st
   exact wpAny_pyNext_ascii_end (I.ok.hd hc) st hx λh' eb=>⟨rfl,I.turnedL (fp:=[it]) (t' := s.toks) (λb o hb q=>eb b o (λz=>hb (by simp [z])) q) hf⟩
 self:=λA i s Q E st h=>by
  cases ha:x.cps.all (· < 128) with
  | false =>
   have e:strIterType x = "str_iterator" := by simp [strIterType,ha]
   rw [e] at st
   exact wpAny_pyIter_striter_wide st h
  | true =>
   have e:strIterType x = "str_ascii_iterator" := by simp [strIterType,ha]
   rw [e] at st
   exact wpAny_pyIter_striter_ascii st h
section
variable {X:Cx}
def iStr (tl:TE):TI:=λσ H R=>tl σ H λx H1=>∃ t,x = .str t/\R (Its t) H1
theorem yhC {l:Expr} {tl:TE} {y:Str} {py:Pos} (hl:PE X l tl):PI X (.Name y py) l (iStr tl):=by
 intro pins s σ H R I h
 refine thn (hl pins s σ H _ I h) λv s1 Zz=>?_;obtain ⟨x,H1,I1,r1,q1⟩:=Zz
 obtain ⟨t,e,q⟩:=q1
 subst e
 obtain ⟨tk,rfl⟩:=r1
 refine wpAny_pyIter_strU ?_
 refine ⟨s1.heap.objs.size,[s1.heap.objs.size],_,_,H1,rfl,I1.kept (t' := s1.toks) λb o e=>Heap.get?_push_of_some _ e,ziE _ t tk,⟨_,Heap.get?_push_size _ rfl,rfl,rfl⟩,λb hb=>?_,q⟩
 have e:b=s1.heap.objs.size:=by simpa using hb
 subst e
 exact I1.fpOk (Nat.le_refl _) (I1.hok.fresh (Nat.le_refl _))
end
def yaV (env:Env):List (Str×NameKind)->List (Str×Addr)->List (Str×Addr)
 | [],acc=>acc
 | (n,k)::r,acc=>yaV env r (if k = .free then (n,(env.cells.lookup n).getD 0)::acc else acc)
theorem zgP {env:Env} {scope:Scope} (h:∀ y∈scope.names,y.2 = .free->(env.cells.lookup y.1).isSome=true):closureFor scope env=pure (yaV env scope.names []):=by
 have all:∀ (l:List (Str×NameKind)) (acc:List (Str×Addr)),(∀ y∈l,y.2 = .free->(env.cells.lookup y.1).isSome=true) ->
   (forIn l acc λ(x:Str×NameKind) (cs:List (Str×Addr))=>if (x.2 == NameKind.free)=true then (do let a <- cellOf env x.1;pure (ForInStep.yield ((x.1,a)::cs))) else (pure (ForInStep.yield cs):Sem _))=pure (yaV env l acc):=by
  intro l
  induction l with
  | nil=>intro acc _;rfl
  | cons y r ih =>
   intro acc hl
   obtain ⟨n,k⟩:=y
   rw [List.forIn_cons]
   have hr:=λz hz=>hl z (List.mem_cons_of_mem _ hz)
   by_cases hk:k = .free
   ·subst hk
    obtain ⟨c,hc⟩:=Option.isSome_iff_exists.mp (hl (n,.free) List.mem_cons_self rfl)
    have e1:cellOf env n=pure c:=by
     simp only [cellOf]
     have hc':env.cells.lookup n=some c:=hc
     rw [hc']
    simp only [beq_self_eq_true,if_true,e1,pure_bind,yaV]
    have hc':env.cells.lookup n=some c:=hc
    rw [hc']
    exact ih _ hr
   ·have hb:(k == NameKind.free)=false:=by simpa using hk
    simp only [hb,Bool.false_eq_true,if_false,pure_bind,yaV,hk]
    exact ih _ hr
 unfold closureFor
 have q:=all scope.names [] h
 first
  | exact q
  | (simp only [bind_pure];exact q)
  | (rw [<- q];simp)
theorem zcK {env:Env}:∀ {l:List (Str×NameKind)} {acc:List (Str×Addr)},(∀ y∈l,y.2 = .free->(env.cells.lookup y.1).isSome=true)->(∀ y c,acc.lookup y=some c->env.cells.lookup y=some c) ->
  ∀ y c,(yaV env l acc).lookup y=some c->env.cells.lookup y=some c
 | [],_,_,h,y,c,e=>h y c e
 | (n,k)::r,acc,hl,h,y,c,e=>by
  refine zcK (l:=r) (λz hz=>hl z (List.mem_cons_of_mem _ hz)) ?_ y c e
  intro y c e
  by_cases hk:k = .free
  ·rw [if_pos hk] at e
   rw [List.lookup_cons] at e
   cases hy:y == n with
   | true =>
    rw [hy] at e
    have e':y=n:=by simpa using hy
    obtain ⟨c',hc'⟩:=Option.isSome_iff_exists.mp (hl (n,k) List.mem_cons_self hk)
    have hc'':env.cells.lookup n=some c' := hc'
    rw [hc''] at e
    rw [e',hc'']
    exact e
   | false =>
    rw [hy] at e
    exact h y c e
  ·rw [if_neg hk] at e
   exact h y c e
theorem zcL {env:Env}:∀ {l:List (Str×NameKind)} {acc:List (Str×Addr)} {y:Str},(y,NameKind.free)∈l\/(acc.lookup y).isSome=true->((yaV env l acc).lookup y).isSome=true
 | [],_,_,h=>by
  rcases h with h | h
  ·cases h
  ·exact h
 | (n,k)::r,acc,y,h=>by
  refine zcL (l:=r) ?_
  rcases h with h | h
  ·rcases List.mem_cons.mp h with e | e
   ·right
    cases e
    rw [if_pos rfl,List.lookup_cons]
    simp
   ·exact .inl e
  ·right
   by_cases hk:k = .free
   ·rw [if_pos hk,List.lookup_cons]
    cases hy:y == n with
    | true=>rfl
    | false=>exact h
   ·rw [if_neg hk];exact h
theorem zaH {names:List (Str×NameKind)} {x:Str} {k:NameKind} (h:names.lookup x=some k):(x,k)∈names:=PySem.mem_of_lookup h
theorem zaO {env:Env} {x:Str} {k:NameKind}:∀ {names:List (Str×NameKind)},(names.map λ(n,k)=>if (k == NameKind.free && env.scope.kind == .function && env.kindOf n == some .cell) then (n,NameKind.cell) else (n,k)).lookup x=some k ->
  names.lookup x=some k\/(k = .cell/\names.lookup x=some .free)
 | [],h=>by simp at h
 | (n,kk)::r,h=>by
  have ih:=@zaO env x k r
  by_cases hc:(kk == NameKind.free && env.scope.kind == .function && env.kindOf n == some .cell)=true
  ·have hf:kk = .free:=by
    have q:=(Bool.and_eq_true _ _).mp ((Bool.and_eq_true _ _).mp hc).1
    simpa using q.1
   subst hf
   have h':List.lookup x ((n,NameKind.cell)::(r.map λ(n,k)=>if (k == NameKind.free && env.scope.kind == .function && env.kindOf n == some .cell) then (n,NameKind.cell) else (n,k)))=some k:=by
    have e:(λ(p:Str×NameKind)=>match p with | (n,k)=>if (k == NameKind.free && env.scope.kind == .function && env.kindOf n == some .cell)=true then (n,NameKind.cell) else (n,k)) (n,NameKind.free)=(n,NameKind.cell):=by
     show (if _ then _ else _)=_
     rw [if_pos hc]
    rw [List.map_cons] at h
    rw [<- e]
    exact h
   rw [List.lookup_cons] at h' ⊢
   cases hx:x == n with
   | true =>
    rw [hx] at h'
    right
    exact ⟨(Option.some.inj h').symm,rfl⟩
   | false =>
    rw [hx] at h'
    exact ih h'
  ·have h':List.lookup x ((n,kk)::(r.map λ(n,k)=>if (k == NameKind.free && env.scope.kind == .function && env.kindOf n == some .cell) then (n,NameKind.cell) else (n,k)))=some k:=by
    have e:(λ(p:Str×NameKind)=>match p with | (n,k)=>if (k == NameKind.free && env.scope.kind == .function && env.kindOf n == some .cell)=true then (n,NameKind.cell) else (n,k)) (n,kk)=(n,kk):=by
     show (if _ then _ else _)=_
     rw [if_neg hc]
    rw [List.map_cons] at h
    rw [<- e]
    exact h
   rw [List.lookup_cons] at h' ⊢
   cases hx:x == n with
   | true =>
    rw [hx] at h'
    exact .inl h'
   | false =>
    rw [hx] at h'
    exact ih h'
structure CompOk (X:Cx) (ns:List Str) (jf:List (Nat×Str)) (scope:Scope):Prop where
 hN:(ns++jf.map (·.2)).Nodup
 hx:∀ x∈ns,scope.names.lookup x=some .local
 hjf:∀ p∈jf,X.N[p.1]? = some p.2
 hjl:∀ p∈jf,scope.names.lookup p.2=some .free
 hkind:scope.kind = .function
 hcell:∀ y∈scope.names,y.2 ≠ .cell
 hfr:∀ y∈scope.names,y.2 = .free->X.env.kindOf y.1=some .cell\/X.env.kindOf y.1=some .free
 hnames:∀ y∈scope.names,y.2 = .local->scope.names.lookup y.1=some .local
def yaT (X:Cx) (pins:List (Addr×Obj)) (ns:List Str) (jf:List (Nat×Str)) (scope:Scope) (cl:List (Str×Addr)) (s:Shared) (H:Hp) (fp:List Addr):Cx where
 prog:=X.prog
 w:=X.w
 K:=X.K
 mg:=X.mg
 base:=X.base
 A:=X.A
 N:=ns++jf.map (·.2)
 s₀:=s
 H₀:=H
 env:=compEnvC scope cl s.heap.objs.size X.env
 outer:=X.stack
 stack:=X.stack
 ex:=fp
 fn:=λ_=>false
 calm:=X.calm
 pn:=X.pn++pins
 xe:=λ_ _=>False
def ybt (vs:List (Option V)) (js:List (Nat×Str)) (σ:St):St:=vs++js.map λj=>(σ[j.1]?).join
def PTs (X:Cx) (ifs:List Expr) (t:TT):Prop :=
 ∀ (pins:List (Addr×Obj)) (s:Shared) (σ:St) (H:Hp) (Q:Bool->Hp->Prop),Inv X pins σ H s->t σ H Q ->
  wpAny (model X.prog X.w) X.A (forIn ifs true λc r=>if r=true then do let ok <- isTrue c X.env (eval c X.env);pure (ForInStep.yield ok) else pure (ForInStep.yield r)) (TP X pins σ Q) X.xe s
def tYes:TT:=λ_ H Q=>Q true H
theorem zjF {X:Cx}:PTs X [] tYes:=λpins s σ H Q I h=>wpAny_tests_nil ⟨H,I,h⟩
theorem zjG {X:Cx} {c:Expr} {t:TT} (hc:PT X c t):PTs X [c] t:=λpins s σ H Q I h=>wpAny_tests_one (hc pins s σ H Q I h)
def ygC (k:Nat) (g:TG) (jf:List (Nat×Str)) (tc:TT) (te:TE) (σ:St) (Q:VK) (J:It) (H1:Hp):Prop:=∀ D,H1 D=none->∃ W:Nat->Nat->List V->Hp->Prop,(∃ m,W 0 m [] (upd H1 D (.lst []))) /\
 ∀ i m ys H2,W i m ys H2->H2 D=some (.lst ys)/\((J.stop i H2/\Q (.ref D) H2)\/(J.go i H2/\ys.length<sizeLine/\∀ x H3,J.yld i H2 x H3->∃ us:List V,us.length=k/\g x (ybt (List.replicate k none) jf σ) H3 (λσ' H' => σ'=ybt (us.map some) jf σ/\H'=H3)/\tc (ybt (us.map some) jf σ) H3 λb H5 =>
  if b=true then te (ybt (us.map some) jf σ) H5 λv H6=>H6 D=some (.lst ys)/\∃ m',m'<m/\W (i+1) m' (ys++[v]) (upd H6 D (.lst (ys++[v]))) else ∃ m',m'<m/\W (i+1) m' ys H5))
def yfl (k:Nat) (g:TG) (jf:List (Nat×Str)) (wi:TI) (tc:TT) (te:TE):TE:=λσ H Q=>wi σ H (ygC k g jf tc te σ Q)
section
variable {X:Cx} {pins:List (Addr×Obj)} {σ:St} {H:Hp} {s:Shared} {ns:List Str} {jf:List (Nat×Str)} {scope:Scope} {fp:List Addr}
theorem CompOk.pg {cl:List (Str×Addr)} {x:Str} {p:Pos} (C:CompOk X ns jf scope) (i:Nat) (h:(ns++jf.map (·.2))[i]? = some x) (m:x∈ns):PG (yaT X pins ns jf scope cl s H fp) (.Name x p) (ydc i) :=
 zdr C.hN h (.inl (lookup_relabel_local (C.hx x m))) (.inr (lookup_relabel_local (C.hx x m)))
theorem Inv.block {h1:Heap} {tk:Nat} (I:Inv X pins σ H s) (hf:∀ b∈fp,FpOk X pins H b) (hlt:∀ b∈fp,b<s.heap.objs.size) (C:CompOk X ns jf scope)
  (hn:h1.Ns s.heap.objs.size (λ_=>none)) (hk:∀ b o,s.heap.get? b=some o->h1.get? b=some o) :
  Inv (yaT X pins ns jf scope (yaV X.env scope.names []) s H fp) [] (ybt (List.replicate ns.length none) jf σ) H { s with heap:=h1,toks:=tk }:=by
 obtain ⟨_,_,hjf,hjl,hkind,hcell,hfr,_⟩:=C
 have hsome:∀ y∈scope.names,y.2 = .free->(X.env.cells.lookup y.1).isSome=true:=λy hy hyf=>Option.isSome_iff_exists.mpr (I.ok.has y.1 (hfr y hy hyf))
 have sub:∀ y c,(yaV X.env scope.names []).lookup y=some c->X.env.cells.lookup y=some c:=zcK hsome (λy c e=>by simp at e)
 have hsz:=I.sz
 have inE:∀ b,b∈(yaT X pins ns jf scope (yaV X.env scope.names []) s H fp).ex->b∈fp:=λb z=>z
 have stk:∀ b∈frs X.stack,b<s.heap.objs.size:=λb hb=>by
  obtain ⟨_,o,ho,_⟩:=I.stack.mem hb
  exact Heap.lt_size ho
 refine ⟨⟨I.ok.mod,hkind,I.ok.glob,I.ok.blt,Nat.le_refl _,λy z c e1 e2=>I.ok.inj y z c (sub y c e1) (sub z c e2),λy hy=>?_,λy c hfn _=>(by cases hfn),I.ok.hd,I.ok.frames,.inl rfl,λb hb=>?_,λb o e=>I.bs b o e,Nat.le_trans I.ok.bsz hsz,λb o e z=>?_,λb hb z=>?_,I.stack,I.stkFree⟩,
  rfl,I.bare,Un.kept hk,⟨_,hn,λi y v e1 e2 e3=>?_⟩,λy c e=>?_,I.hok.fresh (Nat.le_refl _),λy c e=>I.freeC y c (sub y c e),λp hp=>?_,I.hok.kept hk,?_⟩
 ·have hy':(relabel scope X.env).names.lookup y=some .cell\/(relabel scope X.env).names.lookup y=some .free:=hy
  have mem:(y,NameKind.free)∈scope.names:=by
   rcases hy' with q | q
   ·rcases zaO (env:=X.env) q with z | z
    ·exact absurd rfl (hcell _ (zaH z))
    ·exact zaH z.2
   ·rcases zaO (env:=X.env) q with z | z
    ·exact zaH z
    ·exact zaH z.2
  exact Option.isSome_iff_exists.mp (zcL (.inl mem))
 ·exact ⟨Nat.ne_of_lt (hlt b hb),λy c e=>(hf b hb).2.2.2.2.1 y c (sub y c e)⟩
 ·rcases (hf b z).2.2.2.1 with q | q
  ·exact I.ok.noex b o e q
  ·exact absurd (Nat.lt_of_lt_of_le (Heap.lt_size e) (Nat.le_trans I.ok.bsz q)) (Nat.lt_irrefl _)
 ·rcases List.mem_cons.mp (I.stkSub b z) with q | q
  ·exact (hf b hb).2.1 q
  ·exact (hf b hb).2.2.1 q
 ·have e1':(ns++jf.map (·.2))[i]? = some y:=e1
  unfold ybt at e2
  by_cases hi:i<ns.length
  ·rw [List.getElem?_append_left (by rw [List.length_replicate];exact hi),List.getElem?_replicate,if_pos hi] at e2;cases e2
  ·have hi:=Nat.le_of_not_lt hi
   rw [List.getElem?_append_right hi,List.getElem?_map] at e1'
   rw [List.getElem?_append_right (by rw [List.length_replicate];exact hi),List.length_replicate,List.getElem?_map] at e2
   cases q:jf[i-ns.length]? with
   | none=>rw [q] at e2;cases e2
   | some p =>
    rw [q] at e1' e2
    have ey:p.2=y:=Option.some.inj e1'
    have ev:(σ[p.1]?).join=some v:=Option.some.inj e2
    have hp:p∈jf:=List.mem_of_getElem? q
    have eσ:σ[p.1]? = some (some v):=by
     cases z:σ[p.1]? with
     | none=>rw [z] at ev;cases ev
     | some r=>rw [z] at ev;rw [show r=some v from ev]
    have hfree:scope.names.lookup y=some .free:=by rw [<- ey];exact hjl p hp
    have mem:=zaH hfree
    have kX:=hfr _ mem rfl
    obtain ⟨m,hnX,hl⟩:=I.loc
    obtain ⟨u,ru,lk⟩:=hl p.1 y v (by rw [<- ey];exact hjf p hp) eσ (by
     rcases kX with z | z
     ·exact .inr (.inl z)
     ·exact .inr (.inr z))
    refine ⟨u,ru,.inr ⟨?_,?_⟩⟩
    ·have e3':Vis (relabel scope X.env) y:=e3
     rcases e3' with z | z | z
     ·exfalso
      rcases zaO (env:=X.env) z with q | q
      ·rw [hfree] at q;cases q
      ·cases q.1
     ·exact .inl z
     ·exact .inr z
    ·rcases lk with ⟨z,_⟩ | ⟨_,c,hc,hcell'⟩
     ·exfalso
      rcases kX with q | q
      ·rw [show X.env.kindOf y=some .cell from q] at z;cases z
      ·rw [show X.env.kindOf y=some .free from q] at z;cases z
     ·obtain ⟨c',hc'⟩:=Option.isSome_iff_exists.mp (zcL (env:=X.env) (acc:=[]) (.inl mem))
      have e:=sub y c' hc'
      rw [hc] at e
      cases e
      obtain ⟨o,ho,hd⟩:=hcell'
      exact ⟨c,hc',o,hk c o ho,hd⟩
 ·obtain ⟨v,o,ho,hd⟩:=I.cell y c (sub y c e)
  exact ⟨v,o,hk c o ho,hd⟩
 ·have hp':p∈X.pn++pins:=by simpa [yaT] using hp
  obtain ⟨e,n,ne,nf,d⟩:=I.pin p hp'
  refine ⟨hk _ _ e,n,Nat.ne_of_lt (Heap.lt_size e),λz=>?_,d⟩
  rcases List.mem_cons.mp (I.stkSub p.1 z) with q | q
  ·exact ne q
  ·exact nf q
 ·unfold ybt
  show _=(ns++jf.map (·.2)).length
  rw [List.length_append,List.length_append,List.length_replicate,List.length_map,List.length_map]
end
theorem zeH {prog:Program} {w:World} {A:Around} {R:Result->Shared->Prop} {s:Shared} {elt target iter:Expr} {ifs:List Expr} {scope:Scope} {pos:Pos} {it acc:Value} {env:Env} (I:Nat->Shared->Prop)
  (turn:∀ n s,I n s->wpAny (model prog w) A (pyNext it) (λr s₁=>match r with
   | none=>R (.ok .next) s₁
   | some v=>wpAny (model prog w) A (letOwnedTupleGo target it v) (λ_ s₂=>wpAny (model prog w) A (assign target env v) (λ_ s₃ =>
     wpAny (model prog w) A (forIn ifs true λc r=>if r=true then do let ok <- isTrue c env (eval c env);pure (ForInStep.yield ok) else pure (ForInStep.yield r)) (λok s₄ =>
      if ok=true then wpAny (model prog w) A (eval elt env) (λx s₅=>wpAny (model prog w) A (call (.builtin "list.append") [acc,x]) (λ_ s₆=>∃ m,m<n/\I m s₆) (λ_ _=>False) s₅) (λ_ _=>False) s₄
      else ∃ m,m<n/\I m s₄) (λ_ _=>False) s₃) (λ_ _=>False) s₂) (λ_ _=>False) s₁) (λ_ _=>False) s)
  (n:Nat) (h:I n s):codeAny (model prog w) A (.compLoop (.ListComp elt [⟨target,iter,ifs,0⟩] scope pos) 0 it acc env) R s:=by
 refine codeAny_loop rfl I (λn s hI=>?_) n h
 show wpAny _ A ((compTurn (.ListComp elt [⟨target,iter,ifs,0⟩] scope pos) 0 it acc env).onRaise (λx=>do noteFrame x env;theTreesLotGoes x)) _ _ s
 refine wpAny_noted ?_
 rw [compTurn_list]
 refine wpAny_bind (wpAny_standAt (wpAny_bind (wpAny_mono (turn n s hI) (λr s₁ h₁=>?_) λ_ _ z=>z.elim)))
 cases r with
 | none=>exact wpAny_pure h₁
 | some v =>
  refine wpAny_bind (wpAny_mono h₁ (λ_ s₂ h₂=>?_) λ_ _ z=>z.elim)
  refine wpAny_bind (wpAny_mono h₂ (λ_ s₃ h₃=>wpAny_bind (wpAny_mono h₃ (λok s₄ h₄=>?_) λ_ _ z=>z.elim)) λ_ _ z=>z.elim)
  cases ok with
  | false=>exact wpAny_pure ⟨rfl,h₄⟩
  | true =>
   exact wpAny_bind (wpAny_bind (wpAny_mono h₄ (λx s₅ h₅=>wpAny_bind (wpAny_mono h₅ (λ_ s₆ h₆=>wpAny_pure (wpAny_pure ⟨rfl,h₆⟩)) λ_ _ z=>z.elim)) λ_ _ z=>z.elim))
section
variable {X:Cx} {ns:List Str} {tg:Expr} {g:TG} {jf:List (Nat×Str)} {scope:Scope} {iter elt:Expr} {ifs:List Expr} {pos:Pos} {wi:TI} {tc:TT} {te:TE}
theorem zeI (hcalm:X.calm=true) (hg:∀ pins cl s H fp,PG (yaT X pins ns jf scope cl s H fp) tg g) (hi:PI X tg iter wi) (hc:∀ pins cl s H fp,PTs (yaT X pins ns jf scope cl s H fp) ifs tc) (he:∀ pins cl s H fp,PE (yaT X pins ns jf scope cl s H fp) elt te) (C:CompOk X ns jf scope) {use:Option (Value->Sem Unit)} {Qf:Value->Shared->Prop} {cpos:Pos}
  {pins:List (Addr×Obj)} {σ:St} {H:Hp} {s:Shared} {Q:VK} (I:Inv X pins σ H s) (h:yfl ns.length g jf wi tc te σ H Q)
  (fin:∀ D C s6 H6 m6,Inv X pins σ H6 s6->Q (.ref D) H6->FpOk X pins H6 C->s6.heap.Ns C m6->compPost (model X.prog X.w) X.A X.xe use Qf (.ref D) C (.ok .next) s6) (hs:∀ x,foldedSetIterable iter X.env x=pure x) :
  wpAny (model X.prog X.w) X.A (comprehension (.ListComp elt [⟨tg,iter,ifs,0⟩] scope pos) scope X.env cpos (newList []) false (eval iter X.env) use) Qf X.xe s:=by
 obtain ⟨_,_,_,_,hkind,hcell,hfr,hnames⟩:=id C
 have hsome:∀ y∈scope.names,y.2 = .free->(X.env.cells.lookup y.1).isSome=true:=λy hy hyf=>Option.isSome_iff_exists.mpr (I.ok.has y.1 (hfr y hy hyf))
 refine wpAny_comprehension_free (use:=use) rfl hs (zgP hsome) hkind hnames (thn (hi pins s σ H _ I h) λxv s1 h1=>thn h1 λitv s2 h2=>?_)
 obtain ⟨it,fp,tn,J,H2,e,I2,T,st2,f2,h⟩:=h2
 subst e
 refine wpAny_newObj_type (wpAny_newFunctionEnv hcell (by intro y hy;simp at hy) (λh₁ hns₁ hsb₁=>?_) hkind)
 have hD0:H2 s2.heap.objs.size=none:=I2.hok.fresh (Nat.le_refl _)
 obtain ⟨W,⟨m0,w0⟩,step⟩:=h s2.heap.objs.size hD0
 dsimp only at hns₁ hsb₁ ⊢
 have I3:Inv X pins σ (upd H2 s2.heap.objs.size (.lst [])) { s2 with heap:=s2.heap.push { cls:=.type "list",dict:=none,data:=.seq ([]:List Value).toArray } } :=
  I2.laid (t' := s2.toks) (λb u q=>Heap.get?_push_of_some _ q) (Nat.le_refl _) ⟨Nat.zero_le _,[],0,.nil,Heap.get?_push_size _ rfl⟩
 generalize hH3:s2.heap.push { cls:=.type "list",dict:=none,data:=.seq ([]:List Value).toArray }=hp3 at hns₁ hsb₁ I3 ⊢
 have hsz3:hp3.objs.size=s2.heap.objs.size+1:=by rw [<- hH3,Heap.size_push]
 have k23:∀ b o,s2.heap.get? b=some o->hp3.get? b=some o:=λb o q=>by rw [<- hH3];exact Heap.get?_push_of_some _ q
 have flt:∀ b∈fp,b<s2.heap.objs.size:=λb hb=>by
  obtain ⟨o,q,_⟩:=T.obj 0 _ st2 b hb
  exact Heap.lt_size q
 have f3:∀ b∈fp,FpOk X pins (upd H2 s2.heap.objs.size (.lst [])) b:=λb hb=>by
  obtain ⟨g0,g⟩:=f2 b hb
  exact ⟨by rw [yaF (Nat.ne_of_lt (flt b hb))];exact g0,g⟩
 have kC:∀ b o,hp3.get? b=some o->h₁.get? b=some o:=λb o q=>(hsb₁.2 b (Nat.ne_of_lt (Heap.lt_size q))).trans (Heap.get?_push_of_some _ q)
 have B0:=I3.block (ns:=ns) (jf:=jf) (scope:=scope) (fp:=fp) (h1:=h₁) (tk:=s2.toks+([]:List (Str×Value)).length) f3 (λb hb=>by show b<hp3.objs.size;rw [hsz3];exact Nat.lt_succ_of_lt (flt b hb)) C (by simpa using hns₁) kC
 have st4:tn 0 h₁:=T.keep _ _ _ st2 λb _ o q=>kC b o (k23 b o q)
 have w0' := w0
 have stat:∀ {H':Hp},(∀ b∈fp,H' b=none)->∀ b∈fp,FpOk (yaT X pins ns jf scope (yaV X.env scope.names []) { s2 with heap:=hp3 } (upd H2 s2.heap.objs.size (.lst [])) fp) [] H' b:=λhn b hb=>by
  obtain ⟨_,g1,g2,g3,g4,g5⟩:=f2 b hb
  refine ⟨hn b hb,Nat.ne_of_lt (by show b<hp3.objs.size;rw [hsz3];exact Nat.lt_succ_of_lt (flt b hb)),λz=>?_,.inl hb,λy c q=>g4 y c (zcK hsome (λy c e=>by simp at e) y c q),λp hp=>g5 p (by simpa [yaT] using hp)⟩
  rcases List.mem_cons.mp (I2.stkSub b z) with q | q
  ·exact g1 q
  ·exact g2 q
 have loop:codeAny (model X.prog X.w) X.A (.compLoop (.ListComp elt [⟨tg,iter,ifs,0⟩] scope pos) 0 (.ref it) (.ref s2.heap.objs.size) (compEnvC scope (yaV X.env scope.names []) hp3.objs.size X.env))
   (compPost (model X.prog X.w) X.A X.xe use Qf (.ref s2.heap.objs.size) hp3.objs.size) { s2 with heap:=h₁,toks:=s2.toks+([]:List (Str×Value)).length }:=by
  refine zeH (λn s' => ∃ i ys H',Inv (yaT X pins ns jf scope (yaV X.env scope.names []) { s2 with heap:=hp3 } (upd H2 s2.heap.objs.size (.lst [])) fp) [] (ybt (List.replicate ns.length none) jf σ) H' s'/\tn i s'.heap/\(∀ b∈fp,H' b=none)/\W i n ys H') ?_ m0
   ⟨0,[],_,B0,st4,λb hb=>(f3 b hb).1,w0⟩
  rintro n s5 ⟨i,ys,H5,I5,st5,fr5,w5⟩
  obtain ⟨hD5,alt⟩:=step i n ys H5 w5
  rcases alt with ⟨stop,q5⟩ | ⟨go,hlen,next⟩
  ·refine wpAny_mono (T.done (yaT X pins ns jf scope (yaV X.env scope.names []) { s2 with heap:=hp3 } (upd H2 s2.heap.objs.size (.lst [])) fp) rfl rfl rfl hcalm i [] s5 _ H5 (λ_ _=>False) I5 (stat fr5) st5 stop) (λr s6 Zz=>?_) λ_ _ z=>z;obtain ⟨hr,I6⟩:=Zz
   subst hr
   obtain ⟨m6,hn6,_⟩:=id I6.loc
   refine fin _ _ s6 H5 m6 ?_ q5 (I3.fpOk (Nat.le_refl _) I6.free) hn6
   refine I3.call' (ch:=fp) I6.os I6.base I6.hok I6.bare (λb hb=>?_)
   obtain ⟨_,g1,g2,g3,g4,g5⟩:=f2 b hb
   exact ⟨g3,g1,g4,g5⟩
  ·refine wpAny_mono (T.item (yaT X pins ns jf scope (yaV X.env scope.names []) { s2 with heap:=hp3 } (upd H2 s2.heap.objs.size (.lst [])) fp) rfl rfl rfl hcalm i [] s5 _ H5 (λ_ _=>False) I5 (stat fr5) st5 go) (λr s6 Zz=>?_) λ_ _ z=>z;obtain ⟨u,hr,h6⟩:=Zz
   subst hr
   refine wpAny_mono h6 (λ_ s7 Zz=>?_) λ_ _ z=>z;obtain ⟨x,H7,I7,r7,y7,st7,fr7⟩:=Zz
   have I7' := I7.pinned (stat fr7) (T.obj _ _ st7)
   obtain ⟨us,hu,gq,q8⟩:=next x H7 y7
   refine wpAny_mono (hg pins _ _ _ fp ([]++ycx fp s7.heap) s7 _ H7 x _ _ I7' r7 gq) (λ_ s8 Zz=>?_) λ_ _ z=>z;obtain ⟨σ8,H8,I8,e8,e8'⟩:=Zz
   subst e8 e8'
   have I8':Inv (yaT X pins ns jf scope (yaV X.env scope.names []) { s2 with heap:=hp3 } (upd H2 s2.heap.objs.size (.lst [])) fp) ([]++ycx fp s7.heap) (ybt (us.map some) jf σ) H8 s8:=I8
   have again:∀ {s9:Shared} {H9:Hp} {zs:List V} {m':Nat},Inv (yaT X pins ns jf scope (yaV X.env scope.names []) { s2 with heap:=hp3 } (upd H2 s2.heap.objs.size (.lst [])) fp) ([]++ycx fp s7.heap) (ybt (us.map some) jf σ) H9 s9->m'<n->W (i+1) m' zs H9 ->
     ∃ m,m<n/\∃ i ys H',Inv (yaT X pins ns jf scope (yaV X.env scope.names []) { s2 with heap:=hp3 } (upd H2 s2.heap.objs.size (.lst [])) fp) [] (ybt (List.replicate ns.length none) jf σ) H' s9/\tn i s9.heap/\(∀ b∈fp,H' b=none)/\W i m ys H' := λ{s9 H9 zs m'} I9 hm w9=>by
    refine ⟨m',hm,i+1,zs,H9,I9.unpinned.weak (by simp [ybt,hu]) (λj v e=>?_),T.keep _ _ _ st7 λb hb o e=>(I9.pin (b,o) (List.mem_append_right _ (List.mem_append_right _ (za9 hb e)))).1,λb hb=>?_,w9⟩
    ·unfold ybt at e ⊢
     by_cases hj:j<ns.length
     ·rw [List.getElem?_append_left (by rw [List.length_replicate];exact hj),List.getElem?_replicate,if_pos hj] at e;cases e
     ·have hj:=Nat.le_of_not_lt hj
      rw [List.getElem?_append_right (by rw [List.length_replicate];exact hj),List.length_replicate] at e
      rw [List.getElem?_append_right (by rw [List.length_map,hu];exact hj),List.length_map,hu]
      exact e
    ·obtain ⟨o,e,d⟩:=T.obj _ _ st7 b hb
     exact (I9.pin (b,o) (List.mem_append_right _ (List.mem_append_right _ (za9 hb e)))).2.1
   refine wpAny_mono (hc pins _ _ _ fp ([]++ycx fp s7.heap) s8 _ H8 _ I8' q8) (λok s9 Zz=>?_) λ_ _ z=>z;obtain ⟨H9,I9,q9⟩:=Zz
   cases ok with
   | false =>
    rw [if_neg Bool.false_ne_true] at q9 ⊢
    obtain ⟨m',hm,w9⟩:=q9
    exact again I9 hm w9
   | true =>
    rw [if_pos rfl] at q9 ⊢
    refine wpAny_mono (he pins _ _ _ fp ([]++ycx fp s7.heap) s9 _ H9 _ I9 q9) (λy s10 Zz=>?_) λ_ _ z=>z;obtain ⟨v,H10,I10,r10,hD10,m',hm,w10⟩:=Zz
    refine wpAny_mono (zd0 (X:=(yaT X pins ns jf scope (yaV X.env scope.names []) { s2 with heap:=hp3 } (upd H2 s2.heap.objs.size (.lst [])) fp)) ([]++ycx fp s7.heap) s10 (ybt (us.map some) jf σ) H10 (.ref s2.heap.objs.size) [v] (.ref s2.heap.objs.size) [y] (λ_ H' => H'=upd H10 s2.heap.objs.size (.lst (ys++[v]))) I10 rfl (.cons r10 .nil) ⟨_,ys,v,rfl,rfl,hD10,hlen,rfl⟩)
     (λ_ s11 ⟨_,H11,I11,_,e11⟩=>?_) λ_ _ z=>z
    subst e11
    exact again I11 hm w10
 exact codeAny_compStart_list loop (T.self _ 0 _ _ _ st4 loop)
theorem zfU (hcalm:X.calm=true) (hg:∀ pins cl s H fp,PG (yaT X pins ns jf scope cl s H fp) tg g) (hi:PI X tg iter wi) (hc:∀ pins cl s H fp,PTs (yaT X pins ns jf scope cl s H fp) ifs tc) (he:∀ pins cl s H fp,PE (yaT X pins ns jf scope cl s H fp) elt te) (C:CompOk X ns jf scope) (hs:∀ x,foldedSetIterable iter X.env x=pure x:=by intro _;rfl) :
  PE X (.ListComp elt [⟨tg,iter,ifs,0⟩] scope pos) (yfl ns.length g jf wi tc te):=by
 intro pins s σ H Q I h
 rw [eval_ListComp]
 refine zeI hcalm hg hi hc he C (use:=none) (Qf:=EP X pins σ Q) I h (λD C s6 H6 m6 I6 q6 f6 n6=>?_) hs
 refine ⟨m6,n6,λh' hs' => ⟨.ref D,H6,?_,rfl,q6⟩⟩
 exact I6.turnedL (fp:=[C]) (t' := s6.toks) (λb o hb q=>(hs'.2 b (λz=>hb (by simp [z]))).trans q) (λb hb=>by
  have e:b=C:=by simpa using hb
  subst e
  exact f6)
theorem zjH {y:Str} {py spos:Pos} {i:Nat} (hcalm:X.calm=true) (hg:∀ pins cl s H fp,PG (yaT X pins ns jf scope cl s H fp) tg g) (hi:PI X tg iter wi) (hc:∀ pins cl s H fp,PTs (yaT X pins ns jf scope cl s H fp) ifs tc) (he:∀ pins cl s H fp,PE (yaT X pins ns jf scope cl s H fp) elt te) (C:CompOk X ns jf scope) (hNX:X.N.Nodup) (hi':X.N[i]? = some y) (hy:X.env.scope.names.lookup y=some .local)
  (hsw:swapsWith (.ListComp elt [⟨tg,iter,ifs,0⟩] scope pos) (some (.Name y py)) spos.line X.env=pure true) (hs:∀ x,foldedSetIterable iter X.env x=pure x:=by intro _;rfl) :
  PS X (.Assign [.Name y py] (.ListComp elt [⟨tg,iter,ifs,0⟩] scope pos) spos) (tAsg (yfl ns.length g jf wi tc te) (ydc i)):=by
 intro pins s σ H D I h
 rw [exec_Assign_Name_used _ _ _ _ hsw]
 refine wpAny_bind (wpAny_standAt (wpAny_bind ?_))
 show wpAny _ X.A (do let _ <- comprehension (.ListComp elt [⟨tg,iter,ifs,0⟩] scope pos) scope X.env _ (newList []) false (eval iter X.env) (some (assign (.Name y py) X.env))) _ _ s
 refine wpAny_bind (wpAny_mono (zeI (Qf:=λ_ s' => SP X pins D .next s') hcalm hg hi hc he C (use:=some (assign (.Name y py) X.env)) I h (λD' C s6 H6 m6 I6 q6 f6 n6=>?_) hs) (λ_ s' hq=>wpAny_pure (wpAny_pure hq)) λ_ _ e=>e)
 refine wpAny_assign_Name (zdV I6 hNX hi' (.inl hy) (v:=.ref D') rfl (λs7 I7 Zz=>?_) (.inr hy));obtain ⟨a,hsa,ha⟩:=Zz
 have ne:C≠a:=by
  rcases ha with z | z
  ·rw [z];exact f6.2.1
  ·exact λq=>f6.2.2.2.2.1 y a z q.symm
 refine ⟨m6,n6.sameBut hsa ne,λh' hs' => ⟨_,H6,?_,q6⟩⟩
 exact I7.turnedL (fp:=[C]) (t' := s7.toks) (λb o hb q=>(hs'.2 b (λz=>hb (by simp [z]))).trans q) (λb hb=>by
  have e:b=C:=by simpa using hb
  subst e
  exact f6)
end
section
variable {X:Cx} {a b e:Expr} {ta tb:TE} {p p2 pos:Pos}
theorem ziF {c:V} {cv:Value} (rc:∀ u,RelV c u->u=cv) :
  CallR X (.builtin "isinstance") (λxs H Q=>∃ x t r,xs=[x,c]/\TyOf X.K H x t/\PySem.W.kitOne X.K t cv=some r/\Q (.bl r) H):=by
 intro pins s σ H xs us Q I r h
 obtain ⟨x,t,k,rfl,ty,hk,q⟩:=h
 obtain ⟨u,w',rfl,rx,ry⟩:=yfj r
 obtain rfl:=rc _ ry
 exact zhq I rx ty hk λtk=>⟨.bl k,H,I.tok _,rfl,q⟩
theorem ygD (n:String):∀ u,RelV (.ty n) u->u=Value.type n:=λ_ r=>r
theorem zhA:OpR X (compareOp .LtE) (λx y H Q=>∃ i j,x = .str i/\y = .str j/\Q (.bl (!decide (j.cps.toList<i.cps.toList))) H):=by
 intro pins s σ H x y v u Q I rx ry h
 obtain ⟨i,j,rfl,rfl,q⟩:=h
 obtain ⟨t,rfl⟩:=rx
 obtain ⟨t',rfl⟩:=ry
 exact PySem.P.le_str (yaN I q rfl)
theorem zeJ:MtR X "str.count" (λx vs H Q=>∃ z y,x = .str z/\vs=[.str y]/\Q (.int ((Builtin.Str.occurrences z y 0 z.length (z.length+1)).length:Nat)) H):=by
 intro pins s σ H x vs v us Q I rx rv h
 obtain ⟨z,y,rfl,rfl,q⟩:=h
 obtain ⟨t,rfl⟩:=rx
 obtain ⟨u,rfl,t',rfl⟩:=ydd rv
 exact call_gives F.slot_str_count (typeIs_str s z t) F.entry_str_count (F.args_str_count_2 _ _) (gives_str_count z y t t') ⟨.int _,H,I.tok _,⟨_,rfl⟩,q⟩
theorem zhB (l:List (Array Nat)):∀ acc:Array Nat,(l.foldl (· ++ ·) acc).toList=acc.toList++(l.map Array.toList).flatten:=by
 induction l with
 | nil=>intro acc;simp
 | cons x r ih=>intro acc;rw [List.foldl_cons,ih];simp
theorem ziG (hc:X.calm=true):CallR X (.builtin "all") (λxs H Q=>∃ (a:Addr) (bs:List Bool),xs=[.ref a]/\SqL X.K H a (bs.map V.bl)/\Q (.bl (bs.all id)) H):=by
 intro pins s σ H xs us Q I r h
 obtain ⟨l,bs,rfl,hq,q⟩:=h
 obtain ⟨u,rfl,rx⟩:=ydd r
 cases rx
 obtain ⟨its,rv,pl,hz⟩:=I.list hq
 have hlt:l<s.heap.objs.size:=by obtain ⟨_,_,e,_⟩:=pl;exact Heap.lt_size e
 have hlen:its.length=bs.length:=by rw [<- rv.length,List.length_map]
 refine call_all_walk (wpAny_pyIter_list pl.isList ?_)
 refine ⟨s.heap.objs.size,[s.heap.objs.size,l],[s.heap.objs.size],its.toArray.size,_,_,λi=>(bs[i]?).getD true,rfl,Walks.list (A:=X.A.in1) (I.ok.hd hc) _ l (Nat.ne_of_lt hlt) its.toArray,
  ⟨⟨_,Heap.get?_push_size _ rfl,rfl,rfl⟩,pl.isList.push _⟩,λi v s' Q' E' hP hQ=>?_,λh' tk hk=>?_⟩
 ·have hP':its[i]? = some v:=by simpa using hP
  have hi:i<its.length:=(List.getElem?_eq_some_iff.mp hP').1
  have hb:(bs.map V.bl)[i]? = some (V.bl (bs[i]'(by omega))):=by rw [List.getElem?_map,List.getElem?_eq_getElem (by omega)];rfl
  obtain ⟨u,hu,ru⟩:=rv.get hb
  rw [hP'] at hu
  cases hu
  cases ru
  have e:(bs[i]?).getD true=bs[i]'(by omega):=by rw [List.getElem?_eq_getElem (by omega)];rfl
  have hQ2:Q' ((bs[i]?).getD true) s' := hQ
  rw [e] at hQ2
  exact wpAny_truthy_bool hQ2
 ·have e:((List.range its.toArray.size).all λi=>(bs[i]?).getD true)=bs.all id:=by
   rw [List.size_toArray,hlen,Bool.eq_iff_iff,List.all_eq_true,List.all_eq_true]
   constructor
   ·intro z c hc'
    obtain ⟨i,hi,rfl⟩:=List.getElem_of_mem hc'
    have:=z i (List.mem_range.mpr hi)
    rw [List.getElem?_eq_getElem hi] at this
    exact this
   ·intro z i hi
    have hi' := List.mem_range.mp hi
    rw [List.getElem?_eq_getElem hi']
    exact z _ (List.getElem_mem hi')
  rw [e]
  refine ⟨.bl _,H,I.kept (t' := tk) λb o q=>?_,rfl,q⟩
  exact hk b o (λhm=>by rw [List.mem_singleton.mp hm] at q;exact Nat.lt_irrefl _ (Heap.lt_size q)) (Heap.get?_push_of_some _ q)
end
section
variable {X:Cx}
theorem ziH:OpR X (binaryOp .FloorDiv) (rI (λ_ j=>0<j/\j<2 ^ 200) λi j=>.int (i / j)):=opI λi j _ _ _ _ _ hc q=>by
 obtain ⟨h1,h2⟩:=hc
 refine floordiv_int (by lia) (by rw [Int.fdiv_eq_ediv_of_nonneg i (by lia)];exact q) (.inl (PyProof.noPylong_of_log2 ?_))
 have h3:j.natAbs<2 ^ 200:=by lia
 have h4:j.natAbs.log2<200:=(Nat.log2_lt (by lia)).mpr h3
 lia
theorem ziI:OpR X (binaryOp .Mult) (rI IntMulOk λi j=>.int (i*j)):=opI λ_ _ _ _ _ _ _ hc q=>mul_int q hc
end
theorem yf4:bootBuiltins "int" = some (.type "int"):=by decide +kernel
theorem zjI:bootBuiltins "bool" = some (.type "bool"):=by decide +kernel
theorem yf5:bootBuiltins "str" = some (.type "str"):=by decide +kernel
open Sem (wp)
def DkH (h h':Heap):Prop:=∀ b o,h.get? b=some o->∃ o',h'.get? b=some o'/\o'.dict=o.dict
theorem DkH.refl (h:Heap):DkH h h:=λ_ o e=>⟨o,e,rfl⟩
def yaU {α:Type} (m:Sem α):Prop:=∀ (M:Model) (Γ:PySem.Ctx) (Q:α->Pos->Shared->Prop) (E:Value->Pos->Shared->Prop) (p:Pos) (s:Shared) (h0:Heap),DkH h0 s.heap->wp M Γ m Q E p s->wp M Γ m (λa p' s' => Q a p' s'/\DkH h0 s'.heap) E p s
section
variable {α β:Type}
theorem zal {m:Sem α} {f:α->Sem β} (h:yaU m) (g:∀ a,yaU (f a)):yaU (m >>= f):=λM Γ Q E p s h0 d q=>by
 rw [Sem.wp_bind'] at q ⊢
 exact Sem.wp_mono M Γ m (λa p' s' z=>g a M Γ _ _ p' s' h0 z.2 z.1) (λ_ _ _ x=>x) p s (h M Γ _ _ p s h0 d q)
theorem zap (a:α):yaU (pure a:Sem α):=λM Γ Q E p s h0 d q=>by
 have q':Q a p s:=q
 exact (show wp M Γ (Sem.pure a) _ E p s by rw [wp];exact ⟨q',d⟩)
theorem zaK (w:String):yaU (Sem.unsupported w:Sem α):=λM Γ Q E p s h0 d q=>by rw [wp] at q;exact q.elim
theorem zjJ {a:Addr} {pt:Option Value} {k:Obj->Sem α} (h:∀ o,yaU (k o)):yaU (Sem.load a pt k):=λM Γ Q E p s h0 d q=>by
 rw [wp] at q ⊢
 obtain ⟨o,h1,h2⟩:=q
 exact ⟨o,h1,h o M Γ _ _ p _ h0 d h2⟩
theorem ziJ {k:List (Code×Pos)->Sem α} (h:∀ o,yaU (k o)):yaU (Sem.stack k):=λM Γ Q E p s h0 d q=>by
 rw [wp] at q ⊢
 exact h _ M Γ _ _ p _ h0 d q
theorem ziK {o:Obj} {k:Addr->Sem α} (h:∀ o,yaU (k o)):yaU (Sem.alloc o k):=λM Γ Q E p s h0 d q=>by
 rw [wp] at q ⊢
 exact h _ M Γ _ _ p { s with heap:=s.heap.push o } h0 (λb o' e=>by
  obtain ⟨o2,e2,e3⟩:=d b o' e
  exact ⟨o2,Heap.get?_push_of_some _ e2,e3⟩) q
theorem zhC {a:Addr} {pt:Option Value} {f:Obj->Obj} {k:Unit->Sem α} (hf:∀ o,(f o).dict=o.dict/\(o.isFreed=false->(f o).isFreed=false)) (h:∀ o,yaU (k o)):yaU (Sem.update a pt f k):=λM Γ Q E p s h0 d q=>by
 rw [wp] at q ⊢
 refine ⟨q.1,h _ M Γ _ _ p { s with heap:=s.heap.update a f } h0 (λb o' e=>?_) q.2⟩
 obtain ⟨o2,e2,e3⟩:=d b o' e
 by_cases hb:b=a
 ·subst hb
  exact ⟨f o2,Heap.get?_update_self f e2 ((hf o2).2 (Heap.get?_some_iff.mp e2).2),(hf o2).1.trans e3⟩
 ·exact ⟨o2,(Heap.get?_update_ne _ _ _ _ hb).trans e2,e3⟩
end
theorem zcM (a:Addr):yaU (load a):=zjJ λo=>zap o
theorem yf6 {a:Addr} {f:Obj->Obj} (hf:∀ o,(f o).dict=o.dict/\(o.isFreed=false->(f o).isFreed=false)):yaU (update a f):=zhC hf λo=>zap o
theorem zhD (v:Value):yaU (fieldsOf v):=by
 unfold fieldsOf
 cases v<;>first | exact zaK _ | skip
 refine zal (zcM _) λo=>?_
 cases o.data<;>first | exact zap _ | exact zaK _
theorem zbL (v:Value) (i:Nat):yaU (field v i):=by
 unfold field
 refine zal (zhD v) λo=>?_
 cases o[i]? <;> first | exact zap _ | exact zaK _
theorem zc9 (g:Array Value->Array Value) (o:Obj):(Obj.mapFields g o).dict=o.dict/\(o.isFreed=false->(Obj.mapFields g o).isFreed=false):=by
 obtain ⟨c,d,dt,sl⟩:=o
 cases dt<;>exact ⟨rfl,λh=>h⟩
theorem za3 (v:Value) (i:Nat) (x:Value):yaU (setField v i x):=by
 unfold setField
 cases v<;>first | exact zaK _ | skip
 unfold updateField
 refine zal (zcM _) λo=>?_
 cases o.data<;>first | exact zaK _ | skip
 dsimp only
 split
 ·exact yf6 (zc9 _)
 ·exact zaK _
theorem zhE (e:Value) (fr:Option Addr):yaU (setFlight e fr):=by
 unfold setFlight
 refine zal (zbL e 1) λtb=>?_
 split
 ·exact za3 _ _ _
 ·exact zap _
theorem zhF (env:Env) (outer:List Env):yaU (behindIsImport env outer):=by
 unfold behindIsImport
 split
 ·exact zap _
 ·split
  ·exact zap _
  ·exact zal (zbL _ _) λ_=>zap _
theorem zb6:yaU stack:=ziJ λo=>zap o
theorem zhG:yaU underTheClaimsCaller:=by
 unfold underTheClaimsCaller
 exact zal zb6 λ_=>zap _
theorem zjK (env:Env) (b:Bool) (l:List Env):yaU (keptBack env b l):=by
 unfold keptBack
 cases l with
 | nil =>
  dsimp only
  split
  ·exact zap _
  ·exact zal zhG λ_=>zap _
 | cons=>exact zap _
theorem zeK:∀ l:List Env,yaU (readyFrames l)
 | []=>zap _
 | env::outer=>by
  unfold readyFrames
  cases env.frame with
  | none=>exact zaK _
  | some f =>
   refine zal (zcM f) λo=>?_
   split
   ·exact zap _
   ·refine zal (zhF _ _) λb=>zal (zjK _ _ _) λv=>zal (yf6 λo=>⟨rfl,λh=>by obtain ⟨c,d,dt,sl⟩:=o;cases dt<;>exact h⟩) λ_=>zeK outer
theorem zda (env:Env):yaU (PySem.frameOf env):=by
 unfold PySem.frameOf frameEnvs
 refine zal (zal zb6 λ_=>zap _) λl=>zal ?_ λr=>?_
 ·generalize l.dropWhile _=m
  unfold frameObject
  cases m with
  | nil=>exact zap _
  | cons e r=>exact zal (zeK _) λ_=>zap _
 ·cases r with
  | none=>exact zaK _
  | some v=>exact zap _
theorem zeL (f:Addr) (b:Bool):yaU (entryPlaceOf f b):=by
 unfold entryPlaceOf
 refine zal zb6 λl=>?_
 split
 ·exact zap _
 ·exact zap _
theorem zeM (a b c d e:Value) (l:List Value):yaU (EntryCells.newEntry a b c d e l):=by
 unfold EntryCells.newEntry newFields newObj
 dsimp only
 have k:∀ d,yaU (newObjAsIs (.type "traceback") (.fields d)):=λd=>by
  unfold newObjAsIs
  exact zal (ziK λo=>zap o) λ_=>zap _
 generalize ([a,b,c,d,e]++if l.isEmpty=true then List.replicate 6 Value.none else l).toArray=arr
 split
 ·exact zal (zaK _) λ_=>k _
 ·exact k _
theorem zjL (e:Value) (env:Env):yaU (noteFrame e env):=by
 unfold noteFrame
 cases env.frame with
 | none=>exact zaK _
 | some f =>
  refine zal (zbL e 1) λh=>?_
  dsimp only
  split
  ·refine zal (zbL h 3) λx=>?_
   split
   ·exact zap _
   ·exact zal (za3 _ _ _) λ_=>zal (zda env) λ_=>zal (zeL _ _) λ_=>zal (zeM _ _ _ _ _ _) λ_=>za3 _ _ _
  ·exact zal (zda env) λ_=>zal (zeL _ _) λ_=>zal (zeM _ _ _ _ _ _) λ_=>za3 _ _ _
theorem yf7 {α:Type} {M:Model} {A:Around} {t:Sem α} {Q:α->Shared->Prop} {E:Value->Shared->Prop} {s:Shared} {h0:Heap} (k:yaU t) (d:DkH h0 s.heap) (h:wpAny M A t Q E s):wpAny M A t (λa s' => Q a s'/\DkH h0 s'.heap) E s :=
 λΓ p hΓ=>k M Γ _ _ p s h0 d (h Γ p hΓ)
theorem ObjOk.some {P:Program} {w:World} {H:Hp} {h:Heap} {a:Addr} {o:HO} (x:ObjOk P w H h a o):∃ ob,h.get? a=Option.some ob:=by
 cases o with
 | lst xs=>obtain ⟨_,_,_,_,e⟩:=x;exact ⟨_,e⟩
 | tup xs=>obtain ⟨_,_,_,o,e,_⟩:=x;exact ⟨o,e⟩
 | dK kvs=>obtain ⟨_,_,_,_,o,_,_,e,_⟩:=x;exact ⟨_,e⟩
 | dT xc kvs=>obtain ⟨_,_,_,_,o,_,_,e,_⟩:=x;exact ⟨_,e⟩
 | set S n=>obtain ⟨o,_,_,_,e,_⟩:=x;exact ⟨_,e⟩
 | ins C dx fs=>obtain ⟨_,_,_,e,_⟩:=x;exact ⟨_,e⟩
 | own y=>obtain ⟨_,e⟩:=x;exact ⟨_,e⟩
 | xd fs=>obtain ⟨_,⟨_,_,_,e,_⟩,_⟩:=x;exact ⟨_,e⟩
 | rng lo hi=>obtain ⟨_,_,_,e⟩:=x;exact ⟨_,e⟩
 | frz ob u=>obtain ⟨e,_⟩:=x;exact ⟨_,e⟩
 | tbl ps=>exact ⟨_,(show h.get? a=Option.some _ from x)⟩
 | met f y=>exact ⟨_,(show h.get? a=Option.some _ from x)⟩
 | ext φ=>obtain ⟨_,⟨_,e⟩,_⟩:=x;exact ⟨_,e⟩
def Firm (X:Cx) (pins:List (Addr×Obj)) (H:Hp) (h B:Heap):Prop :=
 ∀ b o,h.get? b=some o->b∉frs X.stack->((∃ u,H b=some u)\/(∃ o',X.s₀.heap.get? b=some o')\/∃ p∈X.pn++pins,p.1=b)->B.get? b=some o
section
variable {X:Cx} {pins:List (Addr×Obj)} {σ:St} {H:Hp} {s:Shared}
theorem Inv.nofr (I:Inv X pins σ H s) {b:Addr} {o:Obj} (e:X.s₀.heap.get? b=some o) (hb:b∉X.fs):b∉frs X.stack:=λz=>by
 rcases List.mem_cons.mp (I.stkSub b z) with q | q
 ·exact Nat.ne_of_lt (Nat.lt_of_lt_of_le (Heap.lt_size e) I.ok.above) q
 ·exact hb q
theorem Inv.nofrT (I:Inv X pins σ H s) {b:Addr} {u:HO} (e:H b=some u):b∉frs X.stack:=λz=>by
 have q:=I.stkFree b z
 rw [q] at e
 cases e
theorem Inv.nofrP (I:Inv X pins σ H s) {p:Addr×Obj} (hp:p∈X.pn++pins):p.1∉frs X.stack:=λz=>by
 obtain ⟨_,_,ne,nf,_⟩:=I.pin p hp
 rcases List.mem_cons.mp (I.stkSub p.1 z) with q | q
 ·exact ne q
 ·exact nf q
theorem Inv.flown {B h':Heap} {t':Nat} (I:Inv X pins σ H s) (hex:X.ex=[]) (F:Firm X pins H s.heap B) (st:B.StaysIn h') (sm:s.heap.UpToSlots h'):Inv X pins σ H { s with heap:=h',toks:=t' }:=by
 have nx:∀ b,b∉X.ex:=λb z=>by rw [hex] at z;cases z
 refine ⟨I.ok,I.os,I.bare,⟨λb o e n hb hx=>?_,λb o e n hb hx=>?_,I.base.free,λb o e hx=>?_,I.base.tups,I.base.frzs,I.base.tbls⟩,?_,λx c e=>?_,I.free,I.freeC,λp hp=>?_,λb u e=>?_,I.len⟩
 ·exact st b o (F b o (I.base.keep b o e n hb hx) (I.nofr e hb) (.inr (.inl ⟨o,e⟩)))
 ·obtain ⟨sl,q⟩:=I.base.slot b o e n hb hx
  obtain ⟨_,o',ho',hd⟩:=I.funs.mem hb
  rw [q] at ho'
  cases ho'
  obtain ⟨sl',q'⟩:=sm b _ q hd
  exact ⟨sl',q'⟩
 ·obtain ⟨o',q⟩:=I.base.there b o e hx
  by_cases hb:b∈X.fs
  ·obtain ⟨_,o'',ho'',hd⟩:=I.funs.mem hb
   rw [q] at ho''
   cases ho''
   obtain ⟨sl',q'⟩:=sm b _ q hd
   exact ⟨_,q'⟩
  ·exact ⟨o',st b o' (F b o' q (I.nofr e hb) (.inr (.inl ⟨o,e⟩)))⟩
 ·obtain ⟨m,hn,hl⟩:=I.loc
  refine ⟨m,sm.ns hn,λi x v e1 e2 e3=>?_⟩
  obtain ⟨u,r,l⟩:=hl i x v e1 e2 e3
  refine ⟨u,r,?_⟩
  rcases l with l | ⟨k,c,e,o,ho,hd⟩
  ·exact .inl l
  ·obtain ⟨sl,q⟩:=sm c o ho λvs z=>by rw [hd] at z;cases z
   exact .inr ⟨k,c,e,_,q,hd⟩
 ·obtain ⟨v,o,ho,hd⟩:=I.cell x c e
  obtain ⟨sl,q⟩:=sm c o ho λvs z=>by rw [hd] at z;cases z
  exact ⟨v,_,q,hd⟩
 ·obtain ⟨e,n,ne,nf,d⟩:=I.pin p hp
  exact ⟨st _ _ (F _ _ e (I.nofrP hp) (.inr (.inr ⟨p,hp,rfl⟩))),n,ne,nf,d⟩
 ·refine (I.hok b u e).stay (λc v hc q=>?_) (λ_ q=>q) λ_ _ q=>q
  rcases hc with z | z
  ·subst z
   exact st _ _ (F _ _ q (I.nofrT e) (.inl ⟨_,e⟩))
  ·exact st _ _ (F _ _ q (I.nofrT z) (.inl ⟨_,z⟩))
end
structure Arr (X:Cx) (pins:List (Addr×Obj)) (σ:St) (H:Hp) (a:Addr) (cls:Value) (dx:Option Addr) (s:Shared):Prop where
 inv:Inv X pins σ H s
 un:H a=none
 new:X.s₀.heap.get? a=none
 nl:a≠X.env.locals
 nc:∀ x c,X.env.cells.lookup x=some c->c≠a
 np:∀ p∈X.pn++pins,p.1≠a
 dic:∃ ob,s.heap.get? a=some ob/\ob.dict=dx
 fly:∃ B a0,Firm X pins H s.heap B/\B.StaysIn s.heap/\B.get? a=none/\s.heap.FunFrames B X.stack /\
  ((∃ oe vs,s.heap.get? a=some oe/\oe.cls=cls/\oe.data = .fields vs/\vs[0]? = some a0/\vs[1]? = some .none)\/s.heap.TracedW B a cls a0)
def CXE (P:Program) (w:World):CXT:=λouter H s E e s' => ∃ (a:Addr) (cls a0:Value) (dx:Option Addr) (H':Hp) (B:Heap),e = .ref a/\s'.os=s.os/\AllBare s'.gens/\Un (frs outer) [] H H' s.heap s'.heap/\HOk P w H' s'.heap /\
 Heap.FlyingW B outer a cls a0 s'.heap/\(∀ b o,s'.heap.get? b=some o->b∉frs outer->((∃ u,H' b=some u)\/∃ o',s.heap.get? b=some o')->B.get? b=some o)/\H' a=none/\s.heap.get? a=none/\(∃ ob,s'.heap.get? a=some ob/\ob.dict=dx)/\E cls dx H'
section
variable {X:Cx} {pins:List (Addr×Obj)} {σ:St} {H:Hp} {s:Shared}
theorem ziL {E:XK} {e:Value} {s':Shared} (I:Inv X pins σ H s) (hex:X.ex=[]) (h:CXE X.prog X.w X.stack H s E e s'):∃ a cls dx H',e = .ref a/\Arr X pins σ H' a cls dx s'/\E cls dx H' := by
 obtain ⟨a,cls,a0,dx,H',B,rfl,os,bare,un,hok,⟨f1,f2,f3,f4⟩,ext,na,ns,dk,q⟩:=h
 have nx:∀ b,b∉X.ex:=λb z=>by rw [hex] at z;cases z
 have none_of:∀ b o,s.heap.get? b=some o->b≠a:=λb o q z=>by rw [z,ns] at q;cases q
 refine ⟨a,cls,dx,H',rfl,⟨I.call' (ch:=[]) os un hok bare (λb z=>absurd z (by simp)),na,?_,λz=>?_,λx c q z=>?_,λp hp z=>?_,dk,B,a0,λb o q nb alt=>?_,f1,f2,f3,.inr f4⟩,q⟩
 ·cases q:X.s₀.heap.get? a with
  | none=>rfl
  | some o =>
   obtain ⟨ob,z⟩:=I.base.there a o q (nx a)
   exact absurd rfl (none_of a ob z)
 ·obtain ⟨m,⟨o,_,_,ho,_⟩,_⟩:=I.loc
  exact none_of _ o ho z.symm
 ·obtain ⟨v,o,ho,_⟩:=I.cell x c q
  exact none_of _ o ho z
 ·exact none_of _ _ (I.pin p hp).1 z
 ·refine ext b o q nb ?_
  rcases alt with ⟨u,q'⟩ | ⟨o',q'⟩ | ⟨p,hp,rfl⟩
  ·exact .inl ⟨u,q'⟩
  ·exact .inr (I.base.there b o' q' (nx b))
  ·exact .inr ⟨_,(I.pin p hp).1⟩
theorem Arr.land0 {a:Addr} {cls:Value} {dx:Option Addr} {Q:Unit->Shared->Prop} {E:Value->Shared->Prop} {M:Model} {A:Around} (R:Arr X pins σ H a cls dx s) (hex:X.ex=[]) (hfr:A.frames=some X.stack) {outer:List Env} (hst:X.stack=X.env::outer) (hf:X.env.frame=some X.env.locals)
  (hQ:∀ h' B a0,Firm X pins H s.heap B->Heap.FlyingW B X.stack a cls a0 h'->s.heap.UpToSlots h'->Inv X pins σ H { s with heap:=h' }->Q () { s with heap:=h' }) :
  wpAny M A (noteFrame (.ref a) X.env) (λ_ s₂=>wpAny M A (setFlight (.ref a) none) Q E s₂) E s:=by
 obtain ⟨B,a0,fm,st,hb,ff,alt⟩:=R.fly
 have after:∀ h4,Heap.HeldW B X.stack a cls a0 X.env.locals h4->s.heap.UpToSlots h4->wpAny M A (setFlight (.ref a) none) Q E { s with heap:=h4 }:=λh4 hh sm=>by
  refine wpAny_landsW (s:={ s with heap:=h4 }) hh λh5 fl sm5=>?_
  have sm':s.heap.UpToSlots h5:=sm.trans sm5
  exact hQ h5 B a0 fm fl sm' (R.inv.flown (t' := s.toks) hex fm fl.1 sm')
 rw [hst] at hfr
 rw [hst] at ff
 rcases alt with ⟨oe,vs,he,hc,hd,h0,h1⟩ | tr
 ·subst hc
  have hsz:1<vs.size:=(Array.getElem?_eq_some_iff.mp h1).1
  unfold noteFrame
  simp only [hf]
  refine wpAny_bind (wpAny_field he hd h1 ?_)
  rw [if_neg (by decide)]
  refine wpAny_entryW hfr ff hf he st hb hd hsz h0 λh4 hN=>?_
  obtain ⟨k1,k2,k3,k4⟩:=hN
  exact after h4 (by rw [hst];exact ⟨k1,hb,k2,k3⟩) k4
 ·exact wpAny_looks_onW hfr hf ⟨st,hb,ff,tr⟩ λh4 hh sm=>after h4 (by rw [hst];exact hh) sm
theorem Arr.land {a:Addr} {cls:Value} {dx:Option Addr} {Q:Unit->Shared->Prop} {E:Value->Shared->Prop} {M:Model} {A:Around} (R:Arr X pins σ H a cls dx s) (hex:X.ex=[]) (hfr:A.frames=some X.stack) {outer:List Env} (hst:X.stack=X.env::outer) (hf:X.env.frame=some X.env.locals)
  (hQ:∀ h' B a0,Firm X pins H s.heap B->Heap.FlyingW B X.stack a cls a0 h'->s.heap.UpToSlots h'->Inv X pins σ H { s with heap:=h' }->(∃ ob,h'.get? a=some ob/\ob.dict=dx)->Q () { s with heap:=h' }) :
  wpAny M A (noteFrame (.ref a) X.env) (λ_ s₂=>wpAny M A (setFlight (.ref a) none) Q E s₂) E s:=by
 refine wpAny_mono (yf7 (zjL _ _) (DkH.refl _) (R.land0 (E:=E) (Q:=λ_ s' => ∃ h' B a0,s'={ s with heap:=h' }/\Firm X pins H s.heap B/\Heap.FlyingW B X.stack a cls a0 h'/\s.heap.UpToSlots h'/\Inv X pins σ H { s with heap:=h' }) hex hfr hst hf λh' B a0 z1 z2 z3 z4=>⟨h',B,a0,rfl,z1,z2,z3,z4⟩)) (λ_ s2 h2=>?_) λ_ _ z=>z
 refine wpAny_mono (yf7 (zhE _ _) h2.2 h2.1) (λ_ s3 h3=>?_) λ_ _ z=>z
 obtain ⟨⟨h',B,a0,rfl,z1,z2,z3,z4⟩,dk⟩:=h3
 obtain ⟨ob,e1,e2⟩:=R.dic
 obtain ⟨ob',e3,e4⟩:=dk a ob e1
 exact hQ h' B a0 z1 z2 z3 z4 ⟨ob',e3,e4.trans e2⟩
theorem zhH {P:Program} {w:World} {K:PySem.W.Frag} {mg:Str->Option Value} {base:Heap} {N:List Str} {qual:Str} {scope:Scope} {f:Addr} {cd:Value} {A:Around} {outer:List Env} {s0:Shared} {H0:Hp} {E:XK} {a:Addr} {cls:Value} {dx:Option Addr}
  (R:Arr (cxOf (CXE P w) P w K mg base N qual scope f cd A outer s0 H0 E) pins σ H a cls dx s) (q:E cls dx H):(cxOf (CXE P w) P w K mg base N qual scope f cd A outer s0 H0 E).xe (.ref a) s:=by
 show wpAny _ _ (leaving _ _) _ _ s
 unfold leaving
 refine wpAny_bind (R.land (E:=λe' s'' => CXE P w outer H0 s0 E e' s'') rfl R.inv.ok.frames rfl rfl λh' B a0 fm fl sm I' dk=>?_)
 have I:=R.inv
 obtain ⟨k1,k2,⟨_,_,k3⟩,k4⟩:=fl
 refine ⟨a,cls,a0,dx,H,B,rfl,I'.os,I'.bare,I'.base,I'.hok,⟨k1,k2,k3,k4⟩,λb o e nb alt=>?_,R.un,R.new,dk,q⟩
 have nstk:b∉frs (cxOf (CXE P w) P w K mg base N qual scope f cd A outer s0 H0 E).stack:=by
  rcases alt with ⟨u,z⟩ | ⟨o',z⟩
  ·exact I.nofrT z
  ·exact I.nofr z nb
 have there:∃ o1,s.heap.get? b=some o1:=by
  rcases alt with ⟨u,z⟩ | ⟨o',z⟩
  ·exact (I.hok b u z).some
  ·exact I.base.there b o' z (λz=>absurd (show b∈([]:List Addr) from z) (by simp))
 obtain ⟨o1,q1⟩:=there
 have z:B.get? b=some o1:=fm b o1 q1 nstk (by
  rcases alt with ⟨u,z⟩ | ⟨o',z⟩
  ·exact .inl ⟨u,z⟩
  ·exact .inr (.inl ⟨o',z⟩))
 have z2:=k1 b o1 z
 rw [show (Heap.get? h' b)=some o from e] at z2
 cases z2
 exact z
end
def yd8 (CX:CXT) (X:Cx) (Ex:St->XK):Prop:=∀ (pins:List (Addr×Obj)) (σ:St) (H:Hp) (s:Shared) (e:Value) (s':Shared),Inv X pins σ H s->CX X.stack H s (Ex σ) e s'->X.xe e s'
section
variable {P:Program} {w:World} {K:PySem.W.Frag} {mg:Str->Option Value} {base:Heap} {N:List Str} {qual:Str} {scope:Scope} {f:Addr} {cd:Value} {A:Around} {outer:List Env} {s0:Shared} {H0:Hp} {E:XK}
theorem zjM:yho (CXE P w) (cxOf (CXE P w) P w K mg base N qual scope f cd A outer s0 H0 E) E:=λpins σ H s e s' I h=>by
 obtain ⟨a,cls,dx,H',rfl,R,q⟩:=ziL (X:=cxOf (CXE P w) P w K mg base N qual scope f cd A outer s0 H0 E) I rfl h
 exact zhH R q
end
section
variable {X:Cx} {x:Str} {C:Addr} {bm:List Value} {B newId initId:String} {np cpos pos:Pos} {e:Expr} {es:List Expr} {t:TA} {Ex:St->XK}
end
section
variable {X:Cx} {CX:CXT} {k:Nat} {f C:Addr} {fd:FuncData} {ps:List Str} {sp:Sp} {dvs:List V} {ds:List Value} {Ex:St->XK} {x m:Str} {p pos apos:Pos} {e o:Expr} {es:List Expr} {ta:TE} {t:TA}
theorem zdt {pins:List (Addr×Obj)} {σ:St} {H:Hp} {s:Shared} {Q:VK} {us:List Value} {vs:List V} (F:FnOk X.prog X.w X.K X.mg X.base CX k f fd ps sp) (hr:Room k X.A) (hb:Binds X.K fd ps ds) (hd:Vals dvs ds) (hx:yd8 CX X Ex)
  (I:Inv X pins σ H s) (r:Vals vs us) (h:sp (vs++dvs) H Q (Ex σ)):wpAny (model X.prog X.w) X.A (call (.ref f) us) (EP X pins σ Q) X.xe s:=by
 have r2:Vals (vs++dvs) (us++ds):=r.append hd
 have hl:(us++ds).length=ps.length:=by rw [<- r2.length];exact F.len _ _ _ _ h
 refine wpAny_call (codeAny_mono (F.run X.A X.stack s H ⟨us,[]⟩ (us++ds) (vs++dvs) Q (Ex σ) hr I.env0 (hb s us I.kIn hl) r2 h) λr s' hq=>?_)
 cases r with
 | error e=>exact hx pins σ H s e s' I hq
 | ok fl =>
  cases fl with
  | ret u=>exact I.after hq
  | next=>exact False.elim hq
  | brk=>exact False.elim hq
  | cont=>exact False.elim hq
def yhD (sp:Sp) (dvs:List V) (Ex:St->XK) (t:TA):TE:=λσ H Q=>t σ H λvs H1=>sp (vs++dvs) H1 Q (Ex σ)
theorem ziM (F:FnOk X.prog X.w X.K X.mg X.base CX k f fd ps sp) (hr:Room k X.A) (hg:Gl X x) (hm:X.mg x=some (.ref f)) (hk:PySem.W.keepIn X.K (.ref f)=true) (hb:Binds X.K fd ps ds) (hd:Vals dvs ds) (hx:yd8 CX X Ex)
  (ha:PA X (e::es) t) (hdb:(x == ("__debug__" : Str))=false:=by decide) (he:starEach (e::es) X.env=(false,eval e X.env)::starEach es X.env:=by rfl) (hpl:(backTo pos (starEach es X.env)).any (·.1)=false:=by rfl) :
  PE X (.Call (.Name x p) (e::es) [] pos) (yhD sp dvs Ex t):=by
 intro pins s σ H Q I h
 refine wpAny_Call_Name_kw (zdq I hg hm ?_ hdb)
 refine PySem.W.callWith_K (h₀:=X.base) I.ok.mod.kin hk (thn (ha pos pins s σ H _ I h) λus s1 ⟨vs,H1,I1,r,q⟩=>⟨I1.kIn,?_⟩) he hpl
 exact zdt F hr hb hd hx I1 r q
def yf8 (C:Addr) (m:Str) (sp:Sp) (dvs:List V) (Ex:St->XK) (ta:TE) (t:TA):TE:=λσ H Q=>ta σ H λx H1=>∃ a dx fs,x = .ref a/\H1 a=some (.ins C dx fs)/\fs.lookup m=none /\
 t σ H1 λvs H2=>sp (x::(vs++dvs)) H2 Q (Ex σ)
theorem ziN {pl:Sem Bool} (he:PE X o ta) (c:Cls X.K C) (hm:Meth X.K C m f) (F:FnOk X.prog X.w X.K X.mg X.base CX k f fd ps sp) (hr:Room k X.A) (hb:Binds X.K fd ps ds) (hd:Vals dvs ds) (hx:yd8 CX X Ex) (ha:PA X (e::es) t)
  (hst:starEach (e::es) X.env=(false,eval e X.env)::starEach es X.env:=by rfl) (hpl:(backTo pos (starEach es X.env)).any (·.1)=false:=by rfl)
  (ht:eval (.Call (.Attribute o m apos) (e::es) [] pos) X.env=(do
   let ov <- eval o X.env
   standAt apos.atName
   let (f,first) <- holding [ov] (getMethod ov m pl)
   callWith pos f first (backTo pos (starEach (e::es) X.env)) (backToKw pos (keywordEach [] X.env))):=by rfl) :
  PE X (.Call (.Attribute o m apos) (e::es) [] pos) (yf8 C m sp dvs Ex ta t):=by
 intro pins s σ H Q I h
 refine PySem.W.methodCall_KW (pl:=pl) (thn (he pins s σ H _ I h) λu s1 Zz=>?_) ht;obtain ⟨x,H1,I1,rx,a,dx,fs,ex,ea,l,q⟩:=Zz
 subst ex
 obtain rfl:u=Value.ref a:=rx
 refine zc6 I1 ea c hm l ?_
 refine PySem.W.callWith_K (first:=[.ref a]) (h₀:=X.base) I.ok.mod.kin hm.kp (thn (ha pos pins s1 σ H1 _ I1 q) λus s2 ⟨vs,H2,I2,r,q2⟩=>⟨I2.kIn,?_⟩) hst hpl
 exact zdt (us:=.ref a::us) (vs:=.ref a::vs) F hr hb hd hx I2 (.cons rfl r) q2
end
def excO (a:Addr) (cls:Value) (dx:Option Addr):HO:=.ext λh=>∃ ob vs,h.get? a=some ob/\ob.cls=cls/\ob.data = .fields vs/\ob.dict=dx
section
variable {X:Cx} {pins pins':List (Addr×Obj)} {σ:St} {H:Hp} {s:Shared} {xe:Value->Shared->Prop}
end
section
variable {X:Cx} {xc n:Str} {C:Addr} {i:Nat} {body suite:List Stmt} {b0:Stmt} {np hpos pos:Pos} {tb:(St->XK)->TS} {th:TS} {outer:List Env}
end
section
variable {P:Program} {w:World} {K:PySem.W.Frag} {mg:Str->Option Value} {base:Heap}
theorem Fun.okE {x qual:Str} {st:Stmt} {f:Addr} {fd:FuncData} {N ps:List Str} {k:Nat} {sp:Sp} (F:Fun K x qual st f fd) (S:FnScope N ps (yaf st)) (len:∀ vs H Q E,sp vs H Q E->vs.length=ps.length)
  (hbody:∀ (cdv:Value) (A:Around) (outer:List Env) (s:Shared) (H:Hp) (vs:List V) (Q:VK) (E:XK),Room k (A.deeper (envOfC qual (yaf st) s.heap.objs.size f cdv))->sp vs H Q E ->
   ∃ t,PSs (cxOf (CXE P w) P w K mg base N qual (yaf st) f cdv A outer s H E) (yb7 st) t/\t { nx:=λ_ H' => Q .non H',rt:=Q } (start N vs) H):FnOk P w K mg base (CXE P w) (k+1) f fd ps sp:=by
 obtain ⟨oc,od,kV,doc,pm,an,cdv,ct,osl,rfl,lk,hcd⟩:=F.ex
 exact yiF lk hcd S len λA outer s H vs Q E hr hsp=>hbody cdv A outer s H vs Q E hr hsp
end
mutual
inductive DaV (K:PySem.W.Frag) (H:Hp):V->PyData->Prop
 | non:DaV K H .non .none
 | bl (b):DaV K H (.bl b) (.bool b)
 | int (i):DaV K H (.int i) (.int i)
 | str (x):DaV K H (.str x) (.str x)
 | lst {a xs ds}:SqL K H a xs->DaVs K H xs ds->DaV K H (.ref a) (.list ds)
 | tup {a xs ds}:SqT K H a xs->DaVs K H xs ds->DaV K H (.ref a) (.tuple ds)
inductive DaVs (K:PySem.W.Frag) (H:Hp):List V->List PyData->Prop
 | nil:DaVs K H [] []
 | cons {x xs d ds}:DaV K H x d->DaVs K H xs ds->DaVs K H (x::xs) (d::ds)
end
section
variable {X:Cx} {pins:List (Addr×Obj)} {σ:St} {H:Hp} {s:Shared}
mutual
theorem DaV.reads (I:Inv X pins σ H s):∀ {x:V} {d:PyData} {u:Value},DaV X.K H x d->RelV x u->∃ as,Reads s.heap u d as
 | _,_,_,.non,r=>by cases r;exact ⟨_,.none⟩
 | _,_,_,.bl b,r=>by cases r;exact ⟨_,.bool b⟩
 | _,_,_,.int i,r=>by obtain ⟨t,rfl⟩:=r;exact ⟨_,.int i t⟩
 | _,_,_,.str x,r=>by obtain ⟨t,rfl⟩:=r;exact ⟨_,.str x t⟩
 | _,_,_,.lst (a:=a) h1 h2,r=>by
  cases r
  obtain ⟨its,rv,⟨o,n,e1,e2,e3⟩,_⟩:=I.list h1
  obtain ⟨as,q⟩:=DaVs.reads I h2 rv
  exact ⟨_,.list (vs:=its.toArray) (n:=n) e1 (by first | exact e2.1 | exact e2) (by first | exact e2.2.2 | exact e2.2 | exact e3 | exact e3.2) (by simpa using q)⟩
 | _,_,_,.tup (a:=a) h1 h2,r=>by
  cases r
  obtain ⟨its,rv,⟨o,e1,e2,n,e3⟩,_⟩:=I.tuple h1
  obtain ⟨as,q⟩:=DaVs.reads I h2 rv
  exact ⟨_,.tuple (vs:=its.toArray) (n:=n) e1 e2 e3 (by simpa using q)⟩
theorem DaVs.reads (I:Inv X pins σ H s):∀ {xs:List V} {ds:List PyData} {us:List Value},DaVs X.K H xs ds->Vals xs us->∃ as,ReadsAll s.heap us ds as
 | _,_,_,.nil,r=>by cases r;exact ⟨_,.nil⟩
 | _,_,_,.cons h1 h2,r=>by
  cases r with
  | cons r1 r2 =>
   obtain ⟨as,q1⟩:=DaV.reads I h1 r1
   obtain ⟨bs,q2⟩:=DaVs.reads I h2 r2
   exact ⟨_,.cons q1 q2⟩
end
def rEqD (K:PySem.W.Frag):R2:=λx y H Q=>∃ d e,DaV K H x d/\DaV K H y e/\d.canLay0=true/\e.canLay0=true/\d.depth<=60/\Q (.bl (PyData.eqv d e)) H
def rNeD (K:PySem.W.Frag):R2:=λx y H Q=>∃ d e,DaV K H x d/\DaV K H y e/\d.canLay0=true/\e.canLay0=true/\d.depth<=60/\Q (.bl (!PyData.eqv d e)) H
theorem yf9 (hu:X.A.units+64<cLine):OpR X (compareOp .Eq) (rEqD X.K):=by
 intro pins s σ H x y v u Q I rx ry h
 obtain ⟨d,e,h1,h2,c1,c2,dp,q⟩:=h
 obtain ⟨as,r1⟩:=h1.reads I rx
 obtain ⟨bs,r2⟩:=h2.reads I ry
 exact SeqAt.compareEq_reads r1 r2 c1 c2 (by have:=Nat.min_le_left d.depth e.depth;lia) ⟨.bl _,H,I,rfl,q⟩
theorem yga (hu:X.A.units+64<cLine):OpR X (compareOp .NotEq) (rNeD X.K):=by
 intro pins s σ H x y v u Q I rx ry h
 obtain ⟨d,e,h1,h2,c1,c2,dp,q⟩:=h
 obtain ⟨as,r1⟩:=h1.reads I rx
 obtain ⟨bs,r2⟩:=h2.reads I ry
 exact SeqAt.compareNe_reads r1 r2 c1 c2 (by have:=Nat.min_le_left d.depth e.depth;lia) ⟨.bl _,H,I,rfl,q⟩
end
theorem hu64 {A:Around} {k:Nat} (hr:Room k A):A.units+64<cLine:=by
 have:=hr.un
 lia
def yiO (K:PySem.W.Frag):R2:=λx y H Q=>∃ l b xs zs,x = .ref l/\y = .ref b/\SqL K H l xs/\SqL K H b zs/\xs.length+zs.length<=sizeLine/\∀ p,H p=none->Q (.ref p) (upd H p (.lst (xs++zs)))
theorem zjN {X:Cx}:OpR X (binaryOp .Add) (yiO X.K):=by
 intro pins s σ H x y v u Q I rx ry h
 obtain ⟨l,b,xs,zs,rfl,rfl,hH,hB,hz,q⟩:=h
 cases rx
 cases ry
 obtain ⟨its,r,⟨o,n,e1,e2,e3,e4⟩,z⟩:=I.list hH
 obtain ⟨its2,r2,⟨o2,n2,g1,g2,g3,g4⟩,z2⟩:=I.list hB
 obtain ⟨oc,od,oda,osl⟩:=o
 obtain ⟨oc2,od2,oda2,osl2⟩:=o2
 dsimp only at e2 e3 e4 g2 g3 g4
 subst e2 e3 e4 g2 g3 g4
 have l1:=r.length
 have l2:=r2.length
 refine concat_meets ⟨_,e1,rfl⟩ ⟨_,g1,rfl⟩ noFill_list_add seq_list_add PySem.F.slot_list_add PySem.F.entry_list_add (PySem.F.args_list_add_2 _ _) (list_addW l b its.toArray its2.toArray n n2 none none osl osl2 (by rw [List.size_toArray,List.size_toArray];omega)) ⟨e1,g1,?_⟩
 have ea:its.toArray++its2.toArray=(its++its2).toArray:=by simp
 rw [ea]
 exact ⟨.ref s.heap.objs.size,_,I.lnew (t' := s.toks) (r.append r2) (by rw [List.length_append];exact hz),rfl,q _ I.fresh⟩
section
variable {X:Cx} {pins:List (Addr×Obj)} {σ:St} {H:Hp} {s:Shared}
open Classical in
def isD (h:Heap) (d:PyData) (v:Value):Bool:=if q:∃ e as,e.canLay0=true/\Reads h v e as then PyData.eqv q.choose d else false
theorem isD_of {h:Heap} {d e:PyData} {v:Value} {as:List Addr} (c:e.canLay0=true) (r:Reads h v e as):isD h d v=PyData.eqv e d:=by
 have q:∃ e as,e.canLay0=true/\Reads h v e as:=⟨e,as,c,r⟩
 unfold isD
 rw [dif_pos q]
 obtain ⟨as',c',r'⟩:=q.choose_spec
 have z:q.choose=e:=by first | exact (Reads.unique _ _ r' r).1 | exact (Reads.unique r' r).1 | exact Reads.unique _ _ _ _ _ c' r' r | exact PySem.SeqAt.Reads.unique _ _ _ _ _ c' r' r | exact PySem.Reads.unique _ _ _ _ _ c' r' r
 rw [z]
theorem zfV (I:Inv X pins σ H s):∀ {xs:List V} {ds:List PyData} {us:List Value},DaVs X.K H xs ds->Vals xs us->us.length=ds.length/\∀ (j:Nat) u d,us[j]? = some u->ds[j]? = some d->∃ as,Reads s.heap u d as
 | _,_,_,.nil,r=>by cases r;exact ⟨rfl,λj u d e=>by cases e⟩
 | _,_,_,.cons h1 h2,r=>by
  cases r with
  | cons r1 r2 =>
   obtain ⟨l,q⟩:=zfV I h2 r2
   refine ⟨by rw [List.length_cons,List.length_cons,l],λj u d e1 e2=>?_⟩
   cases j with
   | zero=>cases e1;cases e2;exact h1.reads I r1
   | succ j=>exact q j u d e1 e2
theorem zfW {h:Heap} {d:PyData}:∀ {us:List Value} {ds:List PyData},us.length=ds.length->(∀ (j:Nat) u e,us[j]? = some u->ds[j]? = some e->isD h d u=PyData.eqv e d)->us.any (isD h d)=ds.any λe=>PyData.eqv e d
 | [],[],_,_=>rfl
 | u::us,e::ds,hl,hh=>by
  rw [List.any_cons,List.any_cons,hh 0 u e rfl rfl,zfW (us:=us) (ds:=ds) (Nat.succ.inj hl) λj u' e' a b=>hh (j+1) u' e' a b]
end
theorem zfX:∀ {xs:List Str} {us:List Value},Vals (xs.map V.str) us->∃ l:List (Str×Tok),us=strValues l/\l.map (·.1)=xs
 | [],_,r=>by cases r;exact ⟨[],rfl,rfl⟩
 | x::xs,_,r=>by
  cases r with
  | cons r1 r2 =>
   obtain ⟨t,rfl⟩:=r1
   obtain ⟨l,e1,e2⟩:=zfX r2
   exact ⟨(x,t)::l,by rw [e1];rfl,by rw [List.map_cons,e2]⟩
theorem zgQ:∀ (xs:List Str),(Builtin.Str.glued Str.empty xs).cps.toList=(xs.map λx=>x.cps.toList).flatten:=by
 have all:∀ (xs:List Str) (acc:Array Nat),(xs.foldl (λacc p=>acc++Str.empty.cps++p.cps) acc).toList=acc.toList++(xs.map λx=>x.cps.toList).flatten:=by
  intro xs
  induction xs with
  | nil=>intro acc;simp
  | cons x r ih =>
   intro acc
   rw [List.foldl_cons,ih]
   have e:(Str.empty.cps) = #[]:=rfl
   simp [e]
 intro xs
 unfold Builtin.Str.glued
 cases xs with
 | nil=>rfl
 | cons x r=>simp only [List.drop_succ_cons,List.drop_zero,List.headD_cons];rw [all];simp
theorem zcN:∀ (xs:List Str) (a:Nat),xs.foldl (λn x=>n+x.length+Str.empty.length) a=a+((xs.map λx=>x.cps.toList).flatten).length
 | [],a=>by simp
 | x::r,a=>by
  rw [List.foldl_cons,zcN r]
  have e1:Str.empty.length=0:=rfl
  have e2:x.length=x.cps.toList.length:=by simp [Str.length]
  rw [e1,e2,List.map_cons,List.flatten_cons,List.length_append]
  lia
def yiP (K:PySem.W.Frag):V->List V->Hp->VK->Prop:=λx vs H Q=>∃ (l:Addr) (xs:List Str),x = .str Str.empty/\vs=[.ref l]/\SqL K H l (xs.map V.str)/\((xs.map λx:Str=>x.cps.toList).flatten).length<=1000000/\∀ r:Str,r.cps.toList=(xs.map λx:Str=>x.cps.toList).flatten->Q (.str r) H
theorem zjO {X:Cx}:MtR X "str.join" (yiP X.K):=by
 intro pins s σ H x vs v us Q I rx rv h
 obtain ⟨l,xs,rfl,rfl,hq,hz,q⟩:=h
 obtain ⟨t,rfl⟩:=rx
 obtain ⟨u,rfl,ru⟩:=ydd rv
 cases ru
 obtain ⟨its,r,pl,_⟩:=I.list hq
 obtain ⟨ll,rfl,e2⟩:=zfX r
 have hok:JoinOk Str.empty xs=true:=by
  unfold JoinOk
  rw [Bool.not_eq_true']
  first
   | (rw [List.foldl_toArray,zcN,Nat.zero_add];unfold Builtin.Str.tooLong;exact decide_eq_false (Nat.not_lt.mpr (Nat.le_trans hz (by decide))))
   | (unfold joinFit;rw [List.foldl_toArray,zcN,Nat.zero_add];unfold Builtin.Str.tooLong;exact decide_eq_false (Nat.not_lt.mpr (Nat.le_trans hz (by decide))))
 exact SC.join pl.isList e2 hok λt' k=>⟨.str _,H,I.tok _,⟨_,rfl⟩,q _ (zgQ xs)⟩
section
variable {X:Cx} {tg:Expr}
theorem zcC (ns:List Int):∀ k,k<=ns.length->preSum (λi=>(ns[i]?).getD 0) k=(ns.take k).sum
 | 0,_=>by simp [preSum]
 | k+1,h=>by
  show preSum _ k+(ns[k]?).getD 0=_
  rw [zcC ns k (by lia),List.take_succ,List.sum_append]
  congr 1
  rw [List.getElem?_eq_getElem (by lia)]
  simp
theorem ziO (hc:X.calm=true):CallR X (.builtin "sum") (λxs H Q=>∃ (a:Addr) (ns:List Int),xs=[.ref a]/\SqL X.K H a (ns.map V.int)/\Q (.int ns.sum) H):=by
 intro pins s σ H xs us Q I r h
 obtain ⟨l,bs,rfl,hq,q⟩:=h
 obtain ⟨u,rfl,rx⟩:=ydd r
 cases rx
 obtain ⟨its,rv,pl,hz⟩:=I.list hq
 have hlt:l<s.heap.objs.size:=by obtain ⟨_,_,e,_⟩:=pl;exact Heap.lt_size e
 have hlen:its.length=bs.length:=by rw [<- rv.length,List.length_map]
 refine call_sum_walkAnyS (wpAny_pyIter_list pl.isList ?_)
 refine ⟨s.heap.objs.size,[s.heap.objs.size,l],[s.heap.objs.size],_,its.toArray.size,_,_,λi=>(bs[i]?).getD 0,rfl,(Walks.list (prog:=X.prog) (w:=X.w) (A:=X.A.in1) (I.ok.hd hc) s.heap.objs.size l (Nat.ne_of_lt hlt) its.toArray).toS,
  ⟨⟨_,Heap.get?_push_size _ rfl,rfl,rfl⟩,pl.isList.push _⟩,λb hb=>?_,λi v hP=>?_,λs' t' hm=>?_⟩
 ·rcases List.mem_cons.mp hb with rfl | hb
  ·exact Heap.lt_size (Heap.get?_push_size _ rfl)
  ·obtain rfl:=List.mem_singleton.mp hb
   obtain ⟨_,_,e,_⟩:=pl
   exact Heap.lt_size (Heap.get?_push_of_some _ e)
 ·have hP':its[i]? = some v:=by simpa using hP
  have hi:i<its.length:=(List.getElem?_eq_some_iff.mp hP').1
  have hb:(bs.map V.int)[i]? = some (V.int (bs[i]'(by omega))):=by rw [List.getElem?_map,List.getElem?_eq_getElem (by omega)];rfl
  obtain ⟨u,hu,ru⟩:=rv.get hb
  rw [hP'] at hu
  cases hu
  obtain ⟨t,rfl⟩:=ru
  refine ⟨t,?_⟩
  show Value.int _ t=Value.int ((bs[i]?).getD 0) t
  rw [List.getElem?_eq_getElem (by omega)];rfl
 ·obtain ⟨h',g',d',tk',os'⟩:=s'
  have e1:g'=s.gens:=hm.gens
  have e2:d'=s.drawn:=hm.drawn
  have e3:os'=s.os:=hm.os
  subst e1 e2 e3
  have e:preSum (λi=>(bs[i]?).getD 0) its.toArray.size=bs.sum:=by
   rw [List.size_toArray,hlen,zcC bs _ (Nat.le_refl _),List.take_of_length_le (Nat.le_refl _)]
  rw [e]
  refine ⟨.int _,H,I.kept (t' := tk') λb o q=>?_,⟨_,rfl⟩,q⟩
  exact hm.heap b o (λhb=>by rw [List.mem_singleton.mp hb] at q;exact Nat.lt_irrefl _ (Heap.lt_size q)) (Heap.get?_push_of_some _ q)
def Itr3 (lo c:Int) (n:Nat):It:=⟨λi _=>i<n,λi H x H' => H'=H/\x = .int (lo+i*c),λi _=>n<=i⟩
theorem zfq {P:Program} {w:World} {K:PySem.W.Frag} {tg:Expr} (it:Addr) (lo c:Int) (n:Nat):Turn P w K tg (Itr3 lo c n) [it] it (λi h=>IsRangeIter h it (lo+(i:Nat)*c) ((n:Int)-(i:Nat)) c) where
 mem:=by simp
 obj:=λi h st b hb=>by
  have e:b=it:=by simpa using hb
  subst e
  exact ⟨_,st,λv z=>by
   have z':Data.fields _=Data.cell v:=z
   cases z'⟩
 keep:=λi h h' st k=>k it (by simp) _ st
 item:=by
  intro X hP hw hK hc i pins s σ H E I hf st hg
  subst hP hw hK
  obtain ⟨f0,f1,f2,f3,f4,f5⟩:=hf it (by simp)
  have W:=Walks.range (prog:=X.prog) (w:=X.w) (I.ok.hd hc) it lo c n
  refine W.item i s _ _ hg st λv h' tk hv st' kk=>?_
  obtain ⟨t,rfl⟩:=hv
  have I1:Inv X pins σ H { s with heap:=h',toks:=tk }:=I.turned (λb o hb e=>kk b o (by simpa using hb) e) f0 f1 f3 f4 f5
  exact ⟨_,rfl,yfi (s:={ s with heap:=h',toks:=tk }) (n := "range_iterator") st' rfl rfl (by decide) ⟨.int (lo+i*c),H,I1,⟨t,rfl⟩,⟨rfl,rfl⟩,st',λb hb=>(hf b hb).1⟩⟩
 done:=by
  intro X hP hw hK hc i pins s σ H E I hf st hg
  subst hP hw hK
  obtain ⟨f0,f1,f2,f3,f4,f5⟩:=hf it (by simp)
  exact wpAny_pyNext_range_end (I.ok.hd hc) st (by have:n<=i:=hg;lia) λh' eb=>⟨rfl,I.turned (t' := s.toks) (λb o hb e=>eb b o hb e) f0 f1 f3 f4 f5⟩
 self:=λ_ _ _ _ _ st h=>wpAny_pyIter_rangeiter st h
theorem zhI {a b c:Int} (hc:0<c):Builtin.Range.rangeSize a b c=(((if a<b then (b-a-1) / c+1 else 0:Int).toNat:Nat):Int):=by
 unfold Builtin.Range.rangeSize
 rw [if_pos hc]
 split
 ·have:0<=(b-a-1) / c:=Int.ediv_nonneg (by lia) (by lia)
  lia
 ·rfl
theorem zby {x:Int} (h:x.natAbs<2 ^ 42):Builtin.Range.rangeFitsLong x=true:=by
 have h2:x.natAbs<4398046511104:=h
 simp only [Builtin.Range.rangeFitsLong,Bool.and_eq_true,decide_eq_true_eq]
 lia
theorem zhJ {a b c:Int} (ha:a.natAbs<2 ^ 40) (hb:b.natAbs<2 ^ 40) (hc:0<c):(Builtin.Range.rangeSize a b c).natAbs<2 ^ 42:=by
 have ha2:a.natAbs<1099511627776:=ha
 have hb2:b.natAbs<1099511627776:=hb
 show _<4398046511104
 unfold Builtin.Range.rangeSize
 rw [if_pos hc]
 split
 ·have h1:0<=(b-a-1) / c:=Int.ediv_nonneg (by lia) (by lia)
  have h2:(b-a-1) / c<=b-a-1:=Int.ediv_le_self _ (by lia)
  generalize (b-a-1) / c=d at *
  lia
 ·decide
theorem zgR {a b c:Int} (ha:a.natAbs<2 ^ 40) (hb:b.natAbs<2 ^ 40) (hc:0<c) (hc':c<2 ^ 20):Builtin.Range.small a b c=true:=by
 have l:(2:Nat) ^ 40<2 ^ 42:=by decide
 unfold Builtin.Range.small
 rw [zby (Nat.lt_trans ha l),zby (Nat.lt_trans hb l),zby (x:=c) (by have h2:c<1048576:=hc';show _<4398046511104;lia),zby (zhJ ha hb hc),if_pos hc,zby (x:=b+(c-1)) (by have h2:c<1048576:=hc';have h3:b.natAbs<1099511627776:=hb;show _<4398046511104;lia)]
 simp
def yiQ (ta:TA):TI:=λσ H R=>ta σ H λvs H1=>∃ i j c:Int,vs=[.int i,.int j,.int c]/\(i.natAbs<2 ^ 40/\j.natAbs<2 ^ 40/\0<c/\c<2 ^ 20)/\R (Itr3 i c (if i<j then (j-i-1) / c+1 else 0:Int).toNat) H1
theorem zhK {pins:List (Addr×Obj)} {σ:St} {H:Hp} {s:Shared} {R:It->Hp->Prop} {E:Value->Shared->Prop} {lo hi c:Int} {t u v:Tok} {tk:Nat} (I:Inv X pins σ H s) (h1:lo.natAbs<2 ^ 40) (h2:hi.natAbs<2 ^ 40) (h3:0<c) (h4:c<2 ^ 20)
  (q:R (Itr3 lo c (if lo<hi then (hi-lo-1) / c+1 else 0:Int).toNat) H):wpAny (model X.prog X.w) X.A (pyIter (.ref s.heap.objs.size)) (PIE X pins σ tg R) E { s with heap:=s.heap.push { cls:=.type "range",data:=.fields #[.int lo t,.int hi u,.int c v] },toks:=tk }:=by
 refine wpAny_pyIter_range (IsRange.new ..) (zgR h1 h2 h3 h4) ?_
 have I1:Inv X pins σ H { s with heap:=s.heap.push { cls:=.type "range",data:=.fields #[.int lo t,.int hi u,.int c v] },toks:=tk }:=I.kept λb o e=>Heap.get?_push_of_some _ e
 refine ⟨(s.heap.push { cls:=.type "range",data:=.fields #[.int lo t,.int hi u,.int c v] }).objs.size,[(s.heap.push { cls:=.type "range",data:=.fields #[.int lo t,.int hi u,.int c v] }).objs.size],_,_,H,rfl,
  I1.kept (t' := tk) λb o e=>Heap.get?_push_of_some _ e,zfq _ lo c (if lo<hi then (hi-lo-1) / c+1 else 0:Int).toNat,?_,λb hb=>?_,q⟩
 ·have e1:lo+((0:Nat):Int)*c=lo:=by simp
  have e2:(((if lo<hi then (hi-lo-1) / c+1 else 0:Int).toNat:Nat):Int)-((0:Nat):Int)=Builtin.Range.rangeSize lo hi c:=by rw [zhI h3];omega
  show IsRangeIter _ _ (lo+((0:Nat):Int)*c) ((((if lo<hi then (hi-lo-1) / c+1 else 0:Int).toNat:Nat):Int)-((0:Nat):Int)) c
  rw [e1,e2]
  exact Heap.get?_push_size _ rfl
 ·have e:b=(s.heap.push { cls:=.type "range",data:=.fields #[.int lo t,.int hi u,.int c v] }).objs.size:=by simpa using hb
  subst e
  exact I1.fpOk (Nat.le_refl _) (I1.hok.fresh (Nat.le_refl _))
theorem zhL {a b c:Expr} {ta:TA} {p pos:Pos} (hg:Gl X "range") (hm:X.mg "range" = none) (ha:PA X [a,b,c] ta) (hs:starEach [a,b,c] X.env=[(false,eval a X.env),(false,eval b X.env),(false,eval c X.env)]:=by rfl) (hs2:starEach [b,c] X.env=[(false,eval b X.env),(false,eval c X.env)]:=by rfl) :
  PI X tg (.Call (.Name "range" p) [a,b,c] [] pos) (yiQ ta):=by
 intro pins s σ H R I h
 refine Call_ (yd7 I hg hm boot_range (PyProof.Rows.callWith_type1 (thn (ha pos pins s σ H _ I h) λus s1 Zz=>?_) (by rw [hs,hs2]) (by rw [hs2];rfl)));obtain ⟨vs,H1,I1,r1,q1⟩:=Zz
 obtain ⟨i,j,c,e,⟨q1,q2,q3,q4⟩,q⟩:=q1
 subst e
 cases r1 with
 | cons r rr =>
  cases rr with
  | cons r' rr =>
   cases rr with
   | cons r'' rr =>
    cases rr
    obtain ⟨t,rfl⟩:=r
    obtain ⟨t',rfl⟩:=r'
    obtain ⟨t'',rfl⟩:=r''
    exact call_range_3 (by lia) (zhK I1 q1 q2 q3 q4 q) (.inl (PyProof.noPylong_small (by lia)))
end
open PySem.Builtin PySem.Builtin.Str
section
variable {X:Cx}
def cutS (z:Str) (lo hi:Option Int):Str:=⟨((z.cps.toList.drop (HT.sIx z.cps.toList.length 0 lo)).take (HT.sIx z.cps.toList.length z.cps.toList.length hi-HT.sIx z.cps.toList.length 0 lo)).toArray⟩
theorem zbn (n d:Nat) (i:Int):max 0 (min (if i<0 then i+(n:Int) else i) (n:Int))=((HT.sIx n d (some i):Nat):Int):=by
 show max 0 (min (if i<0 then i+(n:Int) else i) (n:Int))=(((if i<0 then (i+(n:Int)).toNat else min i.toNat n):Nat):Int)
 split<;>lia
theorem zbM {a b:Int} {A B:Nat} (ha:a=A) (hb:b=B):sliceRange a b 1=(List.range (B-A)).map λk=>A+k:=by
 subst ha hb
 unfold sliceRange
 simp only [show (1:Int) > 0 by decide,if_true]
 have:(if (A:Int)<(B:Int) then ((B:Int)-A+1-1) / 1 else 0).toNat=B-A:=by
  split<;>(try simp only [Int.ediv_one])<;>lia
 rw [this]
 apply List.map_congr_left
 intro k _
 lia
theorem ziP (xs:List Nat) (i k:Nat):(List.range k).filterMap (λm=>xs[i+m]?)=(xs.drop i).take k:=by
 induction k generalizing i with
 | zero=>simp
 | succ k ih =>
  rw [List.range_succ_eq_map,List.filterMap_cons,List.filterMap_map]
  have e:((λm=>xs[i+m]?) ∘ Nat.succ)=λm=>xs[(i+1)+m]? := by
   funext m;show xs[i+(m+1)]? = _;congr 1;lia
  rw [e,ih (i+1)]
  cases h:xs[i]? with
  | none =>
   have hl:xs.length<=i:=List.getElem?_eq_none_iff.mp h
   simp only [Nat.add_zero,h]
   rw [List.drop_of_length_le (by lia),List.drop_of_length_le hl];simp
  | some v =>
   have hi:=(List.getElem?_eq_some_iff.mp h).1
   simp only [Nat.add_zero,h]
   rw [List.drop_eq_getElem_cons hi,List.take_succ_cons]
   congr 1
   exact (Option.some.inj ((List.getElem?_eq_getElem hi).symm.trans h)).symm
theorem zgS (n:Nat) (lo hi:Option Int):strSliceIndices lo hi 1 n=(List.range (HT.sIx n n hi-HT.sIx n 0 lo)).map λk=>HT.sIx n 0 lo+k:=by
 cases lo with
 | none =>
  cases hi with
  | none=>exact zbM rfl rfl
  | some j=>exact zbM rfl (zbn n n j)
 | some i =>
  cases hi with
  | none=>exact zbM (zbn n 0 i) rfl
  | some j=>exact zbM (zbn n 0 i) (zbn n n j)
theorem ziQ (z:Str) (lo hi:Option Int):Txt.slice z lo hi=cutS z lo hi:=by
 have hz:z.length=z.cps.toList.length:=by simp [Str.length]
 unfold Txt.slice cutS
 rw [hz,zgS,List.filterMap_map]
 have e:((λx=>z.cps[x]?) ∘ λk=>HT.sIx z.cps.toList.length 0 lo+k)=λm=>z.cps.toList[HT.sIx z.cps.toList.length 0 lo+m]? := by
  funext m;simp
 rw [e,ziP]
 split
 ·rename_i hc
  simp only [beq_self_eq_true,Bool.true_and,beq_iff_eq,List.length_map,List.length_range] at hc
  have h1:HT.sIx z.cps.toList.length z.cps.toList.length hi<=z.cps.toList.length:=HT.sIx_le _ _ (Nat.le_refl _) _
  have h2:HT.sIx z.cps.toList.length 0 lo=0\/z.cps.toList.length=0:=by lia
  rw [hc]
  rcases h2 with h2 | h2
  ·rw [h2,List.drop_zero,List.take_of_length_le (Nat.le_refl _)]
  ·have:z.cps.toList=[]:=List.eq_nil_of_length_eq_zero h2
   have h3:z.cps = #[]:=by simpa using this
   simp [h3]
   cases z;simp_all
 ·rfl
theorem zdb {v:Value} {o:Option Int} (p:IsPart v o):∃ l:Option (Int×Tok),v=partValue l/\l.map (·.1)=o:=by
 cases p with
 | none=>exact ⟨none,rfl,rfl⟩
 | int i t=>exact ⟨some (i,t),rfl,rfl⟩
theorem yhE:SlR X (λx lo hi H Q=>∃ z,x = .str z/\z.length<=sizeLine/\Q (.str (cutS z lo hi)) H):=by
 intro pins s σ H x v vl vu lo hi sl Q I rx hs pl pu h
 obtain ⟨z,rfl,hz,q⟩:=h
 obtain ⟨t,rfl⟩:=rx
 obtain ⟨l,rfl,rfl⟩:=zdb pl
 obtain ⟨u,rfl,rfl⟩:=zdb pu
 refine ⟨"str",_,F.slot_str_getitem.lookup,typeIs_str _ _ _,?_⟩
 refine wpAny_getItem_str_slice (l:=l) (u:=u) (st:=none) hs rfl ?_
 refine post_val_or_str ⟨Nat.le_trans (Txt.slice_le z (l.map (·.1)) (u.map (·.1))) hz,λt' k=>?_⟩
 have e:=ziQ z (l.map (·.1)) (u.map (·.1))
 refine ⟨.str (cutS z (l.map (·.1)) (u.map (·.1))),H,I.tok _,⟨t',?_⟩,q⟩
 rw [<- e];rfl
def revS (z:Str):Str:=⟨z.cps.toList.reverse.toArray⟩
def ygX (r r' r'':R2) (ta tb tc td:TE):TE:=λσ H Q=>ta σ H λx H1=>tb σ H1 λy H2=>r x y H2 λz H3=>∃ k,z = .bl k /\
 (if k=true then tc σ H3 λw' H4=>r' y w' H4 λz2 H5=>∃ k2,z2 = .bl k2/\(if k2=true then td σ H5 λv' H6=>r'' w' v' H6 Q else Q (.bl false) H5) else Q (.bl false) H3)
theorem zhM {a b c d:Expr} {ta tb tc td:TE} {pos:Pos} {op op' op'':CmpOp} {r r' r'':R2} (ho:OpR X (compareOp op) r) (ho':OpR X (compareOp op') r') (ho'':OpR X (compareOp op'') r'') (ha:PE X a ta) (hb:PE X b tb) (hc:PE X c tc) (hd:PE X d td)
  (hm:lastMarks [op,op',op''] [b,c,d]=false:=by with_unfolding_all rfl):PT X (.Compare a [op,op',op''] [b,c,d] pos) (yfM (ygX r r' r'' ta tb tc td)):=by
 intro pins s σ H Q I h
 refine isTrue_chain (thn (ha pins s σ H _ I h) λv s1 ⟨x,H1,I1,r1,q1⟩=>test_link (thn (hb pins s1 σ H1 _ I1 q1) λu s2 ⟨y,H2,I2,r2,q2⟩ =>
  thn (ho pins s2 σ H2 x y v u _ I2 r1 r2 q2) λd s3 ⟨z,H3,I3,r3,k,e,q3⟩=>?_)) hm
 subst e
 cases r3
 refine wpAny_truthy_bool ?_
 cases k with
 | false =>
  obtain ⟨k',e',q'⟩:=q3
  cases e'
  exact ite_ff ⟨H3,I3,q'⟩
 | true =>
  refine ite_tt (test_link (thn (hc pins s3 σ H3 _ I3 q3) λw' s4 ⟨z',H4,I4,r4,q4⟩=>thn (ho' pins s4 σ H4 y z' u w' _ I4 r2 r4 q4) λd' s5 Zz=>?_));obtain ⟨z2,H5,I5,r5,k2,e2,q5⟩:=Zz
  subst e2
  cases r5
  refine wpAny_truthy_bool ?_
  cases k2 with
  | false =>
   obtain ⟨k',e',q'⟩:=q5
   cases e'
   exact ite_ff ⟨H5,I5,q'⟩
  | true =>
   refine ite_tt (test_last (thn (hd pins s5 σ H5 _ I5 q5) λw2 s6 ⟨z3,H6,I6,r6,q6⟩=>thn (ho'' pins s6 σ H6 z' z3 w' w2 _ I6 r4 r6 q6) λd2 s7 Zz=>?_));obtain ⟨z4,H7,I7,r7,k3,e3,q7⟩:=Zz
   subst e3
   cases r7
   exact wpAny_truthy_bool ⟨H7,I7,q7⟩
def repS (z:Str) (n:Nat):Str:=⟨((List.replicate n z.cps.toList).flatten).toArray⟩
theorem zjP {z:Str} {n:Int} (h2:2<=n) (hz:1<=z.length):Txt.mul z n=repS z n.toNat:=by
 unfold Txt.mul repS
 rw [if_neg (by lia),if_neg (by simp;lia)]
 have:=zhB (List.replicate n.toNat z.cps) #[]
 rw [List.map_replicate] at this
 have e:(List.replicate n.toNat z.cps).foldl (· ++ ·) #[]=((List.replicate n.toNat z.cps.toList).flatten).toArray:=by
  apply Array.toList_inj.mp
  rw [this];simp
 rw [e]
end
open PySem.Builtin PySem.Builtin.Str
section
variable {X:Cx}
theorem ziR (z:Str) (n:Int):Txt.mul z n=repS z n.toNat:=by
 by_cases h2:2<=n/\1<=z.length
 ·exact zjP h2.1 h2.2
 ·unfold Txt.mul
  by_cases h1:n<1
  ·rw [if_pos h1,show n.toNat=0 by lia];rfl
  ·rw [if_neg h1,if_pos (by simp;lia)]
   by_cases hz:z.length=0
   ·have e:z.cps.toList=[]:=List.length_eq_zero_iff.mp (by simpa [Str.length] using hz)
    cases z
    simp only [repS,Str.mk.injEq] at *
    rw [e]
    apply Array.toList_inj.mp
    simp [e]
   ·rw [show n.toNat=1 by lia]
    cases z
    simp [repS]
theorem zgT:OpR X (binaryOp .Mult) (λx y H Q=>∃ z n,x = .str z/\y = .int n/\n.natAbs<2 ^ 40/\z.length*n.toNat<=1000000/\Q (.str (repS z n.toNat)) H):=by
 intro pins s σ H x y v u Q I rx ry h
 obtain ⟨z,n,rfl,rfl,hb,hl,q⟩:=h
 obtain ⟨t,rfl⟩:=rx
 obtain ⟨t',rfl⟩:=ry
 have hb2:n.natAbs<1099511627776:=hb
 refine SB.mul ⟨?_,λh1 _=>?_,λ_ _=>?_⟩ λt2 k=>⟨.str (repS z n.toNat),H,I.tok _,⟨t2,by rw [ziR]⟩,q⟩
 ·simp;lia
 ·intro hc
  have n0:(n:Int)=(n.toNat:Int):=by lia
  have h1:n*(z.length:Int)<=1000000:=by
   rw [n0,<- Int.natCast_mul,Nat.mul_comm];exact Int.ofNat_le.mpr hl
  have h3:(2 ^ 63-1:Int) / n<z.length:=hc
  have h4:(2 ^ 63-1:Int)<z.length*n:=Int.lt_mul_of_ediv_lt (by lia) h3
  rw [Int.mul_comm] at h4
  have:(9223372036854775807:Int)<n*z.length:=h4
  lia
 ·exact decide_eq_false (Nat.not_lt.mpr (Nat.le_trans hl (by decide)))
end
section
variable {prog:Program} {w:World} {A:Around} {E:Value->Shared->Prop} {s:Shared}
end
section
variable {X:Cx} {pos:Pos}
end
end L2
namespace Sm
open PySem L2
theorem E6x {α β γ:Type} {p q r:α->β->γ->Prop} {R:Prop} (h:∀ a b c,p a b c->q a b c->r a b c->R):(∃ a b c,p a b c/\q a b c/\r a b c)->R:=λ⟨a,b,c,x,y,z⟩=>h a b c x y z
inductive AV where
 | non | bl (b:Bool) | int (i:Int) | str (x:Str)
 | tup (xs:List AV)
 | fl (xs:List AV)
 | ref (n:Nat)
 | exc (c:Nat)
 deriving Inhabited
inductive AO where
 | lst (xs:List AV)
 | dct (t:Bool) (kvs:List (AV×AV))
 | dcx (kvs:List (AV×AV))
 | ins (c:Nat) (fs:List (Option AV))
abbrev AH:=List AO
abbrev En:=List (Option AV)
inductive Out (α:Type) where
 | ok (a:α) (h:AH)
 | ex (c:Nat) (h:AH)
 | bad
@[simp] def Out.bind {α β:Type} (o:Out α) (f:α->AH->Out β):Out β :=
 match o with
 | .ok a h=>f a h
 | .ex c h=>.ex c h
 | .bad=>.bad
inductive OutS where
 | nx (e:En) (h:AH)
 | rt (v:AV) (h:AH)
 | bk (e:En) (h:AH)
 | ct (e:En) (h:AH)
 | ex (c:Nat) (e:En) (h:AH)
 | bad
abbrev SE:=En->AH->Out AV
abbrev SB:=En->AH->Out Bool
abbrev SL:=En->AH->Out (List AV)
abbrev SS:=En->AH->OutS
abbrev Fn:=List AV->AH->Out AV
@[simp] def Out.go {α:Type} (o:Out α) (e:En) (f:α->AH->OutS):OutS :=
 match o with
 | .ok a h=>f a h
 | .ex c h=>.ex c e h
 | .bad=>.bad
structure Tb where
 K:PySem.W.Frag
 cls:Nat->Option Addr
 exc:Nat->Option Addr
 fields:Nat->List Str
 nd:∀ c,(fields c).Nodup
 few:∀ c,(fields c).length<=500
def KL (K:PySem.W.Frag) (a:Addr) (xs:List V):Prop:=∃ (o:Obj) (its:Array Value) (n:Nat),K.lookup a=some o/\o.cls = .type "list" /\ o.dict=none/\o.data = .seq its n/\its.size<=sizeLine/\Vals xs its.toList
structure Ix where
 refs:List Addr
 priv:List Addr
def Ix.all (ι:Ix):List Addr:=ι.refs++ι.priv
def yiR (c:Nat):Int:=((c / 64:Nat):Int)-1
def XdOk (ι:Ix) (H:Hp) (c:Nat) (dx:Option Addr):Prop:=64<=c->∃ d,dx=some d/\d∉ι.all/\H d=some (.xd [("row",.int (yiR c))])
def ExR (T:Tb) (ι:Ix) (H:Hp) (c:Nat) (C:Addr×Option Addr):Prop:=T.exc c=some C.1/\XdOk ι H c C.2
mutual
inductive RV (T:Tb) (ι:Ix) (H:Hp):AV->V->Prop
 | non:RV T ι H .non .non
 | bl (b:Bool):RV T ι H (.bl b) (.bl b)
 | int (i:Int):RV T ι H (.int i) (.int i)
 | str {x:Str} (n:x.length<=sizeLine) (o:x.cps.all (· < 0x110000)=true):RV T ι H (.str x) (.str x)
 | tup {xs:List AV} {us:List V} {a:Addr} (n:a∉ι.all) (h:H a=some (.tup us)) (r:RVs T ι H xs us):RV T ι H (.tup xs) (.ref a)
 | fl {xs:List AV} {us:List V} {a:Addr} (n:a∉ι.all) (h:Rd H a (.lst us)) (r:RVs T ι H xs us):RV T ι H (.fl xs) (.ref a)
 | kfl {xs:List AV} {us:List V} {a:Addr} (h:KL T.K a us) (r:RVs T ι H xs us):RV T ι H (.fl xs) (.ref a)
 | ref {k:Nat} {a:Addr} (h:ι.refs[k]? = some a):RV T ι H (.ref k) (.ref a)
 | exc {c:Nat} {C:Addr×Option Addr} {a:Addr} (n:a∉ι.all) (h:ExR T ι H c C) (q:H a=some (excO a (.ref C.1) C.2)):RV T ι H (.exc c) (.ref a)
inductive RVs (T:Tb) (ι:Ix) (H:Hp):List AV->List V->Prop
 | nil:RVs T ι H [] []
 | cons {x:AV} {u:V} {xs:List AV} {us:List V} (r:RV T ι H x u) (rs:RVs T ι H xs us):RVs T ι H (x::xs) (u::us)
end
structure Grow (ι:Ix) (H:Hp) (ι':Ix) (H':Hp):Prop where
 pre:∃ n,ι'.refs=ι.refs++n/\∀ a∈n,H a=none
 priv:ι'.priv=ι.priv
 keep:∀ a o,a∉ι.refs->H a=some o->H' a=some o
 live:∀ a∈ι.all,H' a≠none
theorem zeN:∀ {l:List Addr} {i j:Nat} {a:Addr},l.Nodup->l[i]? = some a->l[j]? = some a->i=j
 | [],_,_,_,_,e,_=>by simp at e
 | x::l,0,0,_,_,_,_=>rfl
 | x::l,0,j+1,a,n,e,f=>by
  simp at e f;subst e
  exact absurd (List.mem_of_getElem? f) (List.nodup_cons.mp n).1
 | x::l,i+1,0,a,n,e,f=>by
  simp at e f;subst f
  exact absurd (List.mem_of_getElem? e) (List.nodup_cons.mp n).1
 | x::l,i+1,j+1,a,n,e,f=>by
  simp at e f
  rw [zeN (List.nodup_cons.mp n).2 e f]
theorem Ix.nr {ι:Ix} {a:Addr} (h:a∉ι.all):a∉ι.refs:=λz=>h (List.mem_append_left _ z)
theorem Ix.np {ι:Ix} {a:Addr} (h:a∉ι.all):a∉ι.priv:=λz=>h (List.mem_append_right _ z)
theorem Grow.refl {ι:Ix} {H:Hp} (l:∀ a∈ι.all,H a≠none):Grow ι H ι H:=⟨⟨[],by simp,by simp⟩,rfl,λ_ _ _ e=>e,l⟩
theorem Grow.at {ι ι':Ix} {H H':Hp} (g:Grow ι H ι' H') {k:Nat} {a:Addr} (h:ι.refs[k]? = some a):ι'.refs[k]? = some a:=by
 obtain ⟨n,e,_⟩:=g.pre
 rw [e,List.getElem?_append_left (List.getElem?_eq_some_iff.mp h).1]
 exact h
theorem Grow.outR {ι ι':Ix} {H H':Hp} (g:Grow ι H ι' H') {a:Addr} {o:HO} (n:a∉ι.refs) (e:H a=some o):a∉ι'.refs:=λz=>by
 obtain ⟨m,e',hm⟩:=g.pre
 rw [e'] at z
 rcases List.mem_append.mp z with z | z
 ·exact n z
 ·rw [hm a z] at e;cases e
theorem Grow.out {ι ι':Ix} {H H':Hp} (g:Grow ι H ι' H') {a:Addr} {o:HO} (n:a∉ι.all) (e:H a=some o):a∉ι'.all:=λz=>by
 rcases List.mem_append.mp z with z | z
 ·exact g.outR (Ix.nr n) e z
 ·rw [g.priv] at z;exact Ix.np n z
theorem Grow.trans {ι ι' ι'':Ix} {H H' H'':Hp} (g:Grow ι H ι' H') (k:Grow ι' H' ι'' H''):Grow ι H ι'' H'' := by
 obtain ⟨n,e1,hn⟩:=g.pre
 obtain ⟨m,e2,hm⟩:=k.pre
 refine ⟨⟨n++m,by rw [e2,e1];simp,λa ha=>?_⟩,k.priv.trans g.priv,λa o na e=>k.keep a o (g.outR na e) (g.keep a o na e),λa ha=>k.live a ?_⟩
 ·rcases List.mem_append.mp ha with z | z
  ·exact hn a z
  ·have q:=hm a z
   by_cases hi:a∈ι.refs
   ·exact absurd q (g.live a (List.mem_append_left _ hi))
   ·cases e:H a with
    | none=>rfl
    | some o=>rw [g.keep a o hi e] at q;cases q
 ·rcases List.mem_append.mp ha with z | z
  ·exact List.mem_append_left _ (by rw [e1];exact List.mem_append_left _ z)
  ·exact List.mem_append_right _ (by rw [g.priv];exact z)
structure Ext (ι:Ix) (H:Hp) (ι':Ix) (H':Hp):Prop where
 at_:∀ {k:Nat} {a:Addr},ι.refs[k]? = some a->ι'.refs[k]? = some a
 keep:∀ a o,a∉ι.all->H a=some o->H' a=some o
 out:∀ a o,a∉ι.all->H a=some o->a∉ι'.all
theorem Grow.ext {ι ι':Ix} {H H':Hp} (g:Grow ι H ι' H'):Ext ι H ι' H' := ⟨g.at,λa o n e=>g.keep a o (Ix.nr n) e,λa o n e=>g.out n e⟩
theorem Ext.trans {ι ι' ι'':Ix} {H H' H'':Hp} (g:Ext ι H ι' H') (k:Ext ι' H' ι'' H''):Ext ι H ι'' H'' :=
 ⟨λe=>k.at_ (g.at_ e),λa o n e=>k.keep a o (g.out a o n e) (g.keep a o n e),λa o n e=>k.out a o (g.out a o n e) (g.keep a o n e)⟩
theorem XdOk.ext {ι ι':Ix} {H H':Hp} {c:Nat} {dx:Option Addr} (x:XdOk ι H c dx) (g:Ext ι H ι' H'):XdOk ι' H' c dx:=λz=>by
 obtain ⟨d,e,n,q⟩:=x z
 exact ⟨d,e,g.out _ _ n q,g.keep _ _ n q⟩
theorem zfY {ι ι':Ix} {H H':Hp} (g:Ext ι H ι' H') {a:Addr} {u:HO} (n:a∉ι.all) (r:Rd H a u):Rd H' a u:=by
 rcases r with r | ⟨o,r⟩
 ·exact .inl (g.keep a _ n r)
 ·exact .inr ⟨o,g.keep a _ n r⟩
theorem yhF {ι ι':Ix} {H H':Hp} (g:Ext ι H ι' H') {a:Addr} {u:HO} (n:a∉ι.all) (r:Rd H a u):a∉ι'.all:=by
 rcases r with r | ⟨o,r⟩
 ·exact g.out _ _ n r
 ·exact g.out _ _ n r
mutual
theorem RV.ext {T:Tb} {ι ι':Ix} {H H':Hp} (g:Ext ι H ι' H'):∀ {x:AV} {u:V},RV T ι H x u->RV T ι' H' x u
 | _,_,.non=>.non
 | _,_,.bl b=>.bl b
 | _,_,.int i=>.int i
 | _,_,.str n o=>.str n o
 | _,_,.tup n h r=>.tup (g.out _ _ n h) (g.keep _ _ n h) (RVs.ext g r)
 | _,_,.fl n h r=>.fl (yhF g n h) (zfY g n h) (RVs.ext g r)
 | _,_,.kfl h r=>.kfl h (RVs.ext g r)
 | _,_,.ref h=>.ref (g.at_ h)
 | _,_,.exc n h q=>.exc (g.out _ _ n q) ⟨h.1,h.2.ext g⟩ (g.keep _ _ n q)
theorem RVs.ext {T:Tb} {ι ι':Ix} {H H':Hp} (g:Ext ι H ι' H'):∀ {xs:List AV} {us:List V},RVs T ι H xs us->RVs T ι' H' xs us
 | _,_,.nil=>.nil
 | _,_,.cons r rs=>.cons (RV.ext g r) (RVs.ext g rs)
end
theorem RV.mono {T:Tb} {ι ι':Ix} {H H':Hp} (g:Grow ι H ι' H') {x:AV} {u:V} (r:RV T ι H x u):RV T ι' H' x u:=r.ext g.ext
theorem RVs.mono {T:Tb} {ι ι':Ix} {H H':Hp} (g:Grow ι H ι' H') {xs:List AV} {us:List V} (r:RVs T ι H xs us):RVs T ι' H' xs us:=r.ext g.ext
section
variable {T:Tb} {ι:Ix} {H:Hp}
theorem RVs.length:∀ {xs:List AV} {us:List V},RVs T ι H xs us->xs.length=us.length
 | _,_,.nil=>rfl
 | _,_,.cons _ rs=>by simp [RVs.length rs]
theorem RVs.get:∀ {xs:List AV} {us:List V} {i:Nat} {x:AV},RVs T ι H xs us->xs[i]? = some x->∃ u,us[i]? = some u/\RV T ι H x u
 | _,_,_,_,.nil,e=>by simp at e
 | _,_,0,_,.cons r _,e=>by simp at e;subst e;exact ⟨_,rfl,r⟩
 | _,_,i+1,x,.cons _ t,e=>by
  obtain ⟨u,h1,h2⟩:=RVs.get (i:=i) (x:=x) t (by simpa using e)
  exact ⟨u,by simpa using h1,h2⟩
theorem RVs.append:∀ {xs ys:List AV} {us ws:List V},RVs T ι H xs us->RVs T ι H ys ws->RVs T ι H (xs++ys) (us++ws)
 | _,_,_,_,.nil,s=>s
 | _,_,_,_,.cons r t,s=>.cons r (RVs.append t s)
theorem RVs.set {x:AV} {u:V} (r:RV T ι H x u):∀ {xs:List AV} {us:List V} (i:Nat),RVs T ι H xs us->RVs T ι H (xs.set i x) (us.set i u)
 | _,_,_,.nil=>.nil
 | _,_,0,.cons _ t=>.cons r t
 | _,_,i+1,.cons q t=>.cons q (RVs.set r i t)
theorem RVs.take:∀ {xs:List AV} {us:List V} (n:Nat),RVs T ι H xs us->RVs T ι H (xs.take n) (us.take n)
 | _,_,0,_=>by simpa using RVs.nil
 | _,_,_+1,.nil=>.nil
 | _,_,n+1,.cons r t=>.cons r (RVs.take n t)
theorem RVs.drop:∀ {xs:List AV} {us:List V} (n:Nat),RVs T ι H xs us->RVs T ι H (xs.drop n) (us.drop n)
 | _,_,0,r=>r
 | _,_,_+1,.nil=>.nil
 | _,_,n+1,.cons _ t=>RVs.drop n t
end
def kA:Key->AV
 | .inl i=>.int i
 | .inr x=>.str x
def OR (T:Tb) (ι:Ix) (H:Hp):AO->HO->Prop
 | .lst xs,o=>∃ us,o = .lst us/\RVs T ι H xs us
 | .dct false kvs,o=>∃ kus:List (Key×V),o = .dK kus/\Paired (λ(p:AV×AV) (q:Key×V)=>p.1=kA q.1/\RV T ι H p.2 q.2) kvs kus
 | .dct true kvs,o=>∃ kus:List (List Key×V),o = .dT none kus/\Paired (λ(p:AV×AV) (q:List Key×V)=>p.1 = .tup (q.1.map kA)/\RV T ι H p.2 q.2) kvs kus
 | .dcx kvs,o=>∃ (ads:List Addr) (kus:List (List Key×V)),o = .dT (some ads) kus/\ads.length=kus.length/\Paired (λ(p:AV×AV) (q:Addr×List Key×V)=>p.1 = .tup (q.2.1.map kA)/\RV T ι H p.1 (.ref q.1)/\RV T ι H p.2 q.2.2) kvs (ads.zip kus)
 | .ins c fs,o=>∃ C dx fus,T.cls c=some C/\o = .ins C dx fus/\(fus.map (·.1)).Nodup/\(∀ p∈fus,p.1∈T.fields c)/\fs.length=(T.fields c).length /\
   ∀ (i:Nat) (v:AV),fs[i]? = some (some v)->∃ f u,(T.fields c)[i]? = some f/\fus.lookup f=some u/\RV T ι H v u
theorem OR.mono {T:Tb} {ι ι':Ix} {H H':Hp} (g:Grow ι H ι' H') {o:AO} {u:HO} (h:OR T ι H o u):OR T ι' H' o u:=by
 cases o with
 | lst xs=>obtain ⟨us,e,r⟩:=h;exact ⟨us,e,r.mono g⟩
 | dct t kvs =>
  cases t with
  | false=>obtain ⟨us,e,r⟩:=h;exact ⟨us,e,Paired.mapP r λ_ _ ⟨a,b⟩=>⟨a,b.mono g⟩⟩
  | true=>obtain ⟨us,e,r⟩:=h;exact ⟨us,e,Paired.mapP r λ_ _ ⟨a,b⟩=>⟨a,b.mono g⟩⟩
 | dcx kvs=>obtain ⟨ads,us,e,l,r⟩:=h;exact ⟨ads,us,e,l,Paired.mapP r λ_ _ ⟨a,b,c⟩=>⟨a,b.mono g,c.mono g⟩⟩
 | ins c fs =>
  obtain ⟨C,dx,fus,a,b,n,w,l,r⟩:=h
  refine ⟨C,dx,fus,a,b,n,w,l,λi v e=>?_⟩
  obtain ⟨f,u,e1,e2,q⟩:=r i v e
  exact ⟨f,u,e1,e2,q.mono g⟩
structure Sim (T:Tb) (ι:Ix) (h:AH) (H:Hp):Prop where
 len:ι.refs.length=h.length
 nd:ι.refs.Nodup
 plive:∀ a∈ι.priv,H a≠none
 obj:∀ (i:Nat) (o:AO) (a:Addr),h[i]? = some o->ι.refs[i]? = some a->∃ u,H a=some u/\OR T ι H o u
section
variable {T:Tb} {ι:Ix} {h:AH} {H:Hp}
theorem Sim.live (S:Sim T ι h H):∀ a∈ι.all,H a≠none:=λa ha z=>by
 rcases List.mem_append.mp ha with ha | ha
 ·obtain ⟨i,hi⟩:=List.mem_iff_getElem?.mp ha
  have hl:i<h.length:=by rw [<- S.len];exact (List.getElem?_eq_some_iff.mp hi).1
  obtain ⟨u,e,_⟩:=S.obj i h[i] a (by simp [hl]) hi
  rw [z] at e;cases e
 ·exact S.plive a ha z
theorem Sim.refl (S:Sim T ι h H):Grow ι H ι H:=.refl S.live
theorem Sim.fresh (S:Sim T ι h H) {p:Addr} (n:H p=none):p∉ι.all:=λz=>S.live p z n
theorem Sim.still (S:Sim T ι h H) {H':Hp} (g:Grow ι H ι H') (k:∀ a∈ι.refs,H' a=H a):Sim T ι h H' :=
 ⟨S.len,S.nd,λa ha=>g.live a (List.mem_append_right _ ha),λi o a e1 e2=>by
  obtain ⟨u,e,r⟩:=S.obj i o a e1 e2
  exact ⟨u,by rw [k a (List.mem_of_getElem? e2)];exact e,r.mono g⟩⟩
theorem Sim.growNew (S:Sim T ι h H) {p:Addr} {o:HO} (n:H p=none):Grow ι H ι (upd H p o) :=
 ⟨⟨[],by simp,by simp⟩,rfl,λa u _ e=>by rw [yaF (zaw e n)];exact e,λa ha=>by
  rw [yaF (show a≠p from λz=>S.fresh n (z▸ha))];exact S.live a ha⟩
theorem Sim.new (S:Sim T ι h H) {p:Addr} {o:HO} (n:H p=none):Sim T ι h (upd H p o) :=
 S.still (S.growNew n) λa ha=>yaF λz=>S.fresh n (z▸List.mem_append_left _ ha)
def Ix.add (ι:Ix) (p:Addr):Ix:=⟨ι.refs++[p],ι.priv⟩
theorem Sim.growAdd (S:Sim T ι h H) {p:Addr} {u:HO} (n:H p=none):Grow ι H (ι.add p) (upd H p u) :=
 ⟨⟨[p],rfl,λa ha=>by have e:a=p:=(by simpa using ha);rw [e];exact n⟩,rfl,(S.growNew n).keep,(S.growNew n).live⟩
theorem Sim.add (S:Sim T ι h H) {p:Addr} {u:HO} {o:AO} (n:H p=none) (r:OR T (ι.add p) (upd H p u) o u):Sim T (ι.add p) (h++[o]) (upd H p u):=by
 refine ⟨by simp [Ix.add,S.len],?_,λa ha=>(S.growNew n).live a (List.mem_append_right _ ha),λi o' a e1 e2=>?_⟩
 ·show (ι.refs++[p]).Nodup
  rw [List.nodup_append]
  exact ⟨S.nd,by simp,λa ha b hb z=>by have e:b=p:=(by simpa using hb);subst e;subst z;exact S.fresh n (List.mem_append_left _ ha)⟩
 ·replace e2:(ι.refs++[p])[i]? = some a:=e2
  by_cases hi:i<h.length
  ·rw [List.getElem?_append_left hi] at e1
   rw [List.getElem?_append_left (by rw [S.len];exact hi)] at e2
   obtain ⟨v,e,q⟩:=S.obj i o' a e1 e2
   exact ⟨v,by rw [yaF (zaw e n)];exact e,q.mono (S.growAdd n)⟩
  ·have e3:i=h.length:=by
    have:=(List.getElem?_eq_some_iff.mp e1).1
    simp at this;lia
   subst e3
   rw [List.getElem?_append_right (Nat.le_refl _)] at e1
   rw [List.getElem?_append_right (by rw [S.len];exact Nat.le_refl _),S.len] at e2
   simp at e1 e2
   subst e1 e2
   exact ⟨u,zax,r⟩
theorem Sim.addAt (S:Sim T ι h H) {p:Addr}:(ι.add p).refs[h.length]? = some p:=by
 show (ι.refs++[p])[h.length]? = some p
 rw [<- S.len];simp
theorem Sim.growSet (S:Sim T ι h H) {i:Nat} {a:Addr} {u:HO} (e:ι.refs[i]? = some a):Grow ι H ι (upd H a u) :=
 ⟨⟨[],by simp,by simp⟩,rfl,λb o nb q=>by rw [yaF (show b≠a from λz=>nb (by rw [z];exact List.mem_of_getElem? e))];exact q,λb hb=>by
  by_cases z:b=a
  ·subst z;rw [zax];simp
  ·rw [yaF z];exact S.live b hb⟩
theorem Sim.set (S:Sim T ι h H) {i:Nat} {a:Addr} {u:HO} {o:AO} (e:ι.refs[i]? = some a) (r:OR T ι (upd H a u) o u):Sim T ι (h.set i o) (upd H a u):=by
 refine ⟨by simp [S.len],S.nd,λb hb=>(S.growSet e).live b (List.mem_append_right _ hb),λj o' b e1 e2=>?_⟩
 by_cases hj:j=i
 ·subst hj
  rw [e] at e2;cases e2
  have hl:j<h.length:=by rw [<- S.len];exact (List.getElem?_eq_some_iff.mp e).1
  rw [List.getElem?_set_self hl] at e1;cases e1
  exact ⟨u,zax,r⟩
 ·rw [List.getElem?_set_ne (Ne.symm hj)] at e1
  obtain ⟨v,q,r'⟩:=S.obj j o' b e1 e2
  have ne:b≠a:=λz=>hj (by
   subst z
   exact zeN S.nd e2 e)
  exact ⟨v,by rw [yaF ne];exact q,r'.mono (S.growSet e)⟩
end
def Ix.hide (ι:Ix) (D:Addr):Ix:=⟨ι.refs,D::ι.priv⟩
theorem Ix.hide_all {ι:Ix} {D a:Addr}:a∉(ι.hide D).all ↔ a∉ι.all/\a≠D:=by
 unfold Ix.all Ix.hide
 simp only [List.mem_append,List.mem_cons]
 constructor
 ·intro h;exact ⟨λz=>h (z.elim .inl λz=>.inr (.inr z)),λz=>h (.inr (.inl z))⟩
 ·rintro ⟨h1,h2⟩ (z | z | z)
  ·exact h1 (.inl z)
  ·exact h2 z
  ·exact h1 (.inr z)
section
variable {T:Tb} {ι:Ix} {H:Hp} {D:Addr}
theorem Ext.hide {o:HO} (hn:H D=none):Ext ι H (ι.hide D) (upd H D o):=⟨λe=>e,λa u n e=>by rw [yaF (zaw e hn)];exact e,λa u n e=>Ix.hide_all.mpr ⟨n,zaw e hn⟩⟩
theorem Ext.poke {o:HO}:Ext (ι.hide D) H (ι.hide D) (upd H D o):=⟨λe=>e,λa u n e=>by rw [yaF (Ix.hide_all.mp n).2];exact e,λa u n e=>n⟩
theorem Ext.show:Ext (ι.hide D) H ι H:=⟨λe=>e,λa u n e=>e,λa u n e=>(Ix.hide_all.mp n).1⟩
theorem OR.ext {ι ι':Ix} {H H':Hp} (g:Ext ι H ι' H') {o:AO} {u:HO} (h:OR T ι H o u):OR T ι' H' o u:=by
 cases o with
 | lst xs=>obtain ⟨us,e,r⟩:=h;exact ⟨us,e,r.ext g⟩
 | dct t kvs =>
  cases t with
  | false=>obtain ⟨us,e,r⟩:=h;exact ⟨us,e,Paired.mapP r λ_ _ ⟨a,b⟩=>⟨a,b.ext g⟩⟩
  | true=>obtain ⟨us,e,r⟩:=h;exact ⟨us,e,Paired.mapP r λ_ _ ⟨a,b⟩=>⟨a,b.ext g⟩⟩
 | dcx kvs=>obtain ⟨ads,us,e,l,r⟩:=h;exact ⟨ads,us,e,l,Paired.mapP r λ_ _ ⟨a,b,c⟩=>⟨a,b.ext g,c.ext g⟩⟩
 | ins c fs =>
  obtain ⟨C,dx,fus,a,b,n,w,l,r⟩:=h
  refine ⟨C,dx,fus,a,b,n,w,l,λi v e=>?_⟩
  obtain ⟨f,u,e1,e2,q⟩:=r i v e
  exact ⟨f,u,e1,e2,q.ext g⟩
theorem Sim.hide {h:AH} {o:HO} (S:Sim T ι h H) (hn:H D=none):Sim T (ι.hide D) h (upd H D o) :=
 ⟨S.len,S.nd,λa ha=>by
  rcases List.mem_cons.mp ha with rfl | ha
  ·rw [zax];simp
  ·rw [yaF (show a≠D from λz=>S.plive a ha (z▸hn))];exact S.plive a ha,λi o' a e1 e2=>by
  obtain ⟨u,e,r⟩:=S.obj i o' a e1 e2
  exact ⟨u,by rw [yaF (zaw e hn)];exact e,r.ext (Ext.hide hn)⟩⟩
theorem Sim.poke {h:AH} {o:HO} (S:Sim T (ι.hide D) h H) (hr:D∉ι.refs):Sim T (ι.hide D) h (upd H D o) :=
 ⟨S.len,S.nd,λa ha=>by
  by_cases z:a=D
  ·subst z;rw [zax];simp
  ·rw [yaF z];exact S.plive a ha,λi o' a e1 e2=>by
  obtain ⟨u,e,r⟩:=S.obj i o' a e1 e2
  have ne:a≠D:=λz=>hr (z▸List.mem_of_getElem? e2)
  exact ⟨u,by rw [yaF ne];exact e,r.ext Ext.poke⟩⟩
theorem Sim.show {h:AH} (S:Sim T (ι.hide D) h H):Sim T ι h H :=
 ⟨S.len,S.nd,λa ha=>S.plive a (List.mem_cons_of_mem _ ha),λi o' a e1 e2=>by
  obtain ⟨u,e,r⟩:=S.obj i o' a e1 e2
  exact ⟨u,e,r.ext Ext.show⟩⟩
end
def ER (T:Tb) (ι:Ix) (H:Hp) (e:En) (σ:St):Prop:=e.length=σ.length/\∀ (i:Nat) (v:AV),e[i]? = some (some v)->∃ u,σ[i]? = some (some u)/\RV T ι H v u
theorem ER.mono {T:Tb} {ι ι':Ix} {H H':Hp} {e:En} {σ:St} (r:ER T ι H e σ) (g:Grow ι H ι' H'):ER T ι' H' e σ :=
 ⟨r.1,λi v q=>let ⟨u,a,b⟩:=r.2 i v q;⟨u,a,b.mono g⟩⟩
theorem ER.ext {T:Tb} {ι ι':Ix} {H H':Hp} {e:En} {σ:St} (r:ER T ι H e σ) (g:Ext ι H ι' H'):ER T ι' H' e σ :=
 ⟨r.1,λi v q=>let ⟨u,a,b⟩:=r.2 i v q;⟨u,a,b.ext g⟩⟩
theorem ER.set {T:Tb} {ι:Ix} {H:Hp} {e:En} {σ:St} (r:ER T ι H e σ) {v:AV} {u:V} (q:RV T ι H v u) (i:Nat):ER T ι H (e.set i (some v)) (σ.set i (some u)):=by
 refine ⟨by simp [r.1],λj w z=>?_⟩
 by_cases hj:j=i
 ·subst hj
  by_cases hl:j<e.length
  ·rw [List.getElem?_set_self hl] at z;cases z
   exact ⟨u,by rw [List.getElem?_set_self (by rw [<- r.1];exact hl)],q⟩
  ·rw [List.getElem?_eq_none (by simpa using hl)] at z;cases z
 ·rw [List.getElem?_set_ne (Ne.symm hj)] at z ⊢
  exact r.2 j w z
def Post {α β:Type} (T:Tb) (ι:Ix) (H:Hp) (E:XK) (R:Ix->Hp->α->β->Prop) (o:Out α) (Q:β->Hp->Prop):Prop :=
 match o with
 | .ok v h' => ∀ ι' H' u,Grow ι H ι' H'->Sim T ι' h' H'->R ι' H' v u->Q u H'
 | .ex c h' => ∀ ι' H' C,Grow ι H ι' H'->Sim T ι' h' H'->ExR T ι' H' c C->E (.ref C.1) C.2 H'
 | .bad=>False
def PostS (T:Tb) (ι:Ix) (H:Hp) (E:St->XK) (o:OutS) (D:Ends):Prop :=
 match o with
 | .nx e h' => ∀ ι' H' σ',Grow ι H ι' H'->Sim T ι' h' H'->ER T ι' H' e σ'->D.nx σ' H'
 | .bk e h' => ∀ ι' H' σ',Grow ι H ι' H'->Sim T ι' h' H'->ER T ι' H' e σ'->D.bk σ' H'
 | .ct e h' => ∀ ι' H' σ',Grow ι H ι' H'->Sim T ι' h' H'->ER T ι' H' e σ'->D.ct σ' H'
 | .rt v h' => ∀ ι' H' u,Grow ι H ι' H'->Sim T ι' h' H'->RV T ι' H' v u->D.rt u H'
 | .ex c e h' => ∀ ι' H' σ' C,Grow ι H ι' H'->Sim T ι' h' H'->ER T ι' H' e σ'->ExR T ι' H' c C->E σ' (.ref C.1) C.2 H'
 | .bad=>False
abbrev REq {α:Type}:Ix->Hp->α->α->Prop:=λ_ _ a b=>a=b
section
variable {T:Tb} {ι ι':Ix} {h:AH} {H H':Hp} {α β γ δ:Type} {E:XK} {R:Ix->Hp->α->β->Prop} {R':Ix->Hp->γ->δ->Prop}
theorem Post.shift {o:Out α} {Q:β->Hp->Prop} (p:Post T ι H E R o Q) (g:Grow ι H ι' H'):Post T ι' H' E R o Q:=by
 cases o with
 | ok v h' => exact λi2 H2 u g2=>p i2 H2 u (g.trans g2)
 | ex c h' => exact λi2 H2 C g2=>p i2 H2 C (g.trans g2)
 | bad=>exact p
theorem Post.bind {o:Out α} {f:α->AH->Out γ} {Q:δ->Hp->Prop} {Q1:β->Hp->Prop} (p:Post T ι H E R' (o.bind f) Q)
  (k:∀ v h' ι' H' u,Grow ι H ι' H'->Sim T ι' h' H'->R ι' H' v u->Post T ι' H' E R' (f v h') Q->Q1 u H'):Post T ι H E R o Q1:=by
 cases o with
 | ok v h' => exact λi2 H2 u g S r=>k v h' i2 H2 u g S r (Post.shift p g)
 | ex c h' => exact p
 | bad=>exact p
theorem Post.now {v:α} {u:β} {Q:β->Hp->Prop} (p:Post T ι H E R (.ok v h) Q) (S:Sim T ι h H) (r:R ι H v u):Q u H:=p ι H u S.refl S r
theorem PostS.shift {E:St->XK} {o:OutS} {D:Ends} (p:PostS T ι H E o D) (g:Grow ι H ι' H'):PostS T ι' H' E o D:=by
 cases o with
 | nx e h' => exact λi2 H2 u g2=>p i2 H2 u (g.trans g2)
 | bk e h' => exact λi2 H2 u g2=>p i2 H2 u (g.trans g2)
 | ct e h' => exact λi2 H2 u g2=>p i2 H2 u (g.trans g2)
 | rt v h' => exact λi2 H2 u g2=>p i2 H2 u (g.trans g2)
 | ex c e h' => exact λi2 H2 u C g2=>p i2 H2 u C (g.trans g2)
 | bad=>exact p
theorem PostS.go {E:St->XK} {o:Out α} {en:En} {σ:St} {f:α->AH->OutS} {D:Ends} {Q1:β->Hp->Prop} (p:PostS T ι H E (o.go en f) D) (er:ER T ι H en σ)
  (k:∀ v h' ι' H' u,Grow ι H ι' H'->Sim T ι' h' H'->R ι' H' v u->PostS T ι' H' E (f v h') D->Q1 u H'):Post T ι H (E σ) R o Q1:=by
 cases o with
 | ok v h' => exact λi2 H2 u g S r=>k v h' i2 H2 u g S r (PostS.shift p g)
 | ex c h' => exact λi2 H2 C g S e=>p i2 H2 σ C g S (er.mono g) e
 | bad=>exact p
end
def tE (T:Tb) (E:St->XK) (a:SE):TE:=λσ H Q=>∃ ι h en,Sim T ι h H/\ER T ι H en σ/\Post T ι H (E σ) (RV T) (a en h) Q
def tT (T:Tb) (E:St->XK) (a:SB):TT:=λσ H Q=>∃ ι h en,Sim T ι h H/\ER T ι H en σ/\Post T ι H (E σ) REq (a en h) Q
def tA (T:Tb) (E:St->XK) (a:SL):TA:=λσ H Q=>∃ ι h en,Sim T ι h H/\ER T ι H en σ/\Post T ι H (E σ) (RVs T) (a en h) Q
def tS (T:Tb) (E:St->XK) (b:SS):TS:=λD σ H=>∃ ι h en,Sim T ι h H/\ER T ι H en σ/\PostS T ι H E (b en h) D
abbrev PEA (T:Tb) (E:St->XK) (X:Cx) (e:Expr) (a:SE):Prop:=PE X e (tE T E a)
abbrev PTA (T:Tb) (E:St->XK) (X:Cx) (e:Expr) (a:SB):Prop:=PT X e (tT T E a)
abbrev PWA (T:Tb) (E:St->XK) (X:Cx) (e:Expr) (a:SB):Prop:=PW X e (tT T E a)
abbrev PAA (T:Tb) (E:St->XK) (X:Cx) (es:List Expr) (a:SL):Prop:=PA X es (tA T E a)
abbrev PSA (T:Tb) (E:St->XK) (X:Cx) (st:Stmt) (b:SS):Prop:=PS X st (tS T E b)
abbrev PSsA (T:Tb) (E:St->XK) (X:Cx) (sts:List Stmt) (b:SS):Prop:=PSs X sts (tS T E b)
theorem yaR {X:Cx} {e:Expr} {t t':TE} (h:PE X e t) (k:∀ σ H Q,t' σ H Q->t σ H Q):PE X e t' := λpins s σ H Q I q=>h pins s σ H Q I (k σ H Q q)
theorem yew {X:Cx} {e:Expr} {t t':TT} (h:PT X e t) (k:∀ σ H Q,t' σ H Q->t σ H Q):PT X e t' := λpins s σ H Q I q=>h pins s σ H Q I (k σ H Q q)
theorem ygb {X:Cx} {e:Expr} {t t':TT} (h:PW X e t) (k:∀ σ H Q,t' σ H Q->t σ H Q):PW X e t' := λw pins s σ H Q I q=>h w pins s σ H Q I (k σ H Q q)
theorem ygc {X:Cx} {e:List Expr} {t t':TA} (h:PA X e t) (k:∀ σ H Q,t' σ H Q->t σ H Q):PA X e t' := λp pins s σ H Q I q=>h p pins s σ H Q I (k σ H Q q)
theorem ycg {X:Cx} {e:Stmt} {t t':TS} (h:PS X e t) (k:∀ D σ H,t' D σ H->t D σ H):PS X e t' := λpins s σ H D I q=>h pins s σ H D I (k D σ H q)
theorem zfZ {X:Cx} {e:List Stmt} {t t':TS} (h:PSs X e t) (k:∀ D σ H,t' D σ H->t D σ H):PSs X e t' := λpins s σ H D I q=>h pins s σ H D I (k D σ H q)
theorem ygd {X:Cx} {st:Stmt} {t:TS} (h:PS X.nox st t):PS X st t:=λpins s σ H D I hw=>by
 refine wpAny_mono (h pins s σ H D (I.wish _) hw) (λf s' q=>SP.unwish q) λ_ _ z=>z.elim
instance:DecidableEq AV:=λ_ _=>Classical.propDecidable _
@[simp] def sVar (i:Nat):SE:=λen h=>match en[i]? with
 | some (some v)=>.ok v h
 | _=>.bad
@[simp] def sLit (v:AV):SE:=λ_ h=>.ok v h
abbrev F1:=AV->AH->Out AV
abbrev F2:=AV->AV->AH->Out AV
@[simp] def sOp1 (f:F1) (a:SE):SE:=λen h=>(a en h).bind f
@[simp] def sOp2 (f:F2) (a b:SE):SE:=λen h=>(a en h).bind λx h1=>(b en h1).bind λy h2=>f x y h2
@[simp] def sNil:SL:=λ_ h=>.ok [] h
@[simp] def yab (a:SE) (r:SL):SL:=λen h=>(a en h).bind λx h1=>(r en h1).bind λxs h2=>.ok (x::xs) h2
@[simp] def yae (F:Fn) (as:SL):SE:=λen h=>(as en h).bind F
@[simp] def sTup (as:SL):SE:=λen h=>(as en h).bind λxs h1=>if xs.length<=1000 then .ok (.tup xs) h1 else .bad
@[simp] def sLst (as:SL):SE:=λen h=>(as en h).bind λxs h1=>if xs.length<=1000 then .ok (.fl xs) h1 else .bad
@[simp] def ybL (as:SL):SE:=λen h=>(as en h).bind λxs h1=>if xs.length<=1000 then .ok (.ref h1.length) (h1++[.lst xs]) else .bad
@[simp] def yeW (t:Bool):SE:=λ_ h=>.ok (.ref h.length) (h++[.dct t []])
@[simp] def yjs (v:AV) (h:AH):Option (List AV):=match v with
 | .tup xs=>some xs
 | .fl xs=>some xs
 | .ref n=>match h[n]? with
  | some (.lst xs)=>some xs
  | _=>none
 | _=>none
@[simp] def ybi (v:AV) (h:AH):Option (List AV):=match v with
 | .fl xs=>some xs
 | .ref n=>match h[n]? with
  | some (.lst xs)=>some xs
  | _=>none
 | _=>none
@[simp] def fAdd:F2:=λx y h=>match x,y with
 | .int i,.int j=>.ok (.int (i+j)) h
 | .str i,.str j=>if i.length+j.length<=sizeLine then .ok (.str (i++j)) h else .bad
 | .tup xs,.tup ys=>if xs≠[]/\xs.length+ys.length<=sizeLine then .ok (.tup (xs++ys)) h else .bad
 | x,y=>match ybi x h,ybi y h with
  | some xs,some ys=>if xs.length+ys.length<=sizeLine then .ok (.fl (xs++ys)) h else .bad
  | _,_=>.bad
@[simp] def fSub:F2:=λx y h=>match x,y with
 | .int i,.int j=>.ok (.int (i-j)) h
 | _,_=>.bad
@[simp] def fMul:F2:=λx y h=>match x,y with
 | .int i,.int j=>if (i.natAbs<2 ^ 64\/j.natAbs<2 ^ 64)\/(i.natAbs<2 ^ 4000/\j.natAbs<2 ^ 4000) then .ok (.int (i*j)) h else .bad
 | _,_=>.bad
@[simp] def fDiv:F2:=λx y h=>match x,y with
 | .int i,.int j=>if 0<j/\j.natAbs<2 ^ 200 then .ok (.int (i / j)) h else .bad
 | _,_=>.bad
@[simp] def fMod:F2:=λx y h=>match x,y with
 | .int i,.int j=>if 0<j then .ok (.int (i % j)) h else .bad
 | _,_=>.bad
@[simp] def fPow:F2:=λx y h=>match x,y with
 | .int i,.int j=>if 0<=j/\j<=1000000/\i.natAbs<2 ^ 64 then .ok (.int (i ^ j.toNat)) h else .bad
 | _,_=>.bad
@[simp] def fNeg:F1:=λx h=>match x with
 | .int i=>.ok (.int (-i)) h
 | _=>.bad
def toDs (f:AV->Option PyData):List AV->Option (List PyData)
 | []=>some []
 | x::xs=>match f x,toDs f xs with
  | some d,some ds=>some (d::ds)
  | _,_=>none
def toD:Nat->AH->AV->Option PyData
 | 0,_,v=>match v with
  | .non=>some .none
  | .bl b=>some (.bool b)
  | .int i=>some (.int i)
  | .str x=>some (.str x)
  | _=>none
 | n+1,h,v=>match v with
  | .non=>some .none
  | .bl b=>some (.bool b)
  | .int i=>some (.int i)
  | .str x=>some (.str x)
  | .tup xs=>(toDs (toD n h) xs).map .tuple
  | .fl xs=>(toDs (toD n h) xs).map .list
  | .ref k=>match h[k]? with
   | some (.lst xs)=>(toDs (toD n h) xs).map .list
   | _=>none
  | .exc _=>none
@[simp] def eqA (x y:AV) (h:AH):Option Bool:=match x,y with
 | .int i,.int j=>some (decide (i=j))
 | .str i,.str j=>some (decide (i=j))
 | .bl i,.bl j=>some (decide (i=j))
 | .non,.non=>some true
 | x,y=>match toD 8 h x,toD 8 h y with
  | some d,some e=>some (PyData.eqv d e)
  | _,_=>none
@[simp] def fEq:F2:=λx y h=>match eqA x y h with
 | some b=>.ok (.bl b) h
 | none=>.bad
@[simp] def fNe:F2:=λx y h=>match eqA x y h with
 | some b=>.ok (.bl (!b)) h
 | none=>.bad
@[simp] def fLt:F2:=λx y h=>match x,y with
 | .int i,.int j=>.ok (.bl (decide (i<j))) h
 | .str i,.str j=>.ok (.bl (decide (i.cps.toList<j.cps.toList))) h
 | _,_=>.bad
@[simp] def fLe:F2:=λx y h=>match x,y with
 | .int i,.int j=>.ok (.bl (decide (i<=j))) h
 | .str i,.str j=>.ok (.bl (!decide (j.cps.toList<i.cps.toList))) h
 | _,_=>.bad
@[simp] def fGt:F2:=λx y h=>match x,y with
 | .int i,.int j=>.ok (.bl (decide (j<i))) h
 | _,_=>.bad
@[simp] def fGe:F2:=λx y h=>match x,y with
 | .int i,.int j=>.ok (.bl (decide (j<=i))) h
 | _,_=>.bad
@[simp] def fIsN:F2:=λx y h=>match y with
 | .non=>.ok (.bl (decide (x = .non))) h
 | _=>.bad
@[simp] def truA (v:AV) (h:AH):Option Bool:=match v with
 | .non=>some false
 | .bl b=>some b
 | .int i=>some (i != 0)
 | .str y=>some ((y.length:Int) != 0)
 | .tup xs=>some (!xs.isEmpty)
 | .fl xs=>some (!xs.isEmpty)
 | .ref n=>match h[n]? with
  | some (.lst xs)=>some (!xs.isEmpty)
  | some (.dct false kvs)=>some (!kvs.isEmpty)
  | _=>none
 | _=>none
@[simp] def ycD (a:SE):SB:=λen h=>(a en h).bind λv h1=>match truA v h1 with
 | some b=>.ok b h1
 | none=>.bad
@[simp] def yam (a:SE):SB:=λen h=>(a en h).bind λv h1=>match v with
 | .bl b=>.ok b h1
 | _=>.bad
@[simp] def sAnd (a b:SB):SB:=λen h=>(a en h).bind λx h1=>if x=true then b en h1 else .ok false h1
@[simp] def sOr (a b:SB):SB:=λen h=>(a en h).bind λx h1=>if x=true then .ok true h1 else b en h1
@[simp] def sNot (a:SB):SB:=λen h=>(a en h).bind λx h1=>.ok (!x) h1
@[simp] def yeX (a b:SE):SE:=λen h=>(a en h).bind λv h1=>match v with
 | .bl k=>if k=true then b en h1 else .ok (.bl false) h1
 | _=>.bad
@[simp] def sOrV (a b:SE):SE:=λen h=>(a en h).bind λv h1=>match v with
 | .bl k=>if k=true then .ok (.bl true) h1 else b en h1
 | _=>.bad
@[simp] def ygE (a:SE):SE:=λen h=>(a en h).bind λv h1=>match v with
 | .bl b=>.ok (.bl (!b)) h1
 | _=>.bad
@[simp] def ybO (f f':F2) (a b c:SE):SE:=λen h=>(a en h).bind λx h1=>(b en h1).bind λy h2=>(f x y h2).bind λz h3=>match z with
 | .bl k=>if k=true then (c en h3).bind λw h4=>f' y w h4 else .ok (.bl false) h3
 | _=>.bad
@[simp] def yaw:SS:=λen h=>.nx en h
@[simp] def sSeq (a b:SS):SS:=λen h=>match a en h with
 | .nx e h' => b e h'
 | o=>o
@[simp] def ygF:SS:=λen h=>.ct en h
@[simp] def yax (a:SE):SS:=λen h=>(a en h).go en λ_ h' => .nx en h'
@[simp] def sRet (a:SE):SS:=λen h=>(a en h).go en λv h' => .rt v h'
@[simp] def sIf (c:SB) (a b:SS):SS:=λen h=>(c en h).go en λx h' => if x=true then a en h' else b en h'
@[simp] def sSet (i:Nat) (a:SE):SS:=λen h=>(a en h).go en λv h' => .nx (en.set i (some v)) h'
def ybX (c:SB) (b:SS):Nat->SS
 | 0=>λ_ _=>.bad
 | n+1=>λen h=>match c en h with
  | .ok true h1=>(match b en h1 with
   | .nx e2 h2=>ybX c b n e2 h2
   | .ct e2 h2=>ybX c b n e2 h2
   | .bk e2 h2=>.nx e2 h2
   | .rt v h2=>.rt v h2
   | _=>.bad)
  | .ok false h1=>.nx en h1
  | _=>.bad
abbrev SI:=En->AH->Out (List AV×Option Nat)
@[simp] def ybV (w:Option Nat) (xs:List AV) (h:AH):Bool:=match w with
 | none=>true
 | some n=>match h[n]? with
  | some (.lst ys)=>decide (ys=xs)
  | _=>false
inductive Tg where
 | nm (i:Nat)
 | tup (is:List Nat)
 | nst (i:Nat) (is:List Nat)
@[simp] def yeY:List Nat->List AV->En->Option En
 | [],[],en=>some en
 | i::is,x::xs,en=>yeY is xs (en.set i (some x))
 | _,_,_=>none
@[simp] def setT (t:Tg) (v:AV) (en:En):Option En:=match t,v with
 | .nm i,v=>some (en.set i (some v))
 | .tup is,.tup xs=>yeY is xs en
 | .nst i is,.tup [y,.tup xs]=>yeY is xs (en.set i (some y))
 | _,_=>none
def ybu (w:Option Nat) (all:List AV) (t:Tg) (b:SS):List AV->SS
 | []=>λen h=>if ybV w all h=true then .nx en h else .bad
 | x::xs=>λen h=>if ybV w all h=true then
   (match setT t x en with
   | some e1=>(match b e1 h with
    | .nx e2 h2=>ybu w all t b xs e2 h2
    | .ct e2 h2=>ybu w all t b xs e2 h2
    | .bk e2 h2=>.nx e2 h2
    | .rt v h2=>.rt v h2
    | _=>.bad)
   | none=>.bad) else .bad
@[simp] def sFor (it:SI) (t:Tg) (b:SS):SS:=λen h=>match it en h with
 | .ok (xs,w) h1=>ybu w xs t b xs en h1
 | _=>.bad
@[simp] def ygG (t:Tg) (a:SE):SS:=λen h=>(a en h).go en λv h' => match setT t v en with
 | some e=>.nx e h'
 | none=>.bad
@[simp] def iVal (a:SE):SI:=λen h=>(a en h).bind λv h1=>match v with
 | .fl xs=>.ok (xs,none) h1
 | .tup xs=>.ok (xs,none) h1
 | .str z=>.ok (z.cps.toList.map (λc=>.str ⟨#[c]⟩),none) h1
 | .ref n=>match h1[n]? with
  | some (.lst xs)=>.ok (xs,some n) h1
  | _=>.bad
 | _=>.bad
@[simp] def ybz (a:SE):SI:=λen h=>(a en h).bind λv h1=>match v with
 | .fl xs=>.ok (xs,none) h1
 | .tup xs=>.ok (xs,none) h1
 | .ref n=>match h1[n]? with
  | some (.lst xs)=>.ok (xs,some n) h1
  | _=>.bad
 | _=>.bad
def yaX (lo:Int):Nat->List AV
 | 0=>[]
 | n+1=>.int lo::yaX (lo+1) n
@[simp] def ycq (a:SE):SI:=λen h=>(a en h).bind λv h1=>match v with
 | .int j=>if j.natAbs<2 ^ 62 then .ok (yaX 0 j.toNat,none) h1 else .bad
 | _=>.bad
def numbered (k:Nat):List AV->List AV
 | []=>[]
 | x::xs=>.tup [.int k,x]::numbered (k+1) xs
@[simp] def iEnum (a:SE):SI:=λen h=>(a en h).bind λv h1=>match v with
 | .fl xs=>.ok (numbered 0 xs,none) h1
 | _=>.bad
def ybb (js:List Nat) (en:En) (w:Option Nat) (all:List AV) (c:SB) (e:SE):List AV->List AV->AH->Out (List AV)
 | [],ys,h=>if ybV w all h=true then .ok ys h else .bad
 | x::xs,ys,h=>if ybV w all h=true/\ys.length<sizeLine then
   (match c (some x::js.map λj=>(en[j]?).join) h with
   | .ok true h1=>(match e (some x::js.map λj=>(en[j]?).join) h1 with
    | .ok v h2=>ybb js en w all c e xs (ys++[v]) h2
    | _=>.bad)
   | .ok false h1=>ybb js en w all c e xs ys h1
   | _=>.bad) else .bad
@[simp] def sYes:SB:=λ_ h=>.ok true h
@[simp] def ybd (js:List Nat) (it:SI) (c:SB) (e:SE):SE:=λen h=>match it en h with
 | .ok (xs,w) h1=>(match ybb js en w xs c e xs [] h1 with
  | .ok ys h2=>.ok (.fl ys) h2
  | _=>.bad)
 | _=>.bad
@[simp] def mkFn (n m:Nat) (b:SS):Fn:=λargs h =>
 if args.length=n then
  match b (args.map some++List.replicate (m-n) none) h with
  | .nx _ h' => .ok .non h'
  | .rt v h' => .ok v h'
  | .ex c _ h' => .ex c h'
  | _=>.bad
 else .bad
@[simp] def yaj (c:Nat) (F:Fn) (o:SE) (as:SL):SE:=λen h=>(o en h).bind λx h1=>match x with
 | .ref n=>match h1[n]? with
  | some (.ins c' _)=>if c'=c then (as en h1).bind λxs h2=>F (x::xs) h2 else .bad
  | _=>.bad
 | _=>.bad
@[simp] def yeI (c k:Nat) (F:Fn) (as:SL):SE:=λen h=>(as en h).bind λxs h1=>match F (.ref h1.length::xs) (h1++[.ins c (List.replicate k none)]) with
 | .ok .non h2=>.ok (.ref h1.length) h2
 | .ex c h2=>.ex c h2
 | _=>.bad
@[simp] def sFld (c i:Nat) (o:SE):SE:=λen h=>(o en h).bind λx h1=>match x with
 | .ref n=>match h1[n]? with
  | some (.ins c' fs)=>if c'=c then (match fs[i]? with | some (some v)=>.ok v h1 | _=>.bad) else .bad
  | _=>.bad
 | _=>.bad
@[simp] def ybB (c i:Nat) (o v:SE):SS:=λen h=>(v en h).go en λy h1=>(o en h1).go en λx h2=>match x with
 | .ref n=>match h2[n]? with
  | some (.ins c' fs)=>if c'=c then .nx en (h2.set n (.ins c (fs.set i (some y)))) else .bad
  | _=>.bad
 | _=>.bad
@[simp] def keyOf? (v:AV):Option Key:=match v with
 | .int i=>some (.inl i)
 | .str x=>some (.inr x)
 | _=>none
@[simp] def keysOf? : List AV->Option (List Key)
 | []=>some []
 | v::r=>match keyOf? v,keysOf? r with
  | some k,some ks=>some (k::ks)
  | _,_=>none
@[simp] def ybP (t:Bool) (v:AV):Bool:=match t,v with
 | false,v=>(keyOf? v).isSome
 | true,.tup xs=>(keysOf? xs).isSome
 | true,_=>false
def valA (kvs:List (AV×AV)) (k:AV):Option AV:=(kvs.find? λp=>decide (p.1=k)).map (·.2)
def putA (kvs:List (AV×AV)) (k v:AV):List (AV×AV) :=
 if kvs.any (λp=>decide (p.1=k)) then kvs.map λp=>if p.1=k then (p.1,v) else p else kvs++[(k,v)]
@[simp] def fIx:F2:=λx y h=>match x,y with
 | .str z,.int i=>match atI z.cps.toList i with
  | some c=>.ok (.str ⟨#[c]⟩) h
  | none=>.bad
 | .tup xs,.int i=>match atI xs i with
  | some v=>.ok v h
  | none=>.bad
 | .fl xs,.int i=>match atI xs i with
  | some v=>.ok v h
  | none=>.bad
 | .ref n,y=>match h[n]? with
  | some (.lst xs)=>match y with
   | .int i=>match atI xs i with
    | some v=>.ok v h
    | none=>.bad
   | _=>.bad
  | some (.dct t kvs)=>if ybP t y then (match valA kvs y with | some v=>.ok v h | none=>.bad) else .bad
  | _=>.bad
 | _,_=>.bad
@[simp] def ybv (o i v:SE):SS:=λen h=>(v en h).go en λz h1=>(o en h1).go en λx h2=>(i en h2).go en λy h3=>match x with
 | .ref n=>match h3[n]? with
  | some (.lst xs)=>match y with
   | .int k=>match ixN xs.length k with
    | some j=>.nx en (h3.set n (.lst (xs.set j z)))
    | none=>.bad
   | _=>.bad
  | some (.dct t kvs)=>if ybP t y=true/\kvs.length<sizeLine then .nx en (h3.set n (.dct t (putA kvs y z))) else .bad
  | _=>.bad
 | _=>.bad
@[simp] def inA (x y:AV) (h:AH):Option Bool:=match x,y with
 | .str i,.str j=>some (!(Builtin.Str.occurrences j i 0 j.length 1).isEmpty)
 | x,.ref n=>match h[n]? with
  | some (.dct t kvs)=>if ybP t x then some (valA kvs x).isSome else none
  | some (.lst xs)=>match toD 8 h x,toDs (toD 8 h) xs with
   | some d,some ds=>some (ds.any λe=>PyData.eqv e d)
   | _,_=>none
  | _=>none
 | x,.fl xs=>match toD 8 h x,toDs (toD 8 h) xs with
  | some d,some ds=>some (ds.any λe=>PyData.eqv e d)
  | _,_=>none
 | x,.tup xs=>match toD 8 h x,toDs (toD 8 h) xs with
  | some d,some ds=>some (ds.any λe=>PyData.eqv e d)
  | _,_=>none
 | _,_=>none
@[simp] def ydG:F2:=λx y h=>match inA x y h with
 | some b=>.ok (.bl (!b)) h
 | none=>.bad
@[simp] def fLen:Fn:=λargs h=>match args with
 | [.str x]=>.ok (.int x.length) h
 | [.tup xs]=>.ok (.int xs.length) h
 | [.fl xs]=>.ok (.int xs.length) h
 | [.ref n]=>match h[n]? with
  | some (.lst xs)=>.ok (.int xs.length) h
  | some (.dct false kvs)=>.ok (.int kvs.length) h
  | _=>.bad
 | _=>.bad
@[simp] def fAbs:Fn:=λargs h=>match args with
 | [.int i]=>.ok (.int (if i<0 then -i else i)) h
 | _=>.bad
@[simp] def ycE:Fn:=λargs h=>match args with
 | [.int i,.int j]=>.ok (.int (if j > i then j else i)) h
 | _=>.bad
@[simp] def ybQ:Fn:=λargs h=>match args with
 | [.int i,.int j]=>.ok (.int (if j<i then j else i)) h
 | _=>.bad
@[simp] def yd9:List AV->Option (List Bool)
 | []=>some []
 | .bl b::r=>(yd9 r).map (b :: ·)
 | _::_=>none
@[simp] def fAll:Fn:=λargs h=>match args with
 | [.fl xs]=>match yd9 xs with
  | some bs=>.ok (.bl (bs.all id)) h
  | none=>.bad
 | _=>.bad
@[simp] def fInt:Fn:=λargs h=>match args with
 | [.int i]=>.ok (.int i) h
 | [.bl k]=>.ok (.int (if k then 1 else 0)) h
 | _=>.bad
@[simp] def tyN (v:AV) (h:AH):Option String:=match v with
 | .non=>some "NoneType"
 | .bl _=>some "bool"
 | .int _=>some "int"
 | .str _=>some "str"
 | .tup _=>some "tuple"
 | .fl _=>some "list"
 | .ref n=>match h[n]? with
  | some (.lst _)=>some "list"
  | some (.dct _ _)=>some "dict"
  | _=>none
 | .exc _=>none
@[simp] def sIsB (t:String) (a:SE):SE:=λen h=>(a en h).bind λv h1=>match tyN v h1 with
 | some n=>.ok (.bl (n == t || (t == "int" && n == "bool"))) h1
 | none=>.bad
abbrev FM:=AV->List AV->AH->Out AV
@[simp] def yat (v:AV) (h:AH):Bool:=(ybi v h).isSome
@[simp] def yfm (v:AV) (_:AH):Bool:=match v with
 | .str _=>true
 | _=>false
@[simp] def sBM (chk:AV->AH->Bool) (f:FM) (o:SE) (as:SL):SE:=λen h=>(o en h).bind λx h1=>if chk x h1=true then (as en h1).bind λxs h2=>f x xs h2 else .bad
@[simp] def sBM0 (chk:AV->AH->Bool) (f:FM) (o:SE):SE:=λen h=>(o en h).bind λx h1=>if chk x h1=true then f x [] h1 else .bad
@[simp] def yav:FM:=λx vs h=>match x,vs with
 | .ref n,[y]=>match h[n]? with
  | some (.lst xs)=>if xs.length<sizeLine then .ok .non (h.set n (.lst (xs++[y]))) else .bad
  | _=>.bad
 | _,_=>.bad
@[simp] def mPop:FM:=λx vs h=>match x,vs with
 | .ref n,[]=>match h[n]? with
  | some (.lst xs)=>match xs[xs.length-1]? with
   | some y=>.ok y (h.set n (.lst xs.dropLast))
   | none=>.bad
  | _=>.bad
 | _,_=>.bad
def ygH (d:PyData):List PyData->Nat->Option Nat
 | [],_=>none
 | e::r,k=>if PyData.eqv e d=true then some k else ygH d r (k+1)
@[simp] def yjo:FM:=λx vs h=>match vs with
 | [y]=>match ybi x h with
  | some xs=>match toD 8 h y,toDs (toD 8 h) xs with
   | some d,some ds=>match ygH d ds 0 with
    | some k=>.ok (.int k) h
    | none=>.bad
   | _,_=>.bad
  | none=>.bad
 | _=>.bad
@[simp] def yfg:FM:=λx vs h=>match x,vs with
 | .str z,[.str y]=>.ok (.int ((Builtin.Str.occurrences z y 0 z.length (z.length+1)).length:Nat)) h
 | _,_=>.bad
@[simp] def yex:List AV->Option (List Str)
 | []=>some []
 | .str x::r=>(yex r).map (x :: ·)
 | _::_=>none
@[simp] def yeJ:FM:=λx vs h=>match x,vs with
 | .str z,[y]=>if z=Str.empty then (match ybi y h with
  | some xs=>match yex xs with
   | some zs=>if ((zs.map λx:Str=>x.cps.toList).flatten).length<=1000000 then .ok (.str ⟨((zs.map λx:Str=>x.cps.toList).flatten).toArray⟩) h else .bad
   | none=>.bad
  | none=>.bad) else .bad
 | _,_=>.bad
def cutA {α:Type} (xs:List α) (lo hi:Option Int):List α:=(xs.drop (HT.sIx xs.length 0 lo)).take (HT.sIx xs.length xs.length hi-HT.sIx xs.length 0 lo)
structure CA (T:Tb) (E:St->XK) (X:Cx):Prop where
 hK:X.K=T.K
 pass:yd8 (CXE X.prog X.w) X E
abbrev EN:St->XK:=λ_=>E0
theorem CA.nox {T:Tb} {E:St->XK} {X:Cx} (c:CA T E X):CA T EN X.nox:=⟨c.hK,λ_ _ _ _ _ _ _ h=>by
 obtain ⟨_,_,_,_,_,_,_,_,_,_,_,_,_,_,_,_,q⟩:=h
 exact q.elim⟩
theorem CA.never {T:Tb} {X:Cx} (hK:X.K=T.K):CA T EN X:=⟨hK,λ_ _ _ _ _ _ _ h=>by
 obtain ⟨_,_,_,_,_,_,_,_,_,_,_,_,_,_,_,_,q⟩:=h
 exact q.elim⟩
section
variable {T:Tb} {ι:Ix} {h:AH} {H:Hp}
theorem ybF {x:AV} {u:V} {xs:List AV} (S:Sim T ι h H) (r:RV T ι H x u) (e:ybi x h=some xs):∃ a us,u = .ref a/\SqL T.K H a us/\RVs T ι H xs us:=by
 unfold ybi at e
 cases r with
 | fl n q r=>cases e;exact ⟨_,_,rfl,.inl q,r⟩
 | kfl q r=>cases e;exact ⟨_,_,rfl,.inr q,r⟩
 | @ref k a q =>
  dsimp only at e
  split at e
  ·rename_i ys hk
   cases e
   obtain ⟨u,e1,us,rfl,r⟩:=S.obj k _ a hk q
   exact ⟨a,us,rfl,.inl (.inl e1),r⟩
  ·cases e
 | _=>cases e
theorem ydj {u:V} {xs:List AV} (r:RV T ι H (.tup xs) u):∃ a us,u = .ref a/\SqT T.K H a us/\RVs T ι H xs us:=by
 cases r with
 | tup n q r=>exact ⟨_,_,rfl,.of q,r⟩
theorem ybf {u:V} {x:Str} (r:RV T ι H (.str x) u):u = .str x/\x.length<=sizeLine/\x.cps.all (· < 0x110000)=true:=by
 cases r with
 | str n o=>exact ⟨rfl,n,o⟩
theorem yaC {u:V} {i:Int} (r:RV T ι H (.int i) u):u = .int i:=by cases r;rfl
theorem ycb {u:V} {i:Bool} (r:RV T ι H (.bl i) u):u = .bl i:=by cases r;rfl
theorem yeZ {u:V} (r:RV T ι H .non u):u = .non:=by cases r;rfl
theorem yey {us:List V} {xs:List AV} {p:Addr} {E:XK} {Q:VK} (S:Sim T ι h H) (r:RVs T ι H xs us) (n:H p=none) (q:Post T ι H E (RV T) (.ok (.fl xs) h) Q):Q (.ref p) (upd H p (.lst us)) :=
 q ι _ _ (S.growNew n) (S.new n) (.fl (S.fresh n) (.inl zax) (r.mono (S.growNew n)))
theorem zdu {us:List V} {xs:List AV} {p:Addr} {E:XK} {Q:VK} (S:Sim T ι h H) (r:RVs T ι H xs us) (n:H p=none) (q:Post T ι H E (RV T) (.ok (.tup xs) h) Q):Q (.ref p) (upd H p (.tup us)) :=
 q ι _ _ (S.growNew n) (S.new n) (.tup (S.fresh n) zax (r.mono (S.growNew n)))
theorem zjQ {us:List V} {xs:List AV} {p:Addr} {E:XK} {Q:VK} (S:Sim T ι h H) (r:RVs T ι H xs us) (n:H p=none) (q:Post T ι H E (RV T) (.ok (.ref h.length) (h++[.lst xs])) Q):Q (.ref p) (upd H p (.lst us)) :=
 q _ _ _ (S.growAdd n) (S.add n ⟨us,rfl,r.mono (S.growAdd n)⟩) (.ref S.addAt)
end
section
variable {T:Tb} {E:St->XK} {X:Cx} {pos:Pos}
theorem yaa (i:Nat) {x:Str} {p:Pos} (hN:X.N[i]? = some x:=by rfl) (hv:Vis X.env.scope x:=by first | exact Or.inl rfl | exact Or.inr (Or.inl rfl) | exact Or.inr (Or.inr rfl)) (hd:(x == ("__debug__" : Str))=false:=by decide)
  (hcd:(x == ("__classdict__" : Str))=false:=by decide):PEA T E X (.Name x p) (sVar i) :=
 yaR (pv i hN hv hd hcd) λσ H Q=>E6x λι h en S er q=>by
  unfold sVar at q
  split at q
  ·rename_i v hv
   obtain ⟨u,e,r⟩:=er.2 i v hv
   exact ⟨u,e,q.now S r⟩
  ·exact q.elim
theorem yad {i j p}:PEA T E X (.Constant (.int i) j p) (sLit (.int i)):=yaR yg1 λσ H Q=>E6x λι h en S er q=>q.now S (.int i)
theorem r_bl {i j p}:PEA T E X (.Constant (.bool i) j p) (sLit (.bl i)):=yaR yiq λσ H Q=>E6x λι h en S er q=>q.now S (.bl i)
theorem yiS {j p}:PEA T E X (.Constant .none j p) (sLit .non):=yaR yg2 λσ H Q=>E6x λι h en S er q=>q.now S .non
theorem ya5 {x j p} (n:x.length<=sizeLine:=by decide +kernel) (o:x.cps.all (· < 0x110000)=true:=by decide +kernel):PEA T E X (.Constant (.str x) j p) (sLit (.str x)):=yaR yg3 λσ H Q=>E6x λι h en S er q=>q.now S (.str n o)
theorem zjR {x:Str} {i:Int} {t:Tok} {p:Pos} (hg:Gl X x) (hm:X.mg x=some (.int i t)) (hd:(x == ("__debug__" : Str))=false:=by decide):PEA T E X (.Name x p) (sLit (.int i)) :=
 yaR (zjk (v:=.int i) hg hm ⟨t,rfl⟩ hd) λσ H Q=>E6x λι h en S er q=>q.now S (.int i)
def OpS (T:Tb) (f:F2) (r:R2):Prop:=∀ (ι:Ix) (h:AH) (H:Hp) (x y:AV) (u w:V) (E:XK) (Q:VK),Sim T ι h H->RV T ι H x u->RV T ι H y w->Post T ι H E (RV T) (f x y h) Q->r u w H Q
def Op (T:Tb) (X:Cx) (g:Value->Value->Sem Value) (f:F2):Prop:=∃ r,OpR X g r/\OpS T f r
variable {a b c:Expr} {sa sb sc:SE}
theorem two {f:F2} {r:R2} (hs:OpS T f r) {σ:St} {H:Hp} {Q:VK} (q:tE T E (sOp2 f sa sb) σ H Q):tOp r (tE T E sa) (tE T E sb) σ H Q:=by
 obtain ⟨ι,h,en,S,er,q⟩:=q
 refine ⟨ι,h,en,S,er,q.bind λx h1 ι1 H1 u g1 S1 r1 q1=>⟨ι1,h1,en,S1,er.mono g1,q1.bind λy h2 ι2 H2 w g2 S2 r2 q2=>?_⟩⟩
 exact hs ι2 h2 H2 x y u w _ Q S2 (r1.mono g2) r2 q2
theorem yal {op:Operator} {f:F2} (ho:Op T X (binaryOp op) f) (ha:PEA T E X a sa) (hb:PEA T E X b sb):PEA T E X (.BinOp a op b pos) (sOp2 f sa sb):=by
 obtain ⟨r,h1,h2⟩:=ho
 exact yaR (yiA h1 ha hb) λσ H Q q=>two h2 q
theorem zjS {i j:Str} (hi:i.cps.all (· < 0x110000)=true) (hj:j.cps.all (· < 0x110000)=true):(i++j).cps.all (· < 0x110000)=true:=by
 show (i.cps++j.cps).all _=true
 rw [Array.all_append,hi,hj];rfl
theorem zfr (i j:Str):(i++j).length=i.length+j.length:=by
 show (i.cps++j.cps).size=_
 rw [Array.size_append];rfl
theorem yaM (hK:X.K=T.K):Op T X (binaryOp .Add) fAdd:=by
 refine ⟨_,op_add.or (zgG.or (zjx.or zjN)),λι h H x y u w E Q S rx ry p=>?_⟩
 unfold fAdd at p
 split at p
 ·rw [yaC rx,yaC ry]
  exact .inl ⟨_,_,rfl,rfl,p.now S (.int _)⟩
 ·split at p
  ·rename_i hz
   obtain ⟨rfl,_,o1⟩:=ybf rx
   obtain ⟨rfl,_,o2⟩:=ybf ry
   exact .inr (.inl ⟨_,_,rfl,rfl,hz,p.now S (.str (by rw [zfr];exact hz) (zjS o1 o2))⟩)
  ·exact p.elim
 ·split at p
  ·rename_i hz
   obtain ⟨a,us,rfl,q1,r1⟩:=ydj rx
   obtain ⟨b,ws,rfl,q2,r2⟩:=ydj ry
   refine .inr (.inr (.inl ⟨a,b,us,ws,rfl,rfl,hK▸q1,hK▸q2,λz=>hz.1 ?_,by rw [<- r1.length,<- r2.length];exact hz.2,λz=>?_,λ_ l n=>zdu S (r1.append r2) n p⟩))
   ·subst z;cases r1;rfl
   ·subst z;cases r2
    rw [List.append_nil] at p
    exact p.now S rx
  ·exact p.elim
 ·split at p
  ·split at p
   ·rename_i e1 e2 hz
    obtain ⟨a,us,rfl,q1,r1⟩:=ybF S rx e1
    obtain ⟨b,ws,rfl,q2,r2⟩:=ybF S ry e2
    exact .inr (.inr (.inr ⟨a,b,us,ws,rfl,rfl,hK▸q1,hK▸q2,by rw [<- r1.length,<- r2.length];exact hz,λl n=>yey S (r1.append r2) n p⟩))
   ·exact p.elim
  ·exact p.elim
theorem ybA:Op T X (binaryOp .Sub) fSub:=by
 refine ⟨_,yhf,λι h H x y u w E Q S rx ry p=>?_⟩
 unfold fSub at p
 split at p
 ·rw [yaC rx,yaC ry]
  exact ⟨_,_,rfl,rfl,p.now S (.int _)⟩
 ·exact p.elim
theorem zf0 {i:Int} (h:i.natAbs<2 ^ 4000):Builtin.Int.intBits i<=2 ^ 20:=by
 unfold Builtin.Int.intBits
 split
 ·exact Nat.zero_le _
 ·rename_i hz
  have h0:i.natAbs≠0:=λz=>hz (by simpa using z)
  have:i.natAbs.log2<4000:=(Nat.log2_lt h0).mpr h
  exact Nat.le_trans (by lia:i.natAbs.log2+1<=4001) (by decide)
theorem yb3:Op T X (binaryOp .Mult) fMul:=by
 refine ⟨_,ziI,λι h H x y u w E Q S rx ry p=>?_⟩
 unfold fMul at p
 split at p
 ·split at p
  ·rename_i hz
   rw [yaC rx,yaC ry]
   exact ⟨_,_,rfl,rfl,hz.elim (λz=>CMul.ok (z.elim (λz=>.inl ⟨by lia,by lia⟩) (λz=>.inr ⟨by lia,by lia⟩))) (λz=>.of_bits (zf0 z.1) (zf0 z.2)),p.now S (.int _)⟩
  ·exact p.elim
 ·exact p.elim
theorem ye0:Op T X (binaryOp .FloorDiv) fDiv:=by
 refine ⟨_,ziH,λι h H x y u w E Q S rx ry p=>?_⟩
 unfold fDiv at p
 split at p
 ·split at p
  ·rename_i hz
   rw [yaC rx,yaC ry]
   exact ⟨_,_,rfl,rfl,⟨hz.1,by lia⟩,p.now S (.int _)⟩
  ·exact p.elim
 ·exact p.elim
theorem ydr:Op T X (binaryOp .Mod) fMod:=by
 refine ⟨_,yhg,λι h H x y u w E Q S rx ry p=>?_⟩
 unfold fMod at p
 split at p
 ·split at p
  ·rename_i hz
   rw [yaC rx,yaC ry]
   exact ⟨_,_,rfl,rfl,hz,p.now S (.int _)⟩
  ·exact p.elim
 ·exact p.elim
theorem yde:Op T X (binaryOp .Pow) fPow:=by
 refine ⟨_,yhh,λι h H x y u w E Q S rx ry p=>?_⟩
 unfold fPow at p
 split at p
 ·split at p
  ·rename_i hz
   rw [yaC rx,yaC ry]
   exact ⟨_,_,rfl,rfl,hz,p.now S (.int _)⟩
  ·exact p.elim
 ·exact p.elim
theorem yfn (ha:PEA T E X a sa):PEA T E X (.UnaryOp .USub a pos) (sOp1 fNeg sa) :=
 yaR (yiB yhi ha) λσ H Q=>E6x λι h en S er q=>⟨ι,h,en,S,er,q.bind λx h1 ι1 H1 u g1 S1 r1 q1=>by
  unfold fNeg at q1
  split at q1
  ·rw [yaC r1]
   exact ⟨_,rfl,q1.now S1 (.int _)⟩
  ·exact q1.elim⟩
theorem zhN {ds:List PyData} (h:∀ d∈ds,d.canLay0=true):PyData.canLayAll0 ds=true:=by
 induction ds with
 | nil=>rfl
 | cons d r ih=>show (d.canLay0 && PyData.canLayAll0 r)=true;rw [h d (by simp),ih λe he=>h e (by simp [he])];rfl
theorem zfs {n:Nat} {ds:List PyData} (h:∀ d∈ds,d.depth<=n):PyData.depthAll ds<=n:=by
 induction ds with
 | nil=>exact Nat.zero_le _
 | cons d r ih=>show max d.depth (PyData.depthAll r)<=n;have:=h d (by simp);have:=ih λe he=>h e (by simp [he]);lia
section
variable {ι:Ix} {h:AH} {H:Hp}
theorem zbz {f:AV->Option PyData} {n:Nat} (hf:∀ {x:AV} {u:V} {d:PyData},RV T ι H x u->f x=some d->DaV T.K H u d/\d.canLay0=true/\d.depth<=n) :
  ∀ {xs:List AV} {us:List V} {ds:List PyData},RVs T ι H xs us->toDs f xs=some ds->DaVs T.K H us ds/\∀ d∈ds,d.canLay0=true/\d.depth<=n
 | _,_,ds,.nil,e=>by cases e;exact ⟨.nil,by simp⟩
 | _,_,ds,.cons (x:=x) (xs:=xs) r rs,e=>by
  unfold toDs at e
  split at e
  ·rename_i d ds' e1 e2
   cases e
   obtain ⟨q1,q2⟩:=hf r e1
   obtain ⟨q3,q4⟩:=zbz hf rs e2
   refine ⟨.cons q1 q3,λd hd=>?_⟩
   rcases List.mem_cons.mp hd with rfl | hd
   ·exact q2
   ·exact q4 d hd
  ·cases e
theorem ycM (S:Sim T ι h H):∀ (n:Nat) {x:AV} {u:V} {d:PyData},RV T ι H x u->toD n h x=some d->DaV T.K H u d/\d.canLay0=true/\d.depth<=n
 | 0,x,u,d,r,e=>by
  unfold toD at e
  cases r with
  | non=>cases e;exact ⟨.non,rfl,Nat.le_refl _⟩
  | bl b=>cases e;exact ⟨.bl b,rfl,Nat.le_refl _⟩
  | int b=>cases e;exact ⟨.int b,rfl,Nat.le_refl _⟩
  | str a b=>cases e;exact ⟨.str _,b,Nat.le_refl _⟩
  | _=>cases e
 | n+1,x,u,d,r,e=>by
  unfold toD at e
  have many:∀ {xs:List AV} {us:List V} {ds:List PyData},RVs T ι H xs us->toDs (toD n h) xs=some ds->DaVs T.K H us ds/\∀ d∈ds,d.canLay0=true/\d.depth<=n:=λr e=>zbz (λr e=>ycM S n r e) r e
  have fin:∀ {ds:List PyData},(∀ d∈ds,d.canLay0=true/\d.depth<=n)->PyData.canLayAll0 ds=true/\PyData.depthAll ds+1<=n+1:=λq=>⟨zhN λd hd=>(q d hd).1,Nat.succ_le_succ (zfs λd hd=>(q d hd).2)⟩
  cases r with
  | non=>cases e;exact ⟨.non,rfl,Nat.zero_le _⟩
  | bl b=>cases e;exact ⟨.bl b,rfl,Nat.zero_le _⟩
  | int b=>cases e;exact ⟨.int b,rfl,Nat.zero_le _⟩
  | str a b=>cases e;exact ⟨.str _,b,Nat.zero_le _⟩
  | tup k q r =>
   obtain ⟨ds,e1,rfl⟩:=Option.map_eq_some_iff.mp e
   obtain ⟨q1,q2⟩:=many r e1
   exact ⟨.tup (.of q) q1,fin q2⟩
  | fl k q r =>
   obtain ⟨ds,e1,rfl⟩:=Option.map_eq_some_iff.mp e
   obtain ⟨q1,q2⟩:=many r e1
   exact ⟨.lst (.inl q) q1,fin q2⟩
  | kfl q r =>
   obtain ⟨ds,e1,rfl⟩:=Option.map_eq_some_iff.mp e
   obtain ⟨q1,q2⟩:=many r e1
   exact ⟨.lst (.inr q) q1,fin q2⟩
  | @ref k a q =>
   dsimp only at e
   split at e
   ·rename_i ys hk
    obtain ⟨ds,e1,rfl⟩:=Option.map_eq_some_iff.mp e
    obtain ⟨u,e2,us,rfl,r⟩:=S.obj k _ a hk q
    obtain ⟨q1,q2⟩:=many r e1
    exact ⟨.lst (.inl (.inl e2)) q1,fin q2⟩
   ·cases e
  | exc _ _ _=>cases e
end
theorem yhG {i j:Int}:decide (V.int i=V.int j)=decide (i=j):=by rw [Bool.eq_iff_iff];simp
theorem yhH {i j:Str}:decide (V.str i=V.str j)=decide (i=j):=by rw [Bool.eq_iff_iff];simp
theorem yiT {i j:Bool}:decide (V.bl i=V.bl j)=decide (i=j):=by rw [Bool.eq_iff_iff];simp
theorem zf1 {r:R2} {neg:Bool} (ho:OpR X g r) (h1:∀ x y H Q,(scal x y=true/\Q (.bl (if neg then !decide (x=y) else decide (x=y))) H)->r x y H Q)
  (h2:∀ x y H Q,(∃ d e,DaV T.K H x d/\DaV T.K H y e/\d.canLay0=true/\e.canLay0=true/\d.depth<=60/\Q (.bl (if neg then !PyData.eqv d e else PyData.eqv d e)) H)->r x y H Q) :
  OpS T (λx y h=>match eqA x y h with | some b=>.ok (.bl (if neg then !b else b)) h | none=>.bad) r:=by
 intro ι h H x y u w E Q S rx ry p
 dsimp only at p
 cases hb:eqA x y h with
 | none=>rw [hb] at p;exact p.elim
 | some b =>
  rw [hb] at p
  dsimp only at p
  unfold eqA at hb
  split at hb
  ·cases hb
   rw [yaC rx,yaC ry]
   exact h1 _ _ _ _ ⟨rfl,by rw [yhG];exact p.now S (.bl _)⟩
  ·cases hb
   obtain ⟨rfl,_⟩:=ybf rx
   obtain ⟨rfl,_⟩:=ybf ry
   exact h1 _ _ _ _ ⟨rfl,by rw [yhH];exact p.now S (.bl _)⟩
  ·cases hb
   rw [ycb rx,ycb ry]
   exact h1 _ _ _ _ ⟨rfl,by rw [yiT];exact p.now S (.bl _)⟩
  ·cases hb
   rw [yeZ rx,yeZ ry]
   exact h1 _ _ _ _ ⟨rfl,by rw [show decide (V.non=V.non)=true from rfl];exact p.now S (.bl _)⟩
  ·split at hb
   ·rename_i d e e1 e2
    cases hb
    obtain ⟨q1,q2,q3⟩:=ycM S 8 rx e1
    obtain ⟨q4,q5,q6⟩:=ycM S 8 ry e2
    exact h2 _ _ _ _ ⟨d,e,q1,q4,q2,q5,by lia,p.now S (.bl _)⟩
   ·cases hb
theorem o_eq (hK:X.K=T.K) (hu:X.A.units+64<cLine):Op T X (compareOp .Eq) fEq :=
 ⟨_,op_eq.or (yf9 hu),zf1 (neg:=false) (op_eq.or (yf9 hu)) (λ_ _ _ _ q=>.inl q) λ_ _ _ _ q=>.inr (hK▸q)⟩
theorem o_ne (hK:X.K=T.K) (hu:X.A.units+64<cLine):Op T X (compareOp .NotEq) fNe :=
 ⟨_,op_ne.or (yga hu),zf1 (neg:=true) (op_ne.or (yga hu)) (λ_ _ _ _ q=>.inl q) λ_ _ _ _ q=>.inr (hK▸q)⟩
theorem o_lt:Op T X (compareOp .Lt) fLt:=by
 refine ⟨_,op_lt.or zhk,λι h H x y u w E Q S rx ry p=>?_⟩
 unfold fLt at p
 split at p
 ·rw [yaC rx,yaC ry]
  exact .inl ⟨_,_,rfl,rfl,p.now S (.bl _)⟩
 ·obtain ⟨rfl,_⟩:=ybf rx
  obtain ⟨rfl,_⟩:=ybf ry
  exact .inr ⟨_,_,rfl,rfl,p.now S (.bl _)⟩
 ·exact p.elim
theorem o_le:Op T X (compareOp .LtE) fLe:=by
 refine ⟨_,op_le.or zhA,λι h H x y u w E Q S rx ry p=>?_⟩
 unfold fLe at p
 split at p
 ·rw [yaC rx,yaC ry]
  exact .inl ⟨_,_,rfl,rfl,p.now S (.bl _)⟩
 ·obtain ⟨rfl,_⟩:=ybf rx
  obtain ⟨rfl,_⟩:=ybf ry
  exact .inr ⟨_,_,rfl,rfl,p.now S (.bl _)⟩
 ·exact p.elim
theorem o_gt:Op T X (compareOp .Gt) fGt:=by
 refine ⟨_,yiC,λι h H x y u w E Q S rx ry p=>?_⟩
 unfold fGt at p
 split at p
 ·rw [yaC rx,yaC ry]
  exact ⟨_,_,rfl,rfl,p.now S (.bl _)⟩
 ·exact p.elim
theorem o_ge:Op T X (compareOp .GtE) fGe:=by
 refine ⟨_,yiD,λι h H x y u w E Q S rx ry p=>?_⟩
 unfold fGe at p
 split at p
 ·rw [yaC rx,yaC ry]
  exact ⟨_,_,rfl,rfl,p.now S (.bl _)⟩
 ·exact p.elim
theorem RV.non_iff {ι:Ix} {H:Hp} {x:AV} {u:V} (r:RV T ι H x u):decide (x = .non)=decide (u = .non):=by
 exact decide_eq_decide.mpr ⟨λz=>by subst z;cases r;rfl,λz=>by subst z;cases r;rfl⟩
theorem yiU:Op T X (compareOp .Is) fIsN:=by
 refine ⟨_,yhj,λι h H x y u w E Q S rx ry p=>?_⟩
 unfold fIsN at p
 split at p
 ·refine ⟨yeZ ry,?_⟩
  rw [<- rx.non_iff]
  exact p.now S (.bl _)
 ·exact p.elim
theorem yfN {op:CmpOp} {f:F2} (ho:Op T X (compareOp op) f) (ha:PEA T E X a sa) (hb:PEA T E X b sb) (hm:behindInMarks op b=false):PEA T E X (.Compare a [op] [b] pos) (sOp2 f sa sb):=by
 obtain ⟨r,h1,h2⟩:=ho
 exact yaR (zjq h1 ha hb hm) λσ H Q q=>two h2 q
theorem yaq {op:CmpOp} {f:F2} (ho:Op T X (compareOp op) f) (ha:PEA T E X a sa) (hb:PEA T E X b sb) (hm:behindInMarks op b=false):PTA T E X (.Compare a [op] [b] pos) (yam (sOp2 f sa sb)):=by
 obtain ⟨r,h1,h2⟩:=ho
 refine yew (zjr h1 ha hb hm) λσ H Q q=>two (E:=E) (Q:=λx H' => ∃ k,x=V.bl k/\Q k H') h2 ?_
 obtain ⟨ι,h,en,S,er,q⟩:=q
 refine ⟨ι,h,en,S,er,q.bind λx h1 ι1 H1 u g1 S1 r1 q1=>?_⟩
 split at q1
 ·rw [ycb r1]
  exact ⟨_,rfl,q1.now S1 rfl⟩
 ·exact q1.elim
theorem ygI {f f':F2} {r r':R2} (hs:OpS T f r) (hs':OpS T f' r') {σ:St} {H:Hp} {Q:VK} (q:tE T E (ybO f f' sa sb sc) σ H Q):yfz r r' (tE T E sa) (tE T E sb) (tE T E sc) σ H Q:=by
 obtain ⟨ι,h,en,S,er,q⟩:=q
 refine ⟨ι,h,en,S,er,q.bind λx h1 ι1 H1 u g1 S1 r1 q1=>⟨ι1,h1,en,S1,er.mono g1,q1.bind λy h2 ι2 H2 w g2 S2 r2 q2=>?_⟩⟩
 refine hs ι2 h2 H2 x y u w (E σ) _ S2 (r1.mono g2) r2 (q2.bind λz h3 ι3 H3 k g3 S3 r3 q3=>?_)
 split at q3
 ·rename_i kk
  rw [ycb r3]
  refine ⟨kk,rfl,?_⟩
  by_cases hkk:kk=true
  ·rw [if_pos hkk] at q3 ⊢
   refine ⟨ι3,h3,en,S3,er.mono (g1.trans (g2.trans g3)),q3.bind λv h4 ι4 H4 j g4 S4 r4 q4=>?_⟩
   exact hs' ι4 h4 H4 y v w j _ Q S4 (r2.mono (g3.trans g4)) r4 q4
  ·rw [if_neg hkk] at q3 ⊢
   exact q3.now S3 (.bl _)
 ·exact q3.elim
theorem zbA {op op':CmpOp} {f f':F2} (ho:Op T X (compareOp op) f) (ho':Op T X (compareOp op') f') (ha:PEA T E X a sa) (hb:PEA T E X b sb) (hc:PEA T E X c sc) (hm:lastMarks [op,op'] [b,c]=false:=by with_unfolding_all rfl) :
  PEA T E X (.Compare a [op,op'] [b,c] pos) (ybO f f' sa sb sc):=by
 obtain ⟨r,h1,h2⟩:=ho
 obtain ⟨r',h1',h2'⟩:=ho'
 exact yaR (zim h1 h1' ha hb hc hm) λσ H Q q=>ygI h2 h2' q
theorem ziS {op op':CmpOp} {f f':F2} (ho:Op T X (compareOp op) f) (ho':Op T X (compareOp op') f') (ha:PEA T E X a sa) (hb:PEA T E X b sb) (hc:PEA T E X c sc) (hm:lastMarks [op,op'] [b,c]=false:=by with_unfolding_all rfl) :
  PTA T E X (.Compare a [op,op'] [b,c] pos) (yam (ybO f f' sa sb sc)):=by
 obtain ⟨r,h1,h2⟩:=ho
 obtain ⟨r',h1',h2'⟩:=ho'
 refine yew (zin h1 h1' ha hb hc hm) λσ H Q q=>ygI (E:=E) (Q:=λx H' => ∃ k,x=V.bl k/\Q k H') h2 h2' ?_
 obtain ⟨ι,h,en,S,er,q⟩:=q
 refine ⟨ι,h,en,S,er,q.bind λx h1 ι1 H1 u g1 S1 r1 q1=>?_⟩
 split at q1
 ·rw [ycb r1]
  exact ⟨_,rfl,q1.now S1 rfl⟩
 ·exact q1.elim
theorem yhI {ι:Ix} {h:AH} {H:Hp} {v:AV} {u:V} {k:Bool} (S:Sim T ι h H) (r:RV T ι H v u) (e:truA v h=some k):TruV T.K u H k:=by
 unfold truA at e
 cases r with
 | non=>cases e;rfl
 | bl b=>cases e;rfl
 | int b=>cases e;rfl
 | str n o=>cases e;exact ⟨n,rfl⟩
 | tup n q r=>cases e;exact .inr (.inl ⟨_,.of q,by cases r<;>rfl⟩)
 | fl n q r=>cases e;exact .inl ⟨_,.inl q,by cases r<;>rfl⟩
 | kfl q r=>cases e;exact .inl ⟨_,.inr q,by cases r<;>rfl⟩
 | @ref n a q =>
  dsimp only at e
  split at e
  ·rename_i xs hk
   cases e
   obtain ⟨u,e1,us,rfl,r⟩:=S.obj n _ a hk q
   exact .inl ⟨us,.inl (.inl e1),by cases r<;>rfl⟩
  ·rename_i xs hk
   cases e
   obtain ⟨u,e1,us,rfl,r⟩:=S.obj n _ a hk q
   exact .inr (.inr ⟨us,e1,by cases r<;>rfl⟩)
  ·cases e
 | exc _ _ _=>cases e
theorem zaE (hK:X.K=T.K) (ha:PEA T E X a sa) (he:∀ whole,isTrue a X.env whole=(do let v <- whole;standAt a.pos;holding [v] (truthy v)):=by intro _;rfl):PTA T E X a (ycD sa) :=
 yew (zio ha he) λσ H Q=>E6x λι h en S er q=>⟨ι,h,en,S,er,q.bind λx h1 ι1 H1 u g1 S1 r1 q1=>by
  split at q1
  ·rename_i b hb
   exact ⟨b,hK▸yhI S1 r1 hb,q1.now S1 rfl⟩
  ·exact q1.elim⟩
variable {ca cb:SB} {rest:List Expr}
theorem yb6 (ha:PTA T E X a ca):PTA T E X (.UnaryOp .Not a pos) (sNot ca) :=
 yew (yg6 ha) λσ H Q=>E6x λι h en S er q=>⟨ι,h,en,S,er,q.bind λx h1 ι1 H1 u g1 S1 r1 q1=>by subst r1;exact q1.now S1 rfl⟩
theorem rt_w (h:PWA T E X a ca):PTA T E X a ca:=PW.pt h
theorem zbB (ha:PTA T E X a ca):PWA T E X (.BoolOp .And [a] pos) ca:=zjm ha
theorem yge (ha:PTA T E X a ca):PWA T E X (.BoolOp .Or [a] pos) ca:=yg4 ha
theorem yea (ha:PTA T E X a ca) (hb:PWA T E X (.BoolOp .And (b::rest) pos) cb):PWA T E X (.BoolOp .And (a::b::rest) pos) (sAnd ca cb) :=
 ygb (yg5 ha hb) λσ H Q=>E6x λι h en S er q=>⟨ι,h,en,S,er,q.bind λx h1 ι1 H1 u g1 S1 r1 q1=>by
  subst r1
  by_cases hx:x=true
  ·rw [if_pos hx] at q1 ⊢
   exact ⟨ι1,h1,en,S1,er.mono g1,q1⟩
  ·rw [if_neg hx] at q1 ⊢
   exact q1.now S1 rfl⟩
theorem ygJ (ha:PTA T E X a ca) (hb:PWA T E X (.BoolOp .Or (b::rest) pos) cb):PWA T E X (.BoolOp .Or (a::b::rest) pos) (sOr ca cb) :=
 ygb (yir ha hb) λσ H Q=>E6x λι h en S er q=>⟨ι,h,en,S,er,q.bind λx h1 ι1 H1 u g1 S1 r1 q1=>by
  subst r1
  by_cases hx:x=true
  ·rw [if_pos hx] at q1 ⊢
   exact q1.now S1 rfl
  ·rw [if_neg hx] at q1 ⊢
   exact ⟨ι1,h1,en,S1,er.mono g1,q1⟩⟩
theorem ye1 {op} (h:PEA T E X a sa):PEA T E X (.BoolOp op [a] pos) sa:=yg7 h
theorem yfo (ha:PEA T E X a sa) (hb:PEA T E X (.BoolOp .And (b::rest) pos) sb):PEA T E X (.BoolOp .And (a::b::rest) pos) (yeX sa sb) :=
 yaR (yg8 ha hb) λσ H Q=>E6x λι h en S er q=>⟨ι,h,en,S,er,q.bind λx h1 ι1 H1 u g1 S1 r1 q1=>by
  split at q1
  ·rename_i kk
   rw [ycb r1]
   refine ⟨kk,rfl,?_⟩
   by_cases hkk:kk=true
   ·rw [if_pos hkk] at q1 ⊢
    exact ⟨ι1,h1,en,S1,er.mono g1,q1⟩
   ·rw [if_neg hkk] at q1 ⊢
    exact q1.now S1 (.bl _)
  ·exact q1.elim⟩
theorem r_or (ha:PEA T E X a sa) (hb:PEA T E X (.BoolOp .Or (b::rest) pos) sb):PEA T E X (.BoolOp .Or (a::b::rest) pos) (sOrV sa sb) :=
 yaR (yiu ha hb) λσ H Q=>E6x λι h en S er q=>⟨ι,h,en,S,er,q.bind λx h1 ι1 H1 u g1 S1 r1 q1=>by
  split at q1
  ·rename_i kk
   rw [ycb r1]
   refine ⟨kk,rfl,?_⟩
   by_cases hkk:kk=true
   ·rw [if_pos hkk] at q1 ⊢
    exact q1.now S1 (.bl _)
   ·rw [if_neg hkk] at q1 ⊢
    exact ⟨ι1,h1,en,S1,er.mono g1,q1⟩
  ·exact q1.elim⟩
theorem yiV (ha:PEA T E X a sa):PEA T E X (.UnaryOp .Not a pos) (ygE sa) :=
 yaR (yg9 ha) λσ H Q=>E6x λι h en S er q=>⟨ι,h,en,S,er,q.bind λx h1 ι1 H1 u g1 S1 r1 q1=>by
  split at q1
  ·rw [ycb r1]
   exact ⟨_,rfl,q1.now S1 (.bl _)⟩
  ·exact q1.elim⟩
variable {es:List Expr} {as:SL}
theorem yac:PAA T E X [] sNil:=ygc yf0 λσ H Q=>E6x λι h en S er q=>q.now S .nil
theorem zaa (ha:PEA T E X a sa) (hr:PAA T E X es as) (hs:starEach (a::es) X.env=(false,eval a X.env)::starEach es X.env:=by rfl):PAA T E X (a::es) (yab sa as) :=
 ygc (zds ha hr hs) λσ H Q=>E6x λι h en S er q=>⟨ι,h,en,S,er,q.bind λx h1 ι1 H1 u g1 S1 r1 q1=>⟨ι1,h1,en,S1,er.mono g1,q1.bind λxs h2 ι2 H2 us g2 S2 r2 q2=>q2.now S2 (.cons (r1.mono g2) r2)⟩⟩
theorem ybM {k} (h:PAA T E X es as):PEA T E X (.Tuple es k pos) (sTup as) :=
 yaR (yhn h) λσ H Q=>E6x λι h en S er q=>⟨ι,h,en,S,er,q.bind λxs h1 ι1 H1 us g1 S1 r1 q1=>by
  split at q1
  ·rename_i hl
   exact ⟨by rw [<- r1.length];exact Nat.le_trans hl (by decide),λp n=>zdu S1 r1 n q1⟩
  ·exact q1.elim⟩
theorem ycN (h:PAA T E X es as):PEA T E X (.List es pos) (sLst as) :=
 yaR (yf1 h) λσ H Q=>E6x λι h en S er q=>⟨ι,h,en,S,er,q.bind λxs h1 ι1 H1 us g1 S1 r1 q1=>by
  split at q1
  ·rename_i hl
   exact ⟨by rw [<- r1.length];exact Nat.le_trans hl (by decide),λp n=>yey S1 r1 n q1⟩
  ·exact q1.elim⟩
theorem ybl (h:PAA T E X es as):PEA T E X (.List es pos) (ybL as) :=
 yaR (yf1 h) λσ H Q=>E6x λι h en S er q=>⟨ι,h,en,S,er,q.bind λxs h1 ι1 H1 us g1 S1 r1 q1=>by
  split at q1
  ·rename_i hl
   exact ⟨by rw [<- r1.length];exact Nat.le_trans hl (by decide),λp n=>zjQ S1 r1 n q1⟩
  ·exact q1.elim⟩
theorem zf2:PEA T E X (.Dict [] [] pos) (yeW false) :=
 yaR ziA λσ H Q ⟨ι,h,en,S,er,q⟩ p n=>q _ _ _ (S.growAdd n) (S.add n ⟨[],rfl,.nil⟩) (.ref S.addAt)
theorem zjT:PEA T E X (.Dict [] [] pos) (yeW true) :=
 yaR ziB λσ H Q ⟨ι,h,en,S,er,q⟩ p n=>q _ _ _ (S.growAdd n) (S.add n ⟨[],rfl,.nil⟩) (.ref S.addAt)
end
section
variable {T:Tb} {E:St->XK} {X:Cx} {pos:Pos} {a b:Expr} {sa sb:SE} {ca:SB} {st:Stmt} {sts ss1 ss2:List Stmt} {s1 s2:SS}
theorem yar:PSsA T E X [] yaw:=zfZ zjn λD σ H=>E6x λι h en S er q=>q ι H σ S.refl S er
theorem zab (h1:PSA T E X st s1) (h2:PSsA T E X sts s2):PSsA T E X (st::sts) (sSeq s1 s2) :=
 zfZ (zij h1 h2) λD σ H=>E6x λι h en S er q=>by
  refine ⟨ι,h,en,S,er,?_⟩
  unfold sSeq at q
  cases e:s1 en h with
  | nx e1 h1 =>
   rw [e] at q
   exact λι' H' σ' g S' er' => ⟨ι',h1,e1,S',er',q.shift g⟩
  | rt v h1=>rw [e] at q;exact q
  | bk e1 h1=>rw [e] at q;exact q
  | ct e1 h1=>rw [e] at q;exact q
  | ex c e1 h1=>rw [e] at q;exact q
  | bad=>rw [e] at q;exact q
theorem yag (h1:PSA T E X st s1):PSsA T E X [st] s1:=zjo h1
theorem zgU:PSA T E X (.Continue pos) ygF:=ycg zfo λD σ H=>E6x λι h en S er q=>q ι H σ S.refl S er
theorem yas (ha:PEA T E X a sa) (hs:swapsWith a none pos.line X.env=pure false:=by rfl):PSA T E X (.Expr a pos) (yax sa) :=
 ycg (zjp ha hs) λD σ H=>E6x λι h en S er q=>⟨ι,h,en,S,er,q.go er λv h1 ι1 H1 u g1 S1 r1 q1=>q1 ι1 H1 σ S1.refl S1 (er.mono g1)⟩
theorem yao (ha:PEA T E X a sa):PSA T E X (.Return (some a) pos) (sRet sa) :=
 ycg (yha ha) λD σ H=>E6x λι h en S er q=>⟨ι,h,en,S,er,q.go er λv h1 ι1 H1 u g1 S1 r1 q1=>q1 ι1 H1 u S1.refl S1 r1⟩
theorem r_if (hc:PTA T E X a ca) (h1:PSsA T E X ss1 s1) (h2:PSsA T E X ss2 s2):PSA T E X (.If a ss1 ss2 pos) (sIf ca s1 s2) :=
 ycg (yiy hc h1 h2) λD σ H=>E6x λι h en S er q=>⟨ι,h,en,S,er,q.go er λx h1 ι1 H1 u g1 S1 r1 q1=>by
  subst r1
  by_cases hx:x=true
  ·rw [if_pos hx] at q1 ⊢
   exact ⟨ι1,h1,en,S1,er.mono g1,q1⟩
  ·rw [if_neg hx] at q1 ⊢
   exact ⟨ι1,h1,en,S1,er.mono g1,q1⟩⟩
theorem ygf {σ:St} {H:Hp} {D:Ends} {i:Nat} (q:tS T E (sSet i sa) D σ H):tAsg (tE T E sa) (ydc i) D σ H:=by
 obtain ⟨ι,h,en,S,er,q⟩:=q
 exact ⟨ι,h,en,S,er,q.go er λv h1 ι1 H1 u g1 S1 r1 q1=>q1 ι1 H1 _ S1.refl S1 ((er.mono g1).set r1 i)⟩
theorem yan {i:Nat} {x:Str} {p':Pos} (hN:X.N.Nodup) (ha:PEA T E X a sa) (hi:X.N[i]? = some x:=by rfl) (hx:Loc X.env.scope x:=by first | exact Or.inl rfl | exact Or.inr rfl) (hs:swapsWith a (some (.Name x p')) pos.line X.env=pure false:=by rfl)
  (hf:X.fn x=true\/X.env.scope.names.lookup x=some .local:=by first | exact .inl rfl | exact .inr rfl | assumption):PSA T E X (.Assign [.Name x p'] a pos) (sSet i sa) :=
 ycg (yhc hN hi hx ha hs hf) λD σ H q=>ygf q
theorem zjU (n:Nat) (hc:PTA T EN X.nox a ca) (hb:PSsA T EN X.nox sts s1):PSA T E X (.While a sts [] pos) (ybX ca s1 n) :=
 ycg (ygd (zik PassesOwn.never hc hb)) λD σ H=>E6x λι h en S er q=>by
  refine ⟨λm σ H=>∃ ι h en,Sim T ι h H/\ER T ι H en σ/\PostS T ι H E (ybX ca s1 m en h) D,⟨n,ι,h,en,S,er,q⟩,?_⟩
  rintro m σ H ⟨ι,h,en,S,er,q⟩
  cases m with
  | zero=>exact (show False from q).elim
  | succ m =>
   unfold ybX at q
   refine ⟨ι,h,en,S,er,?_⟩
   cases e:ca en h with
   | bad=>rw [e] at q;exact q
   | ex c h1=>rw [e] at q;exact (show False from q).elim
   | ok x h1 =>
    rw [e] at q
    intro ι1 H1 u g1 S1 r1
    subst r1
    have q1:=PostS.shift q g1
    cases x with
    | true =>
     rw [if_pos rfl]
     refine ⟨λσ H=>∃ ι h en,Sim T ι h H/\ER T ι H en σ/\PostS T ι H E (ybX ca s1 m en h) D,λσ' H' w=>⟨m,Nat.lt_succ_self m,w⟩,ι1,h1,en,S1,er.mono g1,?_⟩
     dsimp only at q1
     cases e2:s1 en h1 with
     | nx e3 h3=>rw [e2] at q1;exact λι2 H2 σ2 g2 S2 er2=>⟨ι2,h3,e3,S2,er2,q1.shift g2⟩
     | ct e3 h3=>rw [e2] at q1;exact λι2 H2 σ2 g2 S2 er2=>⟨ι2,h3,e3,S2,er2,q1.shift g2⟩
     | bk e3 h3=>rw [e2] at q1;exact q1
     | rt v h3=>rw [e2] at q1;exact q1
     | ex c e3 h3=>rw [e2] at q1;exact (show False from q1).elim
     | bad=>rw [e2] at q1;exact q1
    | false =>
     rw [if_neg Bool.false_ne_true]
     exact q1 ι1 H1 σ S1.refl S1 (er.mono g1)
theorem zd3 {ι:Ix} {H:Hp}:∀ {is:List Nat} {xs:List AV} {us:List V} {en e:En} {σ:St},RVs T ι H xs us->ER T ι H en σ->yeY is xs en=some e->ER T ι H e ((is.zip us).foldl (λσ p=>σ.set p.1 (some p.2)) σ)/\us.length=is.length
 | [],_,_,en,e,σ,.nil,er,q=>by cases q;exact ⟨er,rfl⟩
 | i::is,_,_,en,e,σ,.cons r rs,er,q=>by
  obtain ⟨h1,h2⟩:=zd3 (is:=is) rs (er.set r i) q
  exact ⟨h1,by simp [h2]⟩
 | [],_,_,en,e,σ,.cons r rs,er,q=>by cases q
 | i::is,_,_,en,e,σ,.nil,er,q=>by cases q
def PGA (T:Tb) (X:Cx) (tg:Expr) (t:Tg):Prop:=∃ g,PG X tg g/\∀ {ι:Ix} {h:AH} {H:Hp} {en e:En} {σ:St} {v:AV} {u:V} {Q:St->Hp->Prop},Sim T ι h H->ER T ι H en σ->RV T ι H v u->setT t v en=some e ->
 (∀ σ',ER T ι H e σ'->Q σ' H)->g u σ H Q
theorem zaQ {i:Nat} {x:Str} (hN:X.N.Nodup) (hi:X.N[i]? = some x:=by rfl) (hx:Loc X.env.scope x:=by first | exact Or.inl rfl | exact Or.inr rfl) (hf:X.fn x=true\/X.env.scope.names.lookup x=some .local:=by first | exact .inl rfl | exact .inr rfl | assumption) :
  PGA T X (.Name x pos) (.nm i):=⟨_,zdr hN hi hx hf,λS er r e k=>by cases e;exact k _ (er.set r i)⟩
def PGsA (X:Cx) (es:List Expr) (is:List Nat):Prop:=PGs X es (λvs σ H Q=>vs.length=is.length/\Q ((is.zip vs).foldl (λσ p=>σ.set p.1 (some p.2)) σ) H)
theorem zf3 {X:Cx} {es:List Expr} {t t':TGs} (h:PGs X es t) (k:∀ vs σ H Q,t' vs σ H Q->t vs σ H Q):PGs X es t' := λpins s σ H vs us Q I r q=>h pins s σ H vs us Q I r (k vs σ H Q q)
theorem zbd:PGsA X [] []:=zf3 zfM λvs σ H Q ⟨l,q⟩=>by
 cases vs with
 | nil=>exact ⟨rfl,q⟩
 | cons=>cases l
theorem zaB {i:Nat} {is:List Nat} {x:Str} {p:Pos} {es:List Expr} (hN:X.N.Nodup) (hr:PGsA X es is) (hi:X.N[i]? = some x:=by rfl) (hx:Loc X.env.scope x:=by first | exact Or.inl rfl | exact Or.inr rfl)
  (hf:X.fn x=true\/X.env.scope.names.lookup x=some .local:=by first | exact .inl rfl | exact .inr rfl | assumption) (hs:(assignEach (.Name x p::es) X.env).map (·.2)=assign (.Name x p) X.env::(assignEach es X.env).map (·.2):=by rfl):PGsA X (.Name x p::es) (i::is) :=
 zf3 (zcI (zdr hN hi hx hf) hr hs) λvs σ H Q ⟨l,q⟩=>by
  cases vs with
  | nil=>cases l
  | cons v r=>exact ⟨v,r,rfl,Nat.succ.inj l,q⟩
theorem yeb {es:List Expr} {is:List Nat} {k:Nat} (hK:X.K=T.K) (hc:X.calm=true) (h:PGsA X es is) (hn:(assignEach es X.env).length=is.length:=by rfl) (hst:(assignEach es X.env).findIdx? (·.1)=none:=by rfl):PGA T X (.Tuple es k pos) (.tup is) :=
 ⟨_,yfW hc h hn hst,λ{ι h H en e σ v u Q} S er r q k=>by
  unfold setT at q
  split at q
  ·rename_i hh;cases hh
  ·rename_i hh
   cases hh
   obtain ⟨a,us,rfl,q1,r1⟩:=ydj r
   obtain ⟨h1,h2⟩:=zd3 r1 er q
   exact ⟨a,us,rfl,hK▸q1,h2,h2,k _ h1⟩
  ·rename_i hh;cases hh
  ·cases q⟩
theorem yhJ {tg:Expr} {t:Tg} (ha:PEA T E X a sa) (hg:PGA T X tg t) (hs:swapsWithSole [tg] a pos.line X.env=pure false:=by rfl) (hw:swappedStores [tg] a X.env=pure none:=by rfl)
  (h1:(assignEach [tg] X.env).map (·.2)=[assign tg X.env]:=by rfl):PSA T E X (.Assign [tg] a pos) (ygG t sa):=by
 obtain ⟨g,hg1,hg2⟩:=hg
 refine ycg (yfX ha hg1 hs hw h1) λD σ H=>E6x λι h en S er q=>⟨ι,h,en,S,er,q.go er λv h1 ι1 H1 u g1 S1 r1 q1=>?_⟩
 split at q1
 ·rename_i e he
  exact hg2 S1 (er.mono g1) r1 he λσ' er' => q1 ι1 H1 σ' S1.refl S1 er'
 ·exact q1.elim
structure ItG (T:Tb) (J:It) (ι:Ix) (H:Hp) (ys:List AV) (L:AH->Bool):Prop where
 go:∀ (i:Nat) (ι':Ix) (h':AH) (H':Hp) (x:AV),Ext ι H ι' H'->Sim T ι' h' H'->L h'=true->ys[i]? = some x->J.go i H'/\∀ u H2,J.yld i H' u H2->Grow ι' H' ι' H2/\Sim T ι' h' H2/\RV T ι' H2 x u
 stop:∀ (i:Nat) (ι':Ix) (h':AH) (H':Hp),Ext ι H ι' H'->Sim T ι' h' H'->L h'=true->ys.length<=i->J.stop i H'
abbrev ItR (T:Tb) (J:It) (ι:Ix) (H:Hp) (xs:List AV) (w:Option Nat):Prop:=ItG T J ι H xs (ybV w xs)
def tI (T:Tb) (it:SI):TI:=λσ H R=>∃ ι h en,Sim T ι h H/\ER T ι H en σ/\match it en h with
 | .ok (xs,w) h' => ∀ ι' H' J,Grow ι H ι' H'->Sim T ι' h' H'->ItR T J ι' H' xs w->R J H'
 | _=>False
abbrev PIA (T:Tb) (X:Cx) (tg iter:Expr) (it:SI):Prop:=PI X tg iter (tI T it)
theorem yez {X:Cx} {tg iter:Expr} {t t':TI} (h:PI X tg iter t) (k:∀ σ H R,t' σ H R->t σ H R):PI X tg iter t' := λpins s σ H R I q=>h pins s σ H R I (k σ H R q)
theorem PI.or {X:Cx} {tg iter:Expr} {t t':TI} (h:PI X tg iter t) (h':PI X tg iter t'):PI X tg iter (λσ H R=>t σ H R\/t' σ H R):=λpins s σ H R I q=>q.elim (h pins s σ H R I) (h' pins s σ H R I)
theorem ygg {ι:Ix} {H:Hp} {a:Addr} {us:List V} {xs:List AV} {K:PySem.W.Frag} (keep:∀ (ι':Ix) (H':Hp),Ext ι H ι' H'->SqL K H' a us) (r:RVs T ι H xs us):ItR T (Itl K a) ι H xs none:=by
 constructor
 ·intro i ι' h' H' x g S _ e
  obtain ⟨u,e1,r1⟩:=(r.ext g).get e
  refine ⟨⟨us,u,keep ι' H' g,e1⟩,?_⟩
  rintro u2 H2 ⟨rfl,y⟩
  have z:=y us (keep ι' _ g)
  rw [e1] at z;cases z
  exact ⟨S.refl,S,r1⟩
 ·intro i ι' h' H' g S _ hl
  exact ⟨us,keep ι' H' g,by rw [<- r.length];exact hl⟩
theorem yhK {ι:Ix} {H:Hp} {a:Addr} {us:List V} {xs:List AV} {K:PySem.W.Frag} (keep:∀ (ι':Ix) (H':Hp),Ext ι H ι' H'->SqT K H' a us) (r:RVs T ι H xs us):ItR T (Itt K a) ι H xs none:=by
 constructor
 ·intro i ι' h' H' x g S _ e
  obtain ⟨u,e1,r1⟩:=(r.ext g).get e
  refine ⟨⟨us,u,keep ι' H' g,e1⟩,?_⟩
  rintro u2 H2 ⟨rfl,y⟩
  have z:=y us (keep ι' _ g)
  rw [e1] at z;cases z
  exact ⟨S.refl,S,r1⟩
 ·intro i ι' h' H' g S _ hl
  exact ⟨us,keep ι' H' g,by rw [<- r.length];exact hl⟩
theorem zjV {ι:Ix} {H:Hp} {a:Addr} {n:Nat} {xs:List AV} {K:PySem.W.Frag} (e:ι.refs[n]? = some a):ItR T (Itl K a) ι H xs (some n):=by
 have at_:∀ {ι':Ix} {h':AH} {H':Hp},Ext ι H ι' H'->Sim T ι' h' H'->ybV (some n) xs h'=true->∃ us,H' a=some (.lst us)/\RVs T ι' H' xs us:=λ{ι' h' H'} g S l=>by
  unfold ybV at l
  dsimp only at l
  split at l
  ·rename_i ys hy
   have z:=of_decide_eq_true l
   subst z
   obtain ⟨u,e1,us,rfl,r⟩:=S.obj n _ a hy (g.at_ e)
   exact ⟨us,e1,r⟩
  ·cases l
 constructor
 ·intro i ι' h' H' x g S l e
  obtain ⟨us,e0,r⟩:=at_ g S l
  obtain ⟨u,e1,r1⟩:=r.get e
  refine ⟨⟨us,u,.of e0,e1⟩,?_⟩
  rintro u2 H2 ⟨rfl,y⟩
  have z:=y us (.of e0)
  rw [e1] at z;cases z
  exact ⟨S.refl,S,r1⟩
 ·intro i ι' h' H' g S l hl
  obtain ⟨us,e0,r⟩:=at_ g S l
  exact ⟨us,.of e0,by rw [<- r.length];exact hl⟩
theorem zjW {ι:Ix} {H:Hp} {x:Str} (o:x.cps.all (· < 0x110000)=true):ItR T (Its x) ι H (x.cps.toList.map λc=>.str ⟨#[c]⟩) none:=by
 constructor
 ·intro i ι' h' H' y g S _ e
  rw [List.getElem?_map] at e
  obtain ⟨c,e1,rfl⟩:=Option.map_eq_some_iff.mp e
  have hi:i<x.cps.size:=by
   have:=(List.getElem?_eq_some_iff.mp e1).1
   simpa using this
  refine ⟨hi,?_⟩
  rintro u H2 ⟨rfl,c',e2,rfl⟩
  have z:x.cps[i]? = some c:=by simpa using e1
  rw [e2] at z;cases z
  refine ⟨S.refl,S,.str (show 1<=sizeLine by decide) ?_⟩
  have m:=Array.mem_of_getElem? e2
  have:=Array.all_eq_true_iff_forall_mem.mp o _ m
  simpa using this
 ·intro i ι' h' H' g S _ hl
  show x.cps.size<=i
  simpa using hl
theorem zgV (n:Nat):∀ (lo:Int) (i:Nat),(yaX lo n)[i]? = if i<n then some (.int (lo+i)) else none:=by
 induction n with
 | zero=>intro lo i;simp [yaX]
 | succ n ih =>
  intro lo i
  cases i with
  | zero=>simp [yaX]
  | succ i =>
   show (yaX (lo+1) n)[i]? = _
   rw [ih]
   by_cases h:i<n
   ·rw [if_pos h,if_pos (by lia)]
    congr 2
    show lo+1+(i:Int)=lo+((i+1:Nat):Int)
    lia
   ·rw [if_neg h,if_neg (by lia)]
theorem zem (n:Nat):∀ lo:Int,(yaX lo n).length=n:=by
 induction n with
 | zero=>intro lo;rfl
 | succ n ih=>intro lo;show (yaX (lo+1) n).length+1=n+1;rw [ih]
theorem zhO {ι:Ix} {H:Hp} {lo:Int} {n:Nat}:ItR T (Itr lo n) ι H (yaX lo n) none:=by
 constructor
 ·intro i ι' h' H' y g S _ e
  rw [zgV] at e
  split at e
  ·rename_i hi
   cases e
   refine ⟨hi,?_⟩
   rintro u H2 ⟨rfl,rfl⟩
   exact ⟨S.refl,S,.int _⟩
  ·cases e
 ·intro i ι' h' H' g S _ hl
  rw [zem] at hl
  exact hl
theorem numbered_get:∀ (xs:List AV) (k i:Nat),(numbered k xs)[i]? = (xs[i]?).map λx=>.tup [.int ((k+i:Nat):Int),x]
 | [],k,i=>by simp [numbered]
 | x::xs,k,0=>by simp [numbered]
 | x::xs,k,i+1=>by
  show (numbered (k+1) xs)[i]? = _
  rw [numbered_get xs (k+1) i]
  show _=(xs[i]?).map _
  congr 1
  funext y
  rw [show k+1+i=k+(i+1) by lia]
theorem zbo:∀ (xs:List AV) (k:Nat),(numbered k xs).length=xs.length
 | [],_=>rfl
 | x::xs,k=>by show (numbered (k+1) xs).length+1=_;rw [zbo xs];rfl
theorem zeO {ι:Ix} {H:Hp} {a:Addr} {us:List V} {xs:List AV} {K:PySem.W.Frag} (keep:∀ (ι':Ix) (H':Hp),Ext ι H ι' H'->SqL K H' a us) (r:RVs T ι H xs us):ItR T (Ite K a) ι H (numbered 0 xs) none:=by
 constructor
 ·intro i ι' h' H' x g S _ e
  rw [numbered_get] at e
  obtain ⟨y,e0,rfl⟩:=Option.map_eq_some_iff.mp e
  obtain ⟨u,e1,r1⟩:=(r.ext g).get e0
  refine ⟨⟨us,u,keep ι' H' g,e1⟩,?_⟩
  rintro u2 H2 ⟨t,y2,rfl,hn,rfl,hy⟩
  have z:=hy us (keep ι' _ g)
  rw [e1] at z;cases z
  have g2:=S.growNew (o:=.tup [.int i,u]) hn
  refine ⟨g2,S.new hn,.tup (S.fresh hn) zax (.cons ?_ (.cons (r1.mono g2) .nil))⟩
  rw [Nat.zero_add]
  exact .int _
 ·intro i ι' h' H' g S _ hl
  rw [zbo] at hl
  exact ⟨us,keep ι' H' g,by rw [<- r.length];exact hl⟩
theorem ygK {ι:Ix} {H:Hp} {a:Addr} {us:List V} (n:a∉ι.all) (h:Rd H a (.lst us)):∀ (ι':Ix) (H':Hp),Ext ι H ι' H'->SqL T.K H' a us:=λ_ _ g=>.inl (zfY g n h)
theorem yiW {ι:Ix} {H:Hp} {a:Addr} {us:List V} (n:a∉ι.all) (h:H a=some (.tup us)):∀ (ι':Ix) (H':Hp),Ext ι H ι' H'->SqT T.K H' a us:=λ_ _ g=>.of (g.keep _ _ n h)
theorem ye2 {K K':PySem.W.Frag} {H:Hp} {a:Addr} {us:List V} (e:K=K') (h:SqL K' H a us):SqL K H a us:=e▸h
theorem yfp {σ:St} {H:Hp} {R:It->Hp->Prop} {ι:Ix} {h h1:AH} {en:En} {v:AV} {xs:List AV} {w:Option Nat} (hK:X.K=T.K) (S:Sim T ι h H) (er:ER T ι H en σ) (e:sa en h = .ok v h1) (hv:(v = .fl xs/\w=none)\/∃ n,v = .ref n/\h1[n]? = some (.lst xs)/\w=some n)
  (q:∀ ι' H' J,Grow ι H ι' H'->Sim T ι' h1 H'->ItR T J ι' H' xs w->R J H'):ygz X.K (tE T E sa) σ H R:=by
 refine ⟨ι,h,en,S,er,?_⟩
 rw [e]
 intro ι1 H1 u g1 S1 r1
 rcases hv with ⟨rfl,rfl⟩ | ⟨n,rfl,hn,rfl⟩
 ·cases r1 with
  | fl n hr rs=>exact ⟨_,rfl,⟨_,ye2 hK (.inl hr)⟩,q ι1 H1 _ g1 S1 (hK▸ygg (ygK n hr) rs)⟩
  | kfl hr rs=>exact ⟨_,rfl,⟨_,ye2 hK (.inr hr)⟩,q ι1 H1 _ g1 S1 (hK▸ygg (λ_ _ _=>.inr hr) rs)⟩
 ·cases r1 with
  | ref hr =>
   obtain ⟨u,e1,us,rfl,rs⟩:=S1.obj n _ _ hn hr
   exact ⟨_,rfl,⟨_,.of e1⟩,q ι1 H1 _ g1 S1 (zjV hr)⟩
theorem ygL {σ:St} {H:Hp} {R:It->Hp->Prop} {ι:Ix} {h h1:AH} {en:En} {xs:List AV} (hK:X.K=T.K) (S:Sim T ι h H) (er:ER T ι H en σ) (e:sa en h = .ok (.tup xs) h1)
  (q:∀ ι' H' J,Grow ι H ι' H'->Sim T ι' h1 H'->ItR T J ι' H' xs none->R J H'):iTup X.K (tE T E sa) σ H R:=by
 refine ⟨ι,h,en,S,er,?_⟩
 rw [e]
 intro ι1 H1 u g1 S1 r1
 cases r1 with
 | tup n hr rs=>exact ⟨_,rfl,⟨_,.of hr⟩,q ι1 H1 _ g1 S1 (hK▸yhK (yiW n hr) rs)⟩
theorem zbe {tg:Expr} (hK:X.K=T.K) (ha:PEA T E X a sa):PIA T X tg a (ybz sa) :=
 yez (PI.or (zfN ha) (yfY ha)) λσ H R=>E6x λι h en S er q=>by
  unfold ybz at q
  cases e:sa en h with
  | bad=>rw [e] at q;exact q.elim
  | ex c h1=>rw [e] at q;exact q.elim
  | ok v h1 =>
   rw [e] at q
   cases v with
   | fl xs=>exact .inl (yfp hK S er e (.inl ⟨rfl,rfl⟩) q)
   | tup xs=>exact .inr (ygL hK S er e q)
   | ref n =>
    dsimp only [Out.bind] at q
    cases e2:h1[n]? with
    | none=>rw [e2] at q;exact q.elim
    | some o =>
     rw [e2] at q
     cases o with
     | lst xs=>exact .inl (yfp hK S er e (.inr ⟨n,rfl,e2,rfl⟩) q)
     | _=>exact q.elim
   | _=>exact q.elim
theorem ycO {y:Str} {py:Pos} (hK:X.K=T.K) (ha:PEA T E X a sa):PIA T X (.Name y py) a (iVal sa) :=
 yez (PI.or (zfN ha) (PI.or (yfY ha) (yhC ha))) λσ H R=>E6x λι h en S er q=>by
  unfold iVal at q
  cases e:sa en h with
  | bad=>rw [e] at q;exact q.elim
  | ex c h1=>rw [e] at q;exact q.elim
  | ok v h1 =>
   rw [e] at q
   cases v with
   | fl xs=>exact .inl (yfp hK S er e (.inl ⟨rfl,rfl⟩) q)
   | tup xs=>exact .inr (.inl (ygL hK S er e q))
   | str z =>
    refine .inr (.inr ⟨ι,h,en,S,er,?_⟩)
    rw [e]
    intro ι1 H1 u g1 S1 r1
    obtain ⟨rfl,_,o⟩:=ybf r1
    exact ⟨_,rfl,q ι1 H1 _ g1 S1 (zjW o)⟩
   | ref n =>
    dsimp only [Out.bind] at q
    cases e2:h1[n]? with
    | none=>rw [e2] at q;exact q.elim
    | some o =>
     rw [e2] at q
     cases o with
     | lst xs=>exact .inl (yfp hK S er e (.inr ⟨n,rfl,e2,rfl⟩) q)
     | _=>exact q.elim
   | _=>exact q.elim
theorem zbp {tg:Expr} {p:Pos} (hg:Gl X "range") (hm:X.mg "range" = none) (ha:PEA T E X a sa) (hs:starEach [a] X.env=[(false,eval a X.env)]:=by rfl):PIA T X tg (.Call (.Name "range" p) [a] [] pos) (ycq sa) :=
 yez (zhi hg hm (zaa ha yac hs) hs) λσ H R=>E6x λι h en S er q=>by
  unfold ycq at q
  refine ⟨ι,h,en,S,er,?_⟩
  unfold yab
  cases e:sa en h with
  | bad=>rw [e] at q;exact q
  | ex c h1=>rw [e] at q;exact q.elim
  | ok v h1 =>
   rw [e] at q
   intro ι1 H1 u g1 S1 r1
   dsimp only [Out.bind] at q
   cases v with
   | int j =>
    dsimp only at q
    split at q
    ·rename_i hx
     split at hx
     ·rename_i hb
      cases hx
      cases r1 with
      | cons r r' =>
       cases r'
       rw [yaC r]
       exact ⟨j,rfl,by lia,by lia,q ι1 H1 _ g1 S1 zhO⟩
     ·cases hx
    ·exact q.elim
   | _=>exact q.elim
theorem zjX {p tp:Pos} {es:List Expr} {k:Nat} (hK:X.K=T.K) (hg:Gl X "enumerate") (hm:X.mg "enumerate" = none) (ha:PEA T E X a sa) (hs:starEach [a] X.env=[(false,eval a X.env)]:=by rfl):PIA T X (.Tuple es k tp) (.Call (.Name "enumerate" p) [a] [] pos) (Sm.iEnum sa) :=
 yez (zjE hg hm (zaa ha yac hs) hs) λσ H R=>E6x λι h en S er q=>by
  unfold Sm.iEnum at q
  refine ⟨ι,h,en,S,er,?_⟩
  unfold yab
  cases e:sa en h with
  | bad=>rw [e] at q;exact q
  | ex c h1=>rw [e] at q;exact q.elim
  | ok v h1 =>
   rw [e] at q
   intro ι1 H1 u g1 S1 r1
   dsimp only [Out.bind] at q
   cases v with
   | fl xs =>
    cases r1 with
    | cons r r' =>
     cases r'
     cases r with
     | fl n hr rs=>exact ⟨_,rfl,⟨_,ye2 hK (.inl hr)⟩,q ι1 H1 _ g1 S1 (hK▸zeO (ygK n hr) rs)⟩
     | kfl hr rs=>exact ⟨_,rfl,⟨_,ye2 hK (.inr hr)⟩,q ι1 H1 _ g1 S1 (hK▸zeO (λ_ _ _=>.inr hr) rs)⟩
   | _=>exact q.elim
theorem zd4 {α:Type} {xs:List α} {i:Nat} (h:i<xs.length):xs.drop i=xs[i]::xs.drop (i+1):=by simp
def yhL (g:TG) (tb:TS) (D:Ends) (σ:St) (H1:Hp) (J:It):Prop:=∃ W:Nat->Nat->St->Hp->Prop,(∃ m,W 0 m σ H1)/\∀ i m σ H,W i m σ H->(J.stop i H/\D.nx σ H)\/(J.go i H/\∃ N:St->Hp->Prop,(∀ σ' H',N σ' H'->∃ m',m'<m/\W (i+1) m' σ' H')/\∀ x H',J.yld i H x H'->g x σ H' λσ' H'' => tb { D with nx:=N,ct:=N,bk:=D.nx } σ' H'')
theorem zhP {g:TG} {t:Tg} {J:It} {ι1:Ix} {h1:AH} {H1:Hp} {en:En} {σ:St} {D:Ends} {w:Option Nat} {all ys:List AV}
  (hg2:∀ {ι:Ix} {h:AH} {H:Hp} {en e:En} {σ:St} {v:AV} {u:V} {Q:St->Hp->Prop},Sim T ι h H->ER T ι H en σ->RV T ι H v u->setT t v en=some e->(∀ σ',ER T ι H e σ'->Q σ' H)->g u σ H Q)
  (S1:Sim T ι1 h1 H1) (er:ER T ι1 H1 en σ) (IR:ItG T J ι1 H1 ys (ybV w all)) (q:PostS T ι1 H1 E (ybu w all t s1 ys en h1) D):yhL g (tS T EN s1) D σ H1 J:=by
 refine ⟨λi m σ H=>m=ys.length-i/\i<=ys.length/\∃ ι' h' en',Grow ι1 H1 ι' H/\Sim T ι' h' H/\ER T ι' H en' σ/\PostS T ι' H E (ybu w all t s1 (ys.drop i) en' h') D,
  ⟨ys.length,by simp,Nat.zero_le _,ι1,h1,en,S1.refl,S1,er,q⟩,?_⟩
 rintro i m σ H ⟨rfl,hi,ι',h',en',g',S',er',q'⟩
 by_cases hl:i<ys.length
 ·rw [zd4 hl] at q'
  unfold ybu at q'
  split at q'
  ·rename_i hlive
   obtain ⟨go,yld⟩:=IR.go i ι' h' H ys[i] g'.ext S' hlive (by simp [hl])
   refine .inr ⟨go,λσ H=>∃ ι' h' en',Grow ι1 H1 ι' H/\Sim T ι' h' H/\ER T ι' H en' σ/\PostS T ι' H E (ybu w all t s1 (ys.drop (i+1)) en' h') D,
    λσ' H' w' => ⟨ys.length-(i+1),by lia,rfl,hl,w'⟩,λx H' y=>?_⟩
   obtain ⟨g2,S2,r2⟩:=yld x H' y
   split at q'
   ·rename_i e1 he1
    refine hg2 S2 (er'.mono g2) r2 he1 λσ' er2=>⟨ι',h',e1,S2,er2,?_⟩
    have q2:=PostS.shift q' g2
    cases e2:s1 e1 h' with
    | nx e3 h3=>rw [e2] at q2;exact λι3 H3 σ3 g3 S3 er3=>⟨ι3,h3,e3,g'.trans (g2.trans g3),S3,er3,q2.shift g3⟩
    | ct e3 h3=>rw [e2] at q2;exact λι3 H3 σ3 g3 S3 er3=>⟨ι3,h3,e3,g'.trans (g2.trans g3),S3,er3,q2.shift g3⟩
    | bk e3 h3=>rw [e2] at q2;exact q2
    | rt v h3=>rw [e2] at q2;exact q2
    | ex c e3 h3=>rw [e2] at q2;exact (show False from q2).elim
    | bad=>rw [e2] at q2;exact q2
   ·exact (show False from q').elim
  ·exact (show False from q').elim
 ·have ei:i=ys.length:=by lia
  subst ei
  rw [List.drop_length] at q'
  unfold ybu at q'
  split at q'
  ·rename_i hlive
   exact .inl ⟨IR.stop _ ι' h' H g'.ext S' hlive (Nat.le_refl _),q' ι' H σ S'.refl S' er'⟩
  ·exact (show False from q').elim
theorem ycr {tg iter:Expr} {it:SI} {t:Tg} (hc:X.calm=true) (hi:PIA T X.nox tg iter it) (hg:PGA T X.nox tg t) (hb:PSsA T EN X.nox sts s1) (hs:∀ x,foldedSetIterable iter X.nox.env x=pure x:=by intro _;rfl) :
  PSA T E X (.For tg iter sts [] pos) (sFor it t s1):=by
 obtain ⟨g,hg1,hg2⟩:=hg
 refine ycg (ygd (yhe PassesOwn.never hc hi hg1 hb hs)) λD σ H=>E6x λι h en S er q=>⟨ι,h,en,S,er,?_⟩
 unfold sFor at q
 cases e:it en h with
 | bad=>rw [e] at q;exact q
 | ex c h1=>rw [e] at q;exact q
 | ok p h1 =>
  obtain ⟨xs,w⟩:=p
  rw [e] at q
  intro ι1 H1 J g1 S1 IR
  exact zhP hg2 S1 (er.mono g1) IR (PostS.shift q g1)
theorem ER.comp {ι:Ix} {H:Hp} {en:En} {σ:St} {ys:List AV} {us:List V} {jf:List (Nat×Str)} (er:ER T ι H en σ) (r:RVs T ι H ys us):ER T ι H (ys.map some++(jf.map (·.1)).map λj=>(en[j]?).join) (ybt (us.map some) jf σ):=by
 unfold ybt
 induction ys generalizing us with
 | nil =>
  cases r
  refine ⟨by simp,λi v e=>?_⟩
  simp only [List.map_nil,List.nil_append,List.getElem?_map] at e ⊢
  cases e1:jf[i]? with
  | none=>rw [e1] at e;cases e
  | some j =>
   rw [e1] at e
   simp only [Option.map_some,Option.some.injEq] at e
   have e2:en[j.1]? = some (some v):=by
    cases e3:en[j.1]? with
    | none=>rw [e3] at e;cases e
    | some o=>rw [e3] at e;exact congrArg some e
   obtain ⟨u',e4,r'⟩:=er.2 j.1 v e2
   exact ⟨u',by simp [e4],r'⟩
 | cons y ys ih =>
  cases r with
  | cons r rs =>
   obtain ⟨h1,h2⟩:=ih rs
   refine ⟨congrArg Nat.succ h1,λi v e=>?_⟩
   cases i with
   | zero=>cases e;exact ⟨_,rfl,r⟩
   | succ i=>exact h2 i v e
def UnOk (T:Tb) (k:Nat) (g:TG) (cc' cc:SB) (ce' ce:SE):Prop:=∀ x,(∀ r h,cc' (some x::r) h = .bad)\/∃ ys:List AV,ys.length=k/\(∀ r h,cc' (some x::r) h=cc (ys.map some++r) h)/\(∀ r h,ce' (some x::r) h=ce (ys.map some++r) h) /\
 ∀ (ι:Ix) (H:Hp) (u:V),RV T ι H x u->∃ us,RVs T ι H ys us/\∀ (σ:St) (Q:St->Hp->Prop),Q (us.map some++σ) H->g u (List.replicate k none++σ) H Q
theorem un1 {cc:SB} {ce:SE}:UnOk T 1 (ydc 0) cc cc ce ce:=λx=>.inr ⟨[x],rfl,λ_ _=>rfl,λ_ _=>rfl,λ_ _ u r=>⟨[u],.cons r .nil,λ_ _ q=>q⟩⟩
structure CoS (T:Tb) (ι1:Ix) (H1:Hp) (en:En) (σ:St) (D:Addr) (ι':Ix) (h':AH) (vs:List AV) (ys:List V) (H2:Hp):Prop where
 hD:H2 D=some (.lst ys)
 g:Grow ι1 H1 ι' H2
 x:Ext ι1 H1 (ι'.hide D) H2
 S:Sim T (ι'.hide D) h' H2
 er:ER T (ι'.hide D) H2 en σ
 rv:RVs T (ι'.hide D) H2 vs ys
 nD:D∉ι'.refs
theorem zf4 {ι' ι5:Ix} {D:Addr} (e:ι5.priv=(ι'.hide D).priv):ι5=Ix.hide ⟨ι5.refs,ι'.priv⟩ D:=by
 cases ι5
 simp only at e
 subst e
 rfl
theorem zhQ {ι1 ι' ι5:Ix} {H1 H2 H5:Hp} {D:Addr} (g':Grow ι1 H1 ι' H2) (g:Grow (ι'.hide D) H2 ι5 H5):Grow ι1 H1 ⟨ι5.refs,ι'.priv⟩ H5:=by
 obtain ⟨n,en1,hn⟩:=g'.pre
 obtain ⟨k,ek,hk⟩:=g.pre
 refine ⟨⟨n++k,?_,λa ha=>?_⟩,g'.priv,λa o na ea=>g.keep a o (g'.outR na ea) (g'.keep a o na ea),λa ha=>g.live a ?_⟩
 ·show ι5.refs=_;rw [ek];show ι'.refs++k=_;rw [en1,List.append_assoc]
 ·rcases List.mem_append.mp ha with z | z
  ·exact hn a z
  ·have z2:=hk a z
   by_cases hr:a∈ι1.refs
   ·exact absurd z2 (g'.live a (List.mem_append_left _ hr))
   ·cases e9:H1 a with
    | none=>rfl
    | some o=>rw [g'.keep a o hr e9] at z2;cases z2
 ·rcases List.mem_append.mp ha with z | z
  ·exact List.mem_append_left _ (by show a∈ι'.refs;rw [en1];exact List.mem_append_left _ z)
  ·exact List.mem_append_right _ (List.mem_cons_of_mem _ (by rw [g'.priv];exact z))
section
variable {ι ι1 ι' ι5:Ix} {H H1 H2 H5:Hp} {h1 h' h5:AH} {en:En} {σ:St} {D:Addr} {vs:List AV} {ys:List V}
theorem CoS.skip (c:CoS T ι1 H1 en σ D ι' h' vs ys H2) (g:Grow (ι'.hide D) H2 ι5 H5) (S:Sim T ι5 h5 H5):CoS T ι1 H1 en σ D ⟨ι5.refs,ι'.priv⟩ h5 vs ys H5:=by
 have e:=zf4 g.priv
 exact ⟨g.keep D _ c.nD c.hD,zhQ c.g g,e▸c.x.trans g.ext,e▸S,e▸c.er.mono g,e▸c.rv.mono g,g.outR c.nD c.hD⟩
theorem CoS.poke {v:AV} {u:V} (c:CoS T ι1 H1 en σ D ι' h' vs ys H2) (hD:H1 D=none) (r:RV T (ι'.hide D) H2 v u):CoS T ι1 H1 en σ D ι' h' (vs++[v]) (ys++[u]) (upd H2 D (.lst (ys++[u]))):=by
 refine ⟨zax,⟨c.g.pre,c.g.priv,λa o na ea=>by rw [yaF (zaw ea hD)];exact c.g.keep a o na ea,λa ha=>?_⟩,c.x.trans Ext.poke,Sim.poke c.S c.nD,ER.ext c.er Ext.poke,RVs.ext Ext.poke (c.rv.append (.cons r .nil)),c.nD⟩
 by_cases z:a=D
 ·subst z;rw [zax];simp
 ·rw [yaF z];exact c.g.live a ha
theorem CoS.push {v:AV} {u:V} (c:CoS T ι1 H1 en σ D ι' h' vs ys H2) (hD:H1 D=none) (g:Grow (ι'.hide D) H2 ι5 H5) (S:Sim T ι5 h5 H5) (r:RV T ι5 H5 v u):CoS T ι1 H1 en σ D ⟨ι5.refs,ι'.priv⟩ h5 (vs++[v]) (ys++[u]) (upd H5 D (.lst (ys++[u]))) :=
 (c.skip g S).poke hD ((zf4 g.priv)▸r)
theorem CoS.fin (c:CoS T ι1 H1 en σ D ι' h' vs ys H2) (g1:Grow ι H ι1 H1) (S1:Sim T ι1 h1 H1) (hD:H1 D=none):D∉ι'.all/\∀ n,ι'.refs=ι.refs++n->∀ a∈n++[D],H a=none:=by
 refine ⟨λz=>(List.mem_append.mp z).elim c.nD λz=>by rw [c.g.priv] at z;exact S1.plive D z hD,λn en1 a ha=>?_⟩
 obtain ⟨k,ek,hk⟩:=(g1.trans c.g).pre
 have:n=k:=List.append_cancel_left (en1.symm.trans ek)
 subst this
 rcases List.mem_append.mp ha with z | z
 ·exact hk a z
 ·have z':a=D:=by simpa using z
  subst z'
  cases e9:H a with
  | none=>rfl
  | some o =>
   by_cases hr:a∈ι.refs
   ·obtain ⟨k1,ek1,_⟩:=g1.pre
    exact absurd hD (S1.live a (List.mem_append_left _ (by rw [ek1];exact List.mem_append_left _ hr)))
   ·rw [g1.keep a o hr e9] at hD;cases hD
theorem CoS.start (er:ER T ι H en σ) (g1:Grow ι H ι1 H1) (S1:Sim T ι1 h1 H1) (hD:H1 D=none):CoS T ι1 H1 en σ D ι1 h1 [] [] (upd H1 D (.lst [])) :=
 ⟨zax,S1.growNew hD,Ext.hide hD,S1.hide hD,(er.mono g1).ext (Ext.hide hD),.nil,λz=>S1.fresh hD (List.mem_append_left _ z)⟩
end
def CoQ (T:Tb) (ι:Ix) (H:Hp) (Q:VK) (o:Out (List AV)):Prop:=match o with
 | .ok ys h2=>∀ ι' H' D vs,Grow ι H ι' H'->Sim T (ι'.hide D) h2 H'->RVs T (ι'.hide D) H' ys vs->H' D=some (.lst vs)->D∉ι'.all->(∀ n,ι'.refs=ι.refs++n->∀ a∈n++[D],H a=none)->Q (.ref D) H'
 | _=>False
theorem zjY {k:Nat} {g:TG} {cc' cc:SB} {ce' ce:SE} {jf:List (Nat×Str)} {σ:St} {H H1:Hp} {Q:VK} {ι ι1:Ix} {h1:AH} {en:En} {xs all:List AV} {w:Option Nat} {J:It} (U:UnOk T k g cc' cc ce' ce) (er:ER T ι H en σ) (g1:Grow ι H ι1 H1) (S1:Sim T ι1 h1 H1)
  (IR:ItG T J ι1 H1 xs (ybV w all)) (q:CoQ T ι H Q (ybb (jf.map (·.1)) en w all cc' ce' xs [] h1)):ygC k g jf (tT T EN cc) (tE T EN ce) σ Q J H1:=by
 intro D hD
 refine ⟨λi m ys H2=>m=xs.length-i/\i<=xs.length/\∃ ι' h' vs,CoS T ι1 H1 en σ D ι' h' vs ys H2/\CoQ T ι H Q (ybb (jf.map (·.1)) en w all cc' ce' (xs.drop i) vs h'),⟨xs.length,rfl,Nat.zero_le _,ι1,h1,[],CoS.start er g1 S1 hD,q⟩,?_⟩
 rintro i m ys H2 ⟨rfl,hi,ι',h',vs,c,q'⟩
 refine ⟨c.hD,?_⟩
 by_cases hl:i<xs.length
 ·rw [zd4 hl] at q'
  unfold ybb at q'
  by_cases hs:ybV w all h'=true/\vs.length<sizeLine
  ·rw [if_pos hs] at q'
   obtain ⟨go,yld⟩:=IR.go i _ h' H2 xs[i] c.x c.S hs.1 (by simp [hl])
   refine .inr ⟨go,by rw [<- c.rv.length];exact hs.2,λx H3 y=>?_⟩
   obtain ⟨g3,S3,r3⟩:=yld x H3 y
   rcases U xs[i] with z | ⟨zs,lz,z1,z2,z3⟩
   ·rw [z] at q';exact False.elim q'
   obtain ⟨us,rs,gq⟩:=z3 _ _ _ r3
   have er3:=ER.comp (jf:=jf) (c.er.mono g3) rs
   rw [z1] at q'
   refine ⟨us,by rw [<- rs.length];exact lz,gq _ _ ⟨rfl,rfl⟩,ι'.hide D,h',_,S3,er3,?_⟩
   cases ec:cc (zs.map some++(jf.map (·.1)).map λj=>(en[j]?).join) h' with
   | bad=>rw [ec] at q';exact q'
   | ex k h5=>rw [ec] at q';exact False.elim q'
   | ok bb h5 =>
    rw [ec] at q'
    intro ι5 H5 b5 g5 S5 r5
    subst r5
    cases bb with
    | false =>
     rw [if_neg Bool.false_ne_true]
     exact ⟨xs.length-(i+1),by lia,rfl,hl,_,h5,vs,c.skip (g3.trans g5) S5,q'⟩
    | true =>
     rw [if_pos rfl]
     refine ⟨ι5,h5,_,S5,er3.mono g5,?_⟩
     dsimp only at q'
     rw [z2] at q'
     cases ee:ce (zs.map some++(jf.map (·.1)).map λj=>(en[j]?).join) h5 with
     | bad=>rw [ee] at q';exact q'
     | ex k h6=>rw [ee] at q';exact False.elim q'
     | ok v h6 =>
      rw [ee] at q'
      intro ι6 H6 u6 g6 S6 r6
      have g36:=(g3.trans g5).trans g6
      exact ⟨g36.keep D _ c.nD c.hD,xs.length-(i+1),by lia,rfl,hl,_,h6,vs++[v],c.push hD g36 S6 r6,q'⟩
  ·rw [if_neg hs] at q';exact False.elim q'
 ·have ei:i=xs.length:=by lia
  subst ei
  rw [List.drop_length] at q'
  unfold ybb at q'
  by_cases hs:ybV w all h'=true
  ·rw [if_pos hs] at q'
   have f:=c.fin g1 S1 hD
   exact .inl ⟨IR.stop _ _ h' H2 c.x c.S hs (Nat.le_refl _),q' ι' H2 D ys (g1.trans c.g) c.S c.rv c.hD f.1 f.2⟩
  ·rw [if_neg hs] at q';exact False.elim q'
end
end Sm
namespace Sm
open PySem PySem.Spec L2
section
variable {T:Tb} {E:St->XK} {X:Cx} {pos px:Pos} {iter elt:Expr} {ifs:List Expr} {scope:Scope} {x₁:Str} {jf:List (Nat×Str)} {it:SI} {cc:SB} {ce:SE}
theorem yhM {ι:Ix} {H:Hp} {Q:VK} {F:XK} {o:Out (List AV)} (q:Post T ι H F (RV T) (match o with | .ok ys h2=>.ok (.fl ys) h2 | _=>.bad) Q):CoQ T ι H Q o:=by
 cases o with
 | bad=>exact q
 | ex c h1=>exact q.elim
 | ok ys h2=>exact λι' H' D vs g S' r hD nD _=>q ι' H' _ g S'.show (.fl nD (.inl hD) (r.ext Ext.show))
theorem zdv {k:Nat} {g:TG} {cc':SB} {ce':SE} {σ:St} {H:Hp} {Q:VK} (U:UnOk T k g cc' cc ce' ce) (q:tE T E (ybd (jf.map (·.1)) it cc' ce') σ H Q):yfl k g jf (tI T it) (tT T EN cc) (tE T EN ce) σ H Q:=by
 obtain ⟨ι,h,en,S,er,q⟩:=q
 refine ⟨ι,h,en,S,er,?_⟩
 unfold ybd at q
 cases e:it en h with
 | bad=>rw [e] at q;exact q
 | ex c h1=>rw [e] at q;exact q.elim
 | ok p h1=>rw [e] at q;exact λι1 H1 J g1 S1 IR=>zjY U er g1 S1 IR (yhM q)
theorem zbf:PTs X [] (tT T E sYes):=λpins s σ H Q I ⟨ι,h,en,S,er,q⟩=>zjF pins s σ H Q I (q.now S rfl)
theorem zdw {c:Expr} (hc:PTA T E X c cc):PTs X [c] (tT T E cc):=zjG hc
theorem yec (C:CompOk X [x₁] jf scope) (hcalm:X.calm=true) (hi:PIA T X (.Name x₁ px) iter it) (hc:∀ pins cl s H fp,PTs (yaT X pins [x₁] jf scope cl s H fp) ifs (tT T EN cc)) (he:∀ pins cl s H fp,PEA T EN (yaT X pins [x₁] jf scope cl s H fp) elt ce)
  (hs:∀ x,foldedSetIterable iter X.env x=pure x:=by intro _;rfl):PEA T E X (.ListComp elt [⟨.Name x₁ px,iter,ifs,0⟩] scope pos) (ybd (jf.map (·.1)) it cc ce) :=
 yaR (zfU hcalm (λ_ _ _ _ _=>C.pg 0 rfl (.head _)) hi hc he C hs) λ_ _ _ q=>zdv un1 q
theorem zjZ {y:Str} {py spos:Pos} {i:Nat} (C:CompOk X [x₁] jf scope) (hcalm:X.calm=true) (hi:PIA T X (.Name x₁ px) iter it) (hc:∀ pins cl s H fp,PTs (yaT X pins [x₁] jf scope cl s H fp) ifs (tT T EN cc)) (he:∀ pins cl s H fp,PEA T EN (yaT X pins [x₁] jf scope cl s H fp) elt ce)
  (hNX:X.N.Nodup) (hi':X.N[i]? = some y:=by rfl) (hy:X.env.scope.names.lookup y=some .local:=by rfl) (hsw:swapsWith (.ListComp elt [⟨.Name x₁ px,iter,ifs,0⟩] scope pos) (some (.Name y py)) spos.line X.env=pure true:=by rfl) (hs:∀ x,foldedSetIterable iter X.env x=pure x:=by intro _;rfl) :
  PSA T E X (.Assign [.Name y py] (.ListComp elt [⟨.Name x₁ px,iter,ifs,0⟩] scope pos) spos) (sSet i (ybd (jf.map (·.1)) it cc ce)) :=
 ycg (zjH hcalm (λ_ _ _ _ _=>C.pg 0 rfl (.head _)) hi hc he C hNX hi' hy hsw hs) λD σ H q=>zdv un1 (ygf q)
end
def spA (T:Tb) (F:Fn):Sp:=λvs H Q E=>∃ ι h args,Sim T ι h H/\RVs T ι H args vs/\Post T ι H E (RV T) (F args h) Q
def yiX (F:Fn) (n:Nat):Prop:=∀ args h,args.length≠n->F args h = .bad
theorem zdc (n m:Nat) (b:SS):yiX (mkFn n m b) n:=λargs h hl=>by
 unfold mkFn
 rw [if_neg hl]
theorem okA {P:Program} {w:World} {K:PySem.W.Frag} {mg:Str->Option Value} {base:Heap} {T:Tb} {x qual:Str} {st:Stmt} {f:Addr} {fd:FuncData} {N ps:List Str} {k:Nat} {b:SS} (F:Fun K x qual st f fd) (hK:K=T.K) (S:FnScope N ps (yaf st))
  (hbody:∀ (cdv:Value) (A:Around) (outer:List Env) (s:Shared) (H:Hp) (E:XK),Room k (A.deeper (PyProof.Rows.envOfC qual (yaf st) s.heap.objs.size f cdv))->CA T (λ_=>E) (cxOf (CXE P w) P w K mg base N qual (yaf st) f cdv A outer s H E) ->
   PSsA T (λ_=>E) (cxOf (CXE P w) P w K mg base N qual (yaf st) f cdv A outer s H E) (yb7 st) b):FnOk P w K mg base (CXE P w) (k+1) f fd ps (spA T (mkFn ps.length N.length b)):=by
 refine F.okE S (λvs H Q E h=>?_) (λcdv A outer s H vs Q E hr h=>?_)
 ·obtain ⟨ι,h,args,_,r,q⟩:=h
  by_cases hl:args.length=ps.length
  ·rw [<- hl,r.length]
  ·rw [zdc _ _ _ args h hl] at q;exact q.elim
 ·obtain ⟨ι,h,args,Si,r,q⟩:=h
  refine ⟨_,hbody cdv A outer s H E hr ⟨hK,zjM⟩,ι,h,args.map some++List.replicate (N.length-ps.length) none,Si,?_,?_⟩
  ·by_cases hl:args.length=ps.length
   ·refine ⟨by simp [L2.start,r.length,<- hl],λi v e=>?_⟩
    unfold L2.start
    by_cases hi:i<args.length
    ·rw [List.getElem?_append_left (by simpa using hi),List.getElem?_map] at e
     rw [List.getElem?_append_left (by simpa [<- r.length] using hi),List.getElem?_map]
     obtain ⟨x,e1,e2⟩:=Option.map_eq_some_iff.mp e
     cases e2
     obtain ⟨u,e3,r3⟩:=r.get e1
     exact ⟨u,by rw [e3];rfl,r3⟩
    ·rw [List.getElem?_append_right (by simpa using hi),List.getElem?_replicate] at e
     split at e
     ·cases e
     ·cases e
   ·rw [zdc _ _ _ args h hl] at q;exact q.elim
  ·unfold mkFn at q
   split at q
   ·split at q
    ·rename_i e1 h1 he
     rw [he]
     exact λι' H' σ' g S' er=>q ι' H' _ g S' .non
    ·rename_i v h1 he
     rw [he]
     exact q
    ·rename_i c e1 h1 he
     rw [he]
     exact λι' H' σ' C g S' er ec=>q ι' H' C g S' ec
    ·exact q.elim
   ·exact q.elim
structure GF (P:Program) (w:World) (T:Tb) (mg:Str->Option Value) (base:Heap) (k:Nat) (x:Str) (F:Fn):Prop where
 ex:∃ f fd ps,mg x=some (.ref f)/\PySem.W.keepIn T.K (.ref f)=true/\Binds T.K fd ps []/\FnOk P w T.K mg base (CXE P w) k f fd ps (spA T F)
structure GM (P:Program) (w:World) (T:Tb) (mg:Str->Option Value) (base:Heap) (k:Nat) (c:Nat) (m:Str) (F:Fn):Prop where
 ex:∃ C f fd ps,T.cls c=some C/\Cls T.K C/\Meth T.K C m f/\Binds T.K fd ps []/\FnOk P w T.K mg base (CXE P w) k f fd ps (spA T F)
 no:m∉T.fields c
section
variable {T:Tb} {E:St->XK} {X:Cx} {pos p apos:Pos} {e o a:Expr} {es:List Expr} {x m:Str} {F:Fn} {k c:Nat} {as:SL} {so sa:SE}
theorem yak (hK:X.K=T.K) (C:CA T E X) (G:GF X.prog X.w T X.mg X.base k x F) (hr:Room k X.A) (hg:Gl X x) (ha:PAA T E X (e::es) as) (hdb:(x == ("__debug__" : Str))=false:=by decide)
  (he:starEach (e::es) X.env=(false,eval e X.env)::starEach es X.env:=by rfl) (hpl:(backTo pos (starEach es X.env)).any (·.1)=false:=by rfl):PEA T E X (.Call (.Name x p) (e::es) [] pos) (yae F as):=by
 obtain ⟨f,fd,ps,h1,h2,h3,h4⟩:=G.ex
 refine yaR (ziM (Ex:=E) (dvs:=[]) (hK▸h4) hr hg h1 (hK▸h2) (hK▸h3) .nil C.pass ha hdb he hpl) λσ H Q=>E6x λι h en S er q=>⟨ι,h,en,S,er,q.bind λxs h1 ι1 H1 us g1 S1 r1 q1=>?_⟩
 rw [List.append_nil]
 exact ⟨ι1,h1,xs,S1,r1,q1⟩
theorem zf5 {C:Addr} {σ:St} {H:Hp} {Q:VK} (hc:T.cls c=some C) (no:m∉T.fields c) (q:tE T E (yaj c F so as) σ H Q):yf8 C m (spA T F) [] E (tE T E so) (tA T E as) σ H Q:=by
 obtain ⟨ι,h,en,S,er,q⟩:=q
 refine ⟨ι,h,en,S,er,q.bind λx h1 ι1 H1 u g1 S1 r1 q1=>?_⟩
 split at q1
 ·rename_i n
  split at q1
  ·rename_i c' fs hn
   split at q1
   ·rename_i ec
    subst ec
    cases r1 with
    | @ref _ a hr =>
     obtain ⟨o,e1,C',dx,fus,hC,rfl,nd,hw,hl,_⟩:=S1.obj n _ a hn hr
     rw [hc] at hC;cases hC
     refine ⟨a,dx,fus,rfl,e1,?_,ι1,h1,en,S1,er.mono g1,q1.bind λxs h2 ι2 H2 us g2 S2 r2 q2=>?_⟩
     ·cases e:fus.lookup m with
      | none=>rfl
      | some v =>
       have:=PySem.mem_of_lookup e
       exact absurd (hw _ this) no
     ·rw [List.append_nil]
      exact ⟨ι2,h2,.ref n::xs,S2,.cons (.ref (g2.at hr)) r2,q2⟩
   ·exact q1.elim
  ·exact q1.elim
 ·exact q1.elim
theorem yai {pl:Sem Bool} (hK:X.K=T.K) (CC:CA T E X) (G:GM X.prog X.w T X.mg X.base k c m F) (hr:Room k X.A) (ho:PEA T E X o so) (ha:PAA T E X (e::es) as)
  (hst:starEach (e::es) X.env=(false,eval e X.env)::starEach es X.env:=by rfl) (hpl:(backTo pos (starEach es X.env)).any (·.1)=false:=by rfl)
  (ht:eval (.Call (.Attribute o m apos) (e::es) [] pos) X.env=(do
   let ov <- eval o X.env
   standAt apos.atName
   let (f,first) <- holding [ov] (getMethod ov m pl)
   callWith pos f first (backTo pos (starEach (e::es) X.env)) (backToKw pos (keywordEach [] X.env))):=by rfl):PEA T E X (.Call (.Attribute o m apos) (e::es) [] pos) (yaj c F so as):=by
 obtain ⟨C,f,fd,ps,h1,h2,h3,h4,h5⟩:=G.ex
 exact yaR (ziN (Ex:=E) (dvs:=[]) (pl:=pl) ho (hK▸h2) (hK▸h3) (hK▸h5) hr (hK▸h4) .nil CC.pass ha hst hpl ht) λσ H Q q=>zf5 h1 G.no q
theorem zcl {pl:Sem Bool} (hK:X.K=T.K) (CC:CA T E X) (G:GM X.prog X.w T X.mg X.base k c m F) (hr:Room k X.A) (ho:PEA T E X o so)
  (ht:eval (.Call (.Attribute o m apos) [] [] pos) X.env=(do
   let ov <- eval o X.env
   standAt apos.atName
   let (f,first) <- holding [ov] (getMethod ov m pl)
   callWith pos f first (backTo pos (starEach [] X.env)) (backToKw pos (keywordEach [] X.env))):=by rfl):PEA T E X (.Call (.Attribute o m apos) [] [] pos) (yaj c F so sNil):=by
 obtain ⟨C,f,fd,ps,h1,h2,h3,h4,h5⟩:=G.ex
 intro pins s σ H Q I q
 have q' := zf5 (C:=C) h1 G.no q
 refine PySem.W.methodCall_KW (pl:=pl) (thn (ho pins s σ H _ I q') λu s1 Zz=>?_) ht;obtain ⟨x,H1,I1,rx,a,dx,fs,ex,ea,l,q⟩:=Zz
 subst ex
 obtain rfl:u=Value.ref a:=rx
 refine zc6 I1 ea (hK▸h2) (hK▸h3) l ?_
 obtain ⟨ι,h,en,S,er,q⟩:=q
 refine PySem.W.callWith_K0 (first:=[.ref a]) I1.kIn (hK▸h3.kp) (zdt (dvs:=[]) (us:=[.ref a]) (vs:=[.ref a]) (hK▸h5) hr (hK▸h4) .nil CC.pass I1 (.cons rfl .nil) (q.now S .nil))
structure CF (T:Tb) (c:Nat):Prop where
 ex:∃ C,T.cls c=some C/\Cls T.K C/\∀ f∈T.fields c,NoAttr T.K C f
structure GK (P:Program) (w:World) (T:Tb) (mg:Str->Option Value) (base:Heap) (k:Nat) (c:Nat) (x:Str) (F:Fn):Prop where
 ex:∃ C f fd ps,T.cls c=some C/\mg x=some (.ref C)/\Mk T.K C f/\Binds T.K fd ps []/\FnOk P w T.K mg base (CXE P w) k f fd ps (spA T F)
theorem zhR {CX:CXT} {C f:Addr} {fd:FuncData} {ps:List Str} {sp:Sp} {dvs:List V} {ds:List Value} {pins:List (Addr×Obj)} {σ:St} {H:Hp} {s:Shared} {Q:VK} {us:List Value} {vs:List V} (M:Mk X.K C f) (F:FnOk X.prog X.w X.K X.mg X.base CX k f fd ps sp) (hr:Room (k+1) X.A) (hb:Binds X.K fd ps ds) (hd:Vals dvs ds)
  (hx:yd8 CX X E) (I:L2.Inv X pins σ H s) (r:Vals vs us)
  (h:∀ x dx,H x=none->H dx=none->dx≠x->sp (.ref x::(vs++dvs)) (upd (upd H dx (.own x)) x (.ins C dx [])) (λv H2=>v = .non/\Q (.ref x) H2) (E σ)) :
  wpAny (model X.prog X.w) X.A (call (.ref C) us) (EP X pins σ Q) X.xe s:=by
 have hq:=h (s.heap.objs.size+1) s.heap.objs.size (I.hok.fresh (Nat.le_succ _)) (I.hok.fresh (Nat.le_refl _)) (Nat.ne_of_lt (Nat.lt_succ_self _))
 have I2:=Inv.made (C:=C) I
 have r2:Vals (V.ref (s.heap.objs.size+1)::(vs++dvs)) (Value.ref (s.heap.objs.size+1)::(us++ds)):=.cons rfl (r.append hd)
 have hl:(Value.ref (s.heap.objs.size+1)::us++ds).length=ps.length:=by
  have e:=r2.length
  rw [F.len _ _ _ _ hq] at e
  exact e.symm
 refine wpAny_call (zis (f:=f) I.kIn M.makes M.init (beq_iff_eq.mp M.fn) (codeAny_mono (F.run _ X.stack _ _ ⟨Value.ref (s.heap.objs.size+1)::us,[]⟩ (Value.ref (s.heap.objs.size+1)::(us++ds)) _ _ (E σ) (hr.make C us [])
  (I2.env0.make C us []) (hb _ (Value.ref (s.heap.objs.size+1)::us) I2.kIn hl) r2 hq) λr s' hq' => ?_))
 cases r with
 | error e=>exact hx pins σ _ _ e s' I2 hq'
 | ok fl =>
  cases fl with
  | ret u =>
   obtain ⟨v,H',I3,rv,ev,q3⟩:=I2.after hq'
   subst ev
   exact ⟨rv,⟨V.ref (s.heap.objs.size+1),H',I3,rfl,q3⟩⟩
  | next=>exact False.elim hq'
  | brk=>exact False.elim hq'
  | cont=>exact False.elim hq'
theorem zj0 {C:Addr} {xs:List AV} {us:List V} {H:Hp} {Q:VK} {ι:Ix} {h:AH} {E:XK} {n:Nat} (hc:T.cls c=some C) (hn:(T.fields c).length=n) (S:Sim T ι h H) (r:RVs T ι H xs us)
  (q:Post T ι H E (RV T) (match F (.ref h.length::xs) (h++[.ins c (List.replicate n none)]) with | .ok .non h2=>Out.ok (AV.ref h.length) h2 | .ex c h2=>.ex c h2 | _=>.bad) Q) :
  ∀ x dx,H x=none->H dx=none->dx≠x->spA T F (.ref x::us) (upd (upd H dx (.own x)) x (.ins C dx [])) (λv H2=>v = .non/\Q (.ref x) H2) E:=by
 intro x dx nx ndx ne
 have nx':(upd H dx (.own x)) x=none:=by rw [yaF (Ne.symm ne)];exact nx
 have S1:=S.new (o:=.own x) ndx
 have g1:=S.growNew (o:=.own x) ndx
 have g2:=S1.growAdd (u:=.ins C dx []) nx'
 have S2:Sim T (ι.add x) (h++[.ins c (List.replicate n none)]) (upd (upd H dx (.own x)) x (.ins C dx [])):=S1.add nx' ⟨C,dx,[],hc,rfl,by simp,by simp,by simp [hn],λi v e=>by
  rw [List.getElem?_replicate] at e
  split at e
  ·cases e
  ·cases e⟩
 refine ⟨ι.add x,_,.ref h.length::xs,S2,.cons (.ref S.addAt) (r.mono (g1.trans g2)),?_⟩
 have q2:=q.shift (g1.trans g2)
 cases e:F (.ref h.length::xs) (h++[.ins c (List.replicate n none)]) with
 | bad=>rw [e] at q2;exact q2
 | ex c' h2=>rw [e] at q2;exact q2
 | ok v h2 =>
  rw [e] at q2
  cases v with
  | non=>exact λι' H' u g S' r' => ⟨yeZ r',q2 ι' H' _ g S' (.ref (g.at S.addAt))⟩
  | _=>exact (show False from q2).elim
theorem zf6 {n:Nat} (hK:X.K=T.K) (CC:CA T E X) (G:GK X.prog X.w T X.mg X.base k c x F) (hr:Room (k+1) X.A) (hg:Gl X x) (hn:(T.fields c).length=n:=by rfl) (hdb:(x == ("__debug__" : Str))=false:=by decide):PEA T E X (.Call (.Name x p) [] [] pos) (yeI c n F sNil):=by
 obtain ⟨C,f,fd,ps,h1,h2,h3,h4,h5⟩:=G.ex
 intro pins s σ H Q I ⟨ι,h,en,S,er,q⟩
 refine wpAny_Call_Name_kw (zdq I hg h2 ?_ hdb)
 have M:Mk X.K C f:=hK▸h3
 exact PySem.W.callWith_K0 I.kIn M.kp (zhR (us:=[]) (vs:=[]) (dvs:=[]) M (hK▸h5) hr (hK▸h4) .nil CC.pass I .nil (zj0 h1 hn S .nil q))
theorem yaA {i:Nat} {f:Str} (hK:X.K=T.K) (CFc:CF T c) (ho:PEA T E X o so) (hf:(T.fields c)[i]? = some f:=by rfl) (hb:attributeBase o f X.env (eval o X.env)=eval o X.env:=by rfl):PEA T E X (.Attribute o f pos) (Sm.sFld c i so):=by
 obtain ⟨C,hC,hcl,hna⟩:=CFc.ex
 refine yaR (yhl ho hb) λσ H Q=>E6x λι h en S er q=>⟨ι,h,en,S,er,q.bind λx h1 ι1 H1 u g1 S1 r1 q1=>?_⟩
 split at q1
 ·rename_i n
  split at q1
  ·rename_i c' fs hn
   split at q1
   ·rename_i ec
    subst ec
    split at q1
    ·rename_i v hv
     cases r1 with
     | @ref _ a hr =>
      obtain ⟨o,e1,C',dx,fus,hC',rfl,nd,hw,hl,hr2⟩:=S1.obj n _ a hn hr
      rw [hC] at hC';cases hC'
      obtain ⟨f',u,e2,e3,r3⟩:=hr2 i v hv
      rw [hf] at e2;cases e2
      exact ⟨a,_,dx,fus,u,rfl,e1,hK▸hcl,hK▸hna f (List.mem_of_getElem? hf),e3,q1.now S1 r3⟩
    ·exact q1.elim
   ·exact q1.elim
  ·exact q1.elim
 ·exact q1.elim
theorem zd5 (f:Str) (v:V):∀ {fs:List (Str×V)},(fs.map (·.1)).Nodup->((putF f v fs).map (·.1)).Nodup/\∀ g,g∈(putF f v fs).map (·.1)->g=f\/g∈fs.map (·.1)
 | [],_=>by simp [putF]
 | (g,x)::r,n=>by
  obtain ⟨n1,n2⟩:=List.nodup_cons.mp (show (g::r.map (·.1)).Nodup from n)
  unfold putF
  split
  ·rename_i e
   subst e
   exact ⟨n,λk hk=>.inr hk⟩
  ·rename_i e
   obtain ⟨h1,h2⟩:=zd5 f v (fs:=r) n2
   refine ⟨List.nodup_cons.mpr ⟨λz=>?_,h1⟩,λk hk=>?_⟩
   ·rcases h2 g z with z | z
    ·exact e z
    ·exact n1 z
   ·rcases List.mem_cons.mp hk with z | z
    ·exact .inr (by rw [z];simp)
    ·rcases h2 k z with z | z
     ·exact .inl z
     ·exact .inr (List.mem_cons_of_mem _ z)
theorem zeP:∀ {l m:List Str},l.Nodup->(∀ x∈l,x∈m)->l.length<=m.length
 | [],m,_,_=>Nat.zero_le _
 | x::l,m,n,h=>by
  obtain ⟨n1,n2⟩:=List.nodup_cons.mp n
  have hx:=h x (by simp)
  have:=zeP (l:=l) (m:=m.erase x) n2 λy hy=>by
   have ne:y≠x:=λz=>n1 (z▸hy)
   exact (List.mem_erase_of_ne ne).mpr (h y (by simp [hy]))
  rw [List.length_erase_of_mem hx] at this
  have:0<m.length:=List.length_pos_of_mem hx
  simp only [List.length_cons]
  lia
theorem zaC {i:Nat} {f:Str} {p':Pos} (hK:X.K=T.K) (CFc:CF T c) (ho:PEA T E X o so) (ha:PEA T E X a sa) (hf:(T.fields c)[i]? = some f:=by rfl) (hs:swapsWith a (some (.Attribute o f p')) pos.line X.env=pure false:=by rfl) :
  PSA T E X (.Assign [.Attribute o f p'] a pos) (ybB c i so sa):=by
 obtain ⟨C,hC,hcl,hna⟩:=CFc.ex
 refine ycg (yhm ho ha hs) λD σ H=>E6x λι h en S er q=>⟨ι,h,en,S,er,q.go er λy h1 ι1 H1 v g1 S1 r1 q1=>⟨ι1,h1,en,S1,er.mono g1,q1.go (er.mono g1) λx h2 ι2 H2 u g2 S2 r2 q2=>?_⟩⟩
 split at q2
 ·rename_i n
  split at q2
  ·rename_i c' fs hn
   split at q2
   ·rename_i ec
    subst ec
    cases r2 with
    | @ref _ a hr =>
     obtain ⟨o,e1,C',dx,fus,hC',rfl,nd,hw,hl,hr2⟩:=S2.obj n _ a hn hr
     rw [hC] at hC';cases hC'
     have hmem:f∈T.fields c' := List.mem_of_getElem? hf
     have hlen:fus.length<1000:=by
      have:=zeP nd (m:=T.fields c') (λx hx=>by
       obtain ⟨p,hp,rfl⟩:=List.mem_map.mp hx
       exact hw p hp)
      have:=T.few c'
      rw [List.length_map] at *
      lia
     obtain ⟨k1,k2⟩:=zd5 f v nd
     have g3:=S2.growSet (u:=.ins C dx (putF f v fus)) hr
     refine ⟨a,C,dx,fus,rfl,e1,hK▸hcl,hK▸hna f hmem,hlen,q2 ι2 _ σ g3 (S2.set hr ⟨C,dx,putF f v fus,hC,rfl,k1,λp hp=>?_,by simp [hl],λj w hj=>?_⟩) (er.mono (g1.trans (g2.trans g3)))⟩
     ·rcases k2 p.1 (List.mem_map.mpr ⟨p,hp,rfl⟩) with z | z
      ·rw [z];exact hmem
      ·obtain ⟨p',hp',e⟩:=List.mem_map.mp z
       rw [<- e];exact hw p' hp'
     ·by_cases hji:j=i
      ·subst hji
       have hjl:j<fs.length:=by
        have:=(List.getElem?_eq_some_iff.mp hj).1
        simpa using this
       rw [List.getElem?_set_self hjl] at hj
       cases hj
       exact ⟨f,v,hf,by rw [za2,if_pos rfl],r1.mono (g2.trans g3)⟩
      ·rw [List.getElem?_set_ne (Ne.symm hji)] at hj
       obtain ⟨f',u,e2,e3,r3⟩:=hr2 j w hj
       have ne:f'≠f:=λz=>hji (zcH (T.nd c') e2 (z▸hf))
       exact ⟨f',u,e2,by rw [za2,if_neg ne];exact e3,r3.mono g3⟩
   ·exact (show False from q2).elim
  ·exact (show False from q2).elim
 ·exact (show False from q2).elim
end
theorem yfO {T:Tb} {ι:Ix} {H:Hp} {k:Key} {u:V} (r:RV T ι H (kA k) u):u=kV k:=by
 cases k with
 | inl i=>exact yaC r
 | inr x=>exact (ybf r).1
theorem yfA {k j:Key} (e:kA k=kA j):k=j:=by
 cases k<;>cases j<;>simp [kA] at e<;>simp [e]
theorem zdx:∀ {ks js:List Key},ks.map kA=js.map kA->ks=js
 | [],[],_=>rfl
 | [],_::_,e=>by simp at e
 | _::_,[],e=>by simp at e
 | k::ks,j::js,e=>by
  simp only [List.map_cons,List.cons.injEq] at e
  rw [yfA e.1,zdx e.2]
theorem ygh {T:Tb} {ι:Ix} {H:Hp}:∀ {ks:List Key} {us:List V},RVs T ι H (ks.map kA) us->us=ks.map kV
 | [],_,.nil=>rfl
 | k::ks,_,.cons r rs=>by rw [yfO r,ygh rs];rfl
theorem zbN {v:AV} {k:Key} (e:keyOf? v=some k):v=kA k:=by
 unfold keyOf? at e
 split at e<;>cases e<;>rfl
theorem za4:∀ {vs:List AV} {ks:List Key},keysOf? vs=some ks->vs=ks.map kA
 | [],_,e=>by cases e;rfl
 | v::vs,ks,e=>by
  unfold keysOf? at e
  split at e
  ·rename_i k ks' e1 e2
   cases e
   rw [zbN e1,za4 e2];rfl
  ·cases e
theorem ye3 {κ:Type} [DecidableEq κ] {T:Tb} {ι:Ix} {H:Hp} {f:κ->AV} (hf:∀ {a b},f a=f b->a=b) {k:κ}:∀ {kvs:List (AV×AV)} {kus:List (κ×V)},Paired (λ(p:AV×AV) (q:κ×V)=>p.1=f q.1/\RV T ι H p.2 q.2) kvs kus ->
  (valA kvs (f k)=none/\valV kus k=none)\/∃ v u,valA kvs (f k)=some v/\valV kus k=some u/\RV T ι H v u
 | _,_,.nil=>.inl ⟨rfl,rfl⟩
 | (a,v)::kvs,(j,u)::kus,.cons ⟨e,r⟩ rs=>by
  by_cases h:j=k
  ·subst h
   replace e:a=f j:=e
   subst e
   exact .inr ⟨v,u,by simp [valA],zbJ rfl,r⟩
  ·have h' : ¬ a=f k:=λz=>h (hf (e.symm.trans z))
   rcases ye3 hf rs (k:=k) with ⟨h1,h2⟩ | ⟨v',u',h1,h2,h3⟩
   ·refine .inl ⟨?_,by rw [zbi h];exact h2⟩
    unfold valA at h1 ⊢
    rw [List.find?_cons,decide_eq_false h']
    exact h1
   ·refine .inr ⟨v',u',?_,by rw [zbi h];exact h2,h3⟩
    unfold valA at h1 ⊢
    rw [List.find?_cons,decide_eq_false h']
    exact h1
theorem zdy {kvs:List (AV×AV)} {k:AV}:(kvs.any λp=>decide (p.1=k))=(valA kvs k).isSome:=by
 induction kvs with
 | nil=>rfl
 | cons p r ih =>
  unfold valA at ih ⊢
  rw [List.any_cons,List.find?_cons,ih]
  cases h:decide (p.1=k)<;>simp
theorem ygi {κ:Type} [DecidableEq κ] {T:Tb} {ι:Ix} {H:Hp} {f:κ->AV} (hf:∀ {a b},f a=f b->a=b) {k:κ} {v:AV} {u:V} (rv:RV T ι H v u) {kvs:List (AV×AV)} {kus:List (κ×V)} (r:Paired (λ(p:AV×AV) (q:κ×V)=>p.1=f q.1/\RV T ι H p.2 q.2) kvs kus) :
  Paired (λ(p:AV×AV) (q:κ×V)=>p.1=f q.1/\RV T ι H p.2 q.2) (putA kvs (f k) v) (putK kus k u):=by
 have e:(kvs.any λp=>decide (p.1=f k))=kus.any λkv=>decide (kv.1=k):=by
  rw [zdy,zbK]
  rcases ye3 hf r (k:=k) with ⟨h1,h2⟩ | ⟨v',u',h1,h2,h3⟩
  ·rw [h1,h2];rfl
  ·rw [h1,h2];rfl
 unfold putA putK
 rw [e]
 by_cases h:(kus.any λkv=>decide (kv.1=k))=true
 ·rw [if_pos h,if_pos h]
  clear e h
  induction r with
  | nil=>exact .nil
  | cons p rs ih =>
   rename_i a b l1 l2
   refine .cons ?_ ih
   obtain ⟨e1,r1⟩:=p
   dsimp only
   by_cases hk:b.1=k
   ·rw [if_pos hk,if_pos (by rw [e1,hk])]
    exact ⟨e1,rv⟩
   ·rw [if_neg hk,if_neg (λz=>hk (hf (e1.symm.trans z)))]
    exact ⟨e1,r1⟩
 ·rw [if_neg h,if_neg h]
  have app:∀ {l1:List (AV×AV)} {l2:List (κ×V)},Paired (λ(p:AV×AV) (q:κ×V)=>p.1=f q.1/\RV T ι H p.2 q.2) l1 l2->Paired (λ(p:AV×AV) (q:κ×V)=>p.1=f q.1/\RV T ι H p.2 q.2) (l1++[(f k,v)]) (l2++[(k,u)]):=λz=>by
   induction z with
   | nil=>exact .cons ⟨rfl,rv⟩ .nil
   | cons p _ ih=>exact .cons p ih
  exact app r
section
variable {T:Tb} {ι:Ix} {h:AH} {H:Hp}
theorem keyT {xs:List AV} {u:V} {ks:List Key} (r:RV T ι H (.tup xs) u) (e:keysOf? xs=some ks):∃ b,u = .ref b/\KTup H b ks:=by
 have:=za4 e
 subst this
 cases r with
 | tup n q r=>exact ⟨_,rfl,.of (by rw [<- ygh r];exact q)⟩
theorem zdz {n:Nat} {t:Bool} {kvs:List (AV×AV)} {y:AV} {a:Addr} {w:V} (S:Sim T ι h H) (hn:h[n]? = some (.dct t kvs)) (hr:ι.refs[n]? = some a) (ry:RV T ι H y w) (hk:ybP t y=true) :
  ∃ o,DGet H a w o/\((valA kvs y=none/\o=none)\/∃ v u,valA kvs y=some v/\o=some u/\RV T ι H v u):=by
 obtain ⟨ob,e1,r⟩:=S.obj n _ a hn hr
 cases t with
 | false =>
  obtain ⟨kus,rfl,r⟩:=r
  have hk':(keyOf? y).isSome=true:=hk
  obtain ⟨k,ek⟩:=Option.isSome_iff_exists.mp hk'
  have:=zbN ek
  subst this
  rw [yfO ry]
  refine ⟨valV kus k,.k e1,?_⟩
  rcases ye3 yfA r (k:=k) with ⟨h1,h2⟩ | ⟨v',u',h1,h2,h3⟩
  ·exact .inl ⟨h1,h2⟩
  ·exact .inr ⟨v',u',h1,h2,h3⟩
 | true =>
  obtain ⟨kus,rfl,r⟩:=r
  unfold ybP at hk
  split at hk
  ·rename_i hh;cases hh
  ·rename_i xs hh
   obtain ⟨ks,ek⟩:=Option.isSome_iff_exists.mp hk
   obtain ⟨b,rfl,hb⟩:=keyT ry ek
   have:=za4 ek
   subst this
   refine ⟨valV kus ks,.t e1 hb,?_⟩
   rcases ye3 (f:=λks:List Key=>AV.tup (ks.map kA)) (λe=>zdx (by injection e)) r (k:=ks) with ⟨h1,h2⟩ | ⟨v',u',h1,h2,h3⟩
   ·exact .inl ⟨h1,h2⟩
   ·exact .inr ⟨v',u',h1,h2,h3⟩
  ·cases hk
theorem zj1 {n:Nat} {t:Bool} {kvs:List (AV×AV)} {y z:AV} {a:Addr} {w u:V} (S:Sim T ι h H) (hn:h[n]? = some (.dct t kvs)) (hr:ι.refs[n]? = some a) (ry:RV T ι H y w) (rz:RV T ι H z u) (hk:ybP t y=true) (hl:kvs.length<sizeLine) :
  ∃ H',DPut H a w u H'/\Grow ι H ι H'/\Sim T ι (h.set n (.dct t (putA kvs y z))) H' := by
 obtain ⟨ob,e1,r⟩:=S.obj n _ a hn hr
 cases t with
 | false =>
  obtain ⟨kus,rfl,r⟩:=r
  have hk':(keyOf? y).isSome=true:=hk
  obtain ⟨k,ek⟩:=Option.isSome_iff_exists.mp hk'
  have:=zbN ek
  subst this
  rw [yfO ry]
  have g:=S.growSet (u:=.dK (putK kus k u)) hr
  exact ⟨_,.k e1 (by rw [<- Paired.length r];exact hl),g,S.set hr ⟨_,rfl,ygi yfA (rz.mono g) (Paired.mapP r λ_ _ ⟨p,q⟩=>⟨p,q.mono g⟩)⟩⟩
 | true =>
  obtain ⟨kus,rfl,r⟩:=r
  unfold ybP at hk
  split at hk
  ·rename_i hh;cases hh
  ·rename_i xs hh
   obtain ⟨ks,ek⟩:=Option.isSome_iff_exists.mp hk
   obtain ⟨b,rfl,hb⟩:=keyT ry ek
   have:=za4 ek
   subst this
   have g:=S.growSet (u:=.dT none (putK kus ks u)) hr
   exact ⟨_,.t e1 hb (by rw [<- Paired.length r];exact hl),g,S.set hr ⟨_,rfl,ygi (f:=λks:List Key=>AV.tup (ks.map kA)) (λe=>zdx (by injection e)) (rz.mono g) (Paired.mapP r λ_ _ ⟨p,q⟩=>⟨p,q.mono g⟩)⟩⟩
  ·cases hk
theorem RVs.atI {xs:List AV} {us:List V} {i:Int} {v:AV} (r:RVs T ι H xs us) (e:atI xs i=some v):∃ u,L2.atI us i=some u/\RV T ι H v u:=by
 unfold L2.atI at e ⊢
 rw [<- r.length]
 obtain ⟨j,e1,e2⟩:=Option.bind_eq_some_iff.mp e
 obtain ⟨u,e3,r3⟩:=r.get e2
 exact ⟨u,by rw [e1];exact e3,r3⟩
end
section
variable {T:Tb} {E:St->XK} {X:Cx} {pos:Pos} {a b c:Expr} {sa sb sc:SE}
theorem yiY {e:Expr} {t t':TE} (h:PE X e t) (h':PE X e t'):PE X e (λσ H Q=>t σ H Q\/t' σ H Q):=λpins s σ H Q I q=>q.elim (h pins s σ H Q I) (h' pins s σ H Q I)
theorem yiZ {e:Stmt} {t t':TS} (h:PS X e t) (h':PS X e t'):PS X e (λD σ H=>t D σ H\/t' D σ H):=λpins s σ H Q I q=>q.elim (h pins s σ H Q I) (h' pins s σ H Q I)
theorem r_ix (hK:X.K=T.K) (hu:X.A.units+64<cLine) (ha:PEA T E X a sa) (hb:PEA T E X b sb) (hs:yfK b:=by exact λ_ _=>rfl):PEA T E X (.Subscript a b pos) (sOp2 fIx sa sb):=by
 refine yaR (yiY (yiH yhq ha hb hs) (zjC (Nat.lt_of_le_of_lt (Nat.add_le_add_left (by decide:1<=64) _) hu) ha hb hs)) λσ H Q q=>?_
 obtain ⟨ι,h,en,S,er,q⟩:=q
 have left:(∀ x h1 y h2,sa en h = .ok x h1->sb en h1 = .ok y h2->∀ n t kvs,x = .ref n->h2[n]? = some (.dct t kvs)->False)->tOp (rIx X.K) (tE T E sa) (tE T E sb) σ H Q:=λno=>by
  refine ⟨ι,h,en,S,er,?_⟩
  unfold sOp2 at q
  cases e1:sa en h with
  | bad=>rw [e1] at q;exact q
  | ex c h1=>rw [e1] at q;exact q
  | ok x h1 =>
   rw [e1] at q
   intro ι1 H1 u g1 S1 r1
   refine ⟨ι1,h1,en,S1,er.mono g1,?_⟩
   dsimp only [Out.bind] at q
   cases e2:sb en h1 with
   | bad=>rw [e2] at q;exact q
   | ex c h2=>rw [e2] at q;exact Post.shift (R:=RV T) (o:=.ex c h2) q g1
   | ok y h2 =>
    rw [e2] at q
    intro ι2 H2 w g2 S2 r2
    have q2:=Post.shift q (g1.trans g2)
    have r1' := r1.mono g2
    dsimp only at q2
    unfold fIx at q2
    split at q2
    ·rename_i z i
     split at q2
     ·rename_i cc hc
      obtain ⟨rfl,zl,zo⟩:=ybf r1'
      rw [yaC r2]
      refine .inr (.inr ⟨z,i,cc,rfl,rfl,zl,hc,q2.now S2 (.str (show 1<=sizeLine by decide) ?_)⟩)
      obtain ⟨j,_,e3,_⟩:=zcj hc
      have m:cc∈z.cps:=by
       have:=List.mem_of_getElem? e3
       simpa using this
      have:=Array.all_eq_true_iff_forall_mem.mp zo _ m
      simpa using this
     ·exact q2.elim
    ·rename_i xs i
     split at q2
     ·rename_i v hv
      obtain ⟨b,us,rfl,sq,rs⟩:=ydj r1'
      obtain ⟨u2,e3,r3⟩:=rs.atI hv
      rw [yaC r2]
      exact .inr (.inl ⟨b,us,i,u2,rfl,rfl,hK▸sq,e3,q2.now S2 r3⟩)
     ·exact q2.elim
    ·rename_i xs i
     split at q2
     ·rename_i v hv
      obtain ⟨b,us,rfl,sq,rs⟩:=ybF S2 r1' rfl
      obtain ⟨u2,e3,r3⟩:=rs.atI hv
      rw [yaC r2]
      exact .inl ⟨b,us,i,u2,rfl,rfl,hK▸sq,e3,q2.now S2 r3⟩
     ·exact q2.elim
    ·rename_i n
     split at q2
     ·rename_i xs hn
      split at q2
      ·rename_i i
       split at q2
       ·rename_i v hv
        obtain ⟨b,us,rfl,sq,rs⟩:=ybF (xs:=xs) S2 r1' (by simp [ybi,hn])
        obtain ⟨u2,e3,r3⟩:=rs.atI hv
        rw [yaC r2]
        exact .inl ⟨b,us,i,u2,rfl,rfl,hK▸sq,e3,q2.now S2 r3⟩
       ·exact q2.elim
      ·exact q2.elim
     ·rename_i t kvs hn
      exact (no _ h1 _ h2 e1 e2 n t kvs rfl hn).elim
     ·exact q2.elim
    ·exact q2.elim
 by_cases dd:∃ x h1 y h2,sa en h = .ok x h1/\sb en h1 = .ok y h2/\∃ n t kvs,x = .ref n/\h2[n]? = some (.dct t kvs)
 ·obtain ⟨x,h1,y,h2,e1,e2,n,t,kvs,rfl,hn⟩:=dd
  refine .inr ⟨ι,h,en,S,er,?_⟩
  unfold sOp2 at q
  rw [e1] at q ⊢
  intro ι1 H1 u g1 S1 r1
  refine ⟨ι1,h1,en,S1,er.mono g1,?_⟩
  dsimp only [Out.bind] at q
  rw [e2] at q ⊢
  intro ι2 H2 w g2 S2 r2
  have q2:=Post.shift q (g1.trans g2)
  have r1' := r1.mono g2
  dsimp only at q2
  unfold fIx at q2
  simp only [hn] at q2
  split at q2
  ·rename_i hk
   cases r1' with
   | @ref _ ad hr =>
    obtain ⟨o,dg,alt⟩:=zdz S2 hn hr r2 hk
    rcases alt with ⟨v1,rfl⟩ | ⟨v,u,v1,rfl,r3⟩
    ·rw [v1] at q2;exact q2.elim
    ·rw [v1] at q2
     exact ⟨ad,u,rfl,dg,q2.now S2 r3⟩
  ·exact q2.elim
 ·exact .inl (left λx h1 y h2 e1 e2 n t kvs e3 e4=>dd ⟨x,h1,y,h2,e1,e2,n,t,kvs,e3,e4⟩)
theorem zbC {p':Pos} (hu:X.A.units+64<cLine) (ho:PEA T E X a sa) (hi:PEA T E X b sb) (hv:PEA T E X c sc) (hs:swapsWith c (some (.Subscript a b p')) pos.line X.env=pure false:=by rfl) (hs':swapsWithSole [.Subscript a b p'] c pos.line X.env=pure false:=by rfl) (hw:swappedStores [.Subscript a b p'] c X.env=pure none:=by rfl)
  (h1:(assignEach [.Subscript a b p'] X.env).map (·.2)=[assign (.Subscript a b p') X.env]:=by rfl)
  (has:∀ v,assign (.Subscript a b p') X.env v=(do
   let ov <- holding [v] (eval a X.env)
   let iv <- holding [v,ov] (eval b X.env)
   standAt p'
   holding [v,ov,iv] (setItem ov iv v)
   release [v,ov,iv] []):=by intro _;rfl):PSA T E X (.Assign [.Subscript a b p'] c pos) (ybv sa sb sc):=by
 refine ycg (yiZ (yfX hv (yhb ho hi ziw has) hs' hw h1) (zjD (Nat.lt_of_le_of_lt (Nat.add_le_add_left (by decide:1<=64) _) hu) ho hi hv hs)) λD σ H q=>?_
 obtain ⟨ι,h,en,S,er,q⟩:=q
 unfold ybv at q
 by_cases dd:∃ z h1 x h2 y h3,sc en h = .ok z h1/\sa en h1 = .ok x h2/\sb en h2 = .ok y h3/\∃ n t kvs,x = .ref n/\h3[n]? = some (.dct t kvs)
 ·obtain ⟨z,h1,x,h2,y,h3,e1,e2,e3,n,t,kvs,rfl,hn⟩:=dd
  refine .inr ⟨ι,h,en,S,er,?_⟩
  rw [e1] at q ⊢
  intro ι1 H1 u g1 S1 r1
  refine ⟨ι1,h1,en,S1,er.mono g1,?_⟩
  dsimp only [Out.go] at q
  rw [e2] at q ⊢
  intro ι2 H2 w g2 S2 r2
  refine ⟨ι2,h2,en,S2,er.mono (g1.trans g2),?_⟩
  dsimp only at q
  rw [e3] at q ⊢
  intro ι3 H3 j g3 S3 r3
  have q2:=PostS.shift q (g1.trans (g2.trans g3))
  simp only [hn] at q2
  split at q2
  ·rename_i hk
   cases (r2.mono g3) with
   | @ref _ ad hr =>
    obtain ⟨H4,dp,g4,S4⟩:=zj1 S3 hn hr r3 (r1.mono (g2.trans g3)) hk.1 hk.2
    exact ⟨ad,H4,rfl,dp,q2 ι3 H4 σ g4 S4 (er.mono (g1.trans (g2.trans (g3.trans g4))))⟩
  ·exact q2.elim
 ·refine .inl ⟨ι,h,en,S,er,?_⟩
  cases e1:sc en h with
  | bad=>rw [e1] at q;exact q
  | ex cc h1=>rw [e1] at q;exact λi2 H2 C g S e=>q i2 H2 σ C g S (er.mono g) e
  | ok z h1 =>
   rw [e1] at q
   intro ι1 H1 u g1 S1 r1
   refine ⟨ι1,h1,en,S1,er.mono g1,?_⟩
   dsimp only [Out.go] at q
   cases e2:sa en h1 with
   | bad=>rw [e2] at q;exact q
   | ex cc h2=>rw [e2] at q;exact λi2 H2 C g S e=>q i2 H2 σ C (g1.trans g) S (er.mono (g1.trans g)) e
   | ok x h2 =>
    rw [e2] at q
    intro ι2 H2 w g2 S2 r2
    refine ⟨ι2,h2,en,S2,er.mono (g1.trans g2),?_⟩
    dsimp only at q
    cases e3:sb en h2 with
    | bad=>rw [e3] at q;exact q
    | ex cc h3=>rw [e3] at q;exact λi2 H2 C g S e=>q i2 H2 σ C (g1.trans (g2.trans g)) S (er.mono (g1.trans (g2.trans g))) e
    | ok y h3 =>
     rw [e3] at q
     intro ι3 H3 j g3 S3 r3
     have q2:=PostS.shift q (g1.trans (g2.trans g3))
     dsimp only at q2
     split at q2
     ·rename_i n
      split at q2
      ·rename_i xs hn
       split at q2
       ·rename_i k
        split at q2
        ·rename_i jj hj
         cases (r2.mono g3) with
         | @ref _ ad hr =>
          obtain ⟨o,e4,us,rfl,rs⟩:=S3.obj n _ ad hn hr
          have g4:=S3.growSet (u:=.lst (us.set jj u)) hr
          rw [yaC r3]
          exact ⟨ad,us,k,jj,rfl,rfl,e4,by rw [<- rs.length];exact hj,q2 ι3 _ σ g4 (S3.set hr ⟨_,rfl,RVs.set (r1.mono (g2.trans (g3.trans g4))) jj (rs.mono g4)⟩) (er.mono (g1.trans (g2.trans (g3.trans g4))))⟩
        ·exact q2.elim
       ·exact q2.elim
      ·rename_i t kvs hn
       exact (dd ⟨_,h1,_,h2,_,h3,e1,e2,e3,n,t,kvs,rfl,hn⟩).elim
      ·exact q2.elim
     ·exact q2.elim
theorem zj2 {g:Value->Value->Sem Value} {r:R2} {neg:Bool} (hK:X.K=T.K)
  (h1:∀ (i j:Str) H Q,Q (V.bl (if neg then !(!(Builtin.Str.occurrences j i 0 j.length 1).isEmpty) else !(Builtin.Str.occurrences j i 0 j.length 1).isEmpty)) H->r (.str i) (.str j) H Q)
  (h2:∀ x y H Q p xs d ds,y=V.ref p->SqL T.K H p xs->DaV T.K H x d->DaVs T.K H xs ds->d.canLay0=true->(∀ e∈ds,e.canLay0=true/\e.depth<=30)->Q (V.bl (if neg then !(ds.any λe=>PyData.eqv e d) else ds.any λe=>PyData.eqv e d)) H->r x y H Q)
  (h2t:∀ x y H Q p xs d ds,y=V.ref p->SqT T.K H p xs->DaV T.K H x d->DaVs T.K H xs ds->d.canLay0=true->(∀ e∈ds,e.canLay0=true/\e.depth<=30)->Q (V.bl (if neg then !(ds.any λe=>PyData.eqv e d) else ds.any λe=>PyData.eqv e d)) H->r x y H Q)
  (h3:∀ (y:V) (a:Addr) o H Q,DGet H a y o->Q (V.bl (if neg then !o.isSome else o.isSome)) H->r y (.ref a) H Q) :
  OpS T (λx y h=>match inA x y h with | some b=>.ok (.bl (if neg then !b else b)) h | none=>.bad) r:=by
 intro ι h H x y u w E Q S rx ry p
 dsimp only at p
 cases hb:inA x y h with
 | none=>rw [hb] at p;exact p.elim
 | some b =>
  rw [hb] at p
  dsimp only at p
  unfold inA at hb
  split at hb
  ·cases hb
   obtain ⟨rfl,_⟩:=ybf rx
   obtain ⟨rfl,_⟩:=ybf ry
   exact h1 _ _ _ _ (p.now S (.bl _))
  ·rename_i n
   split at hb
   ·rename_i t kvs hn
    split at hb
    ·rename_i hk
     cases hb
     cases ry with
     | @ref _ ad hr =>
      obtain ⟨o,dg,alt⟩:=zdz S hn hr rx hk
      refine h3 u ad o H Q dg ?_
      rcases alt with ⟨v1,rfl⟩ | ⟨v,u',v1,rfl,r3⟩
      ·rw [v1] at p;exact p.now S (.bl _)
      ·rw [v1] at p;exact p.now S (.bl _)
    ·cases hb
   ·rename_i xs hn
    split at hb
    ·rename_i d ds e1 e2
     cases hb
     obtain ⟨a,us,rfl,sq,rs⟩:=ybF (xs:=xs) S ry (by simp [ybi,hn])
     obtain ⟨q1,q2,q3⟩:=ycM S 8 rx e1
     obtain ⟨q4,q5⟩:=zbz (n:=8) (λr e=>ycM S 8 r e) rs e2
     exact h2 _ _ _ _ a us d ds rfl sq q1 q4 q2 (λe he=>⟨(q5 e he).1,by have:=(q5 e he).2;lia⟩) (p.now S (.bl _))
    ·cases hb
   ·cases hb
  ·rename_i xs
   split at hb
   ·rename_i d ds e1 e2
    cases hb
    obtain ⟨a,us,rfl,sq,rs⟩:=ybF S ry rfl
    obtain ⟨q1,q2,q3⟩:=ycM S 8 rx e1
    obtain ⟨q4,q5⟩:=zbz (n:=8) (λr e=>ycM S 8 r e) rs e2
    exact h2 _ _ _ _ a us d ds rfl sq q1 q4 q2 (λe he=>⟨(q5 e he).1,by have:=(q5 e he).2;lia⟩) (p.now S (.bl _))
   ·cases hb
  ·rename_i xs
   split at hb
   ·rename_i d ds e1 e2
    cases hb
    obtain ⟨a,us,rfl,sq,rs⟩:=ydj ry
    obtain ⟨q1,q2,q3⟩:=ycM S 8 rx e1
    obtain ⟨q4,q5⟩:=zbz (n:=8) (λr e=>ycM S 8 r e) rs e2
    exact h2t _ _ _ _ a us d ds rfl sq q1 q4 q2 (λe he=>⟨(q5 e he).1,by have:=(q5 e he).2;lia⟩) (p.now S (.bl _))
   ·cases hb
  ·cases hb
end
end Sm
namespace L2
open PySem PySem.Spec PyProof.Rows
section
variable {X:Cx} {pins:List (Addr×Obj)} {σ:St} {H:Hp} {s:Shared}
theorem zd6 (I:Inv X pins σ H s) (hu:X.A.units+64<cLine) {xs:List V} {ds:List PyData} {its:List Value} {d:PyData} {v:Value} {as:List Addr} (ra:Reads s.heap v d as) (hds:DaVs X.K H xs ds) (r:Vals xs its) (cd:d.canLay0=true) (cds:∀ e∈ds,e.canLay0=true/\e.depth<=30) :
  (∀ y,y∈its.toArray->SeqAt.EqAt X.A.in1 s y v (isD s.heap d y))/\its.toArray.any (isD s.heap d)=ds.any λe=>PyData.eqv e d:=by
 obtain ⟨hl,hat⟩:=zfV I hds r
 constructor
 ·intro y hy
  have hy':y∈its:=by simpa using hy
  obtain ⟨j,hj⟩:=List.getElem?_of_mem hy'
  have hlt:=(List.getElem?_eq_some_iff.mp hj).1
  have hdj:ds[j]? = some (ds[j]'(by lia)):=List.getElem?_eq_getElem (by lia)
  obtain ⟨bs,rb⟩:=hat j _ _ hj hdj
  have cj:=cds _ (List.mem_of_getElem? hdj)
  rw [isD_of cj.1 rb]
  exact SeqAt.eqAt_reads _ _ _ _ _ _ _ _ rb ra cj.1 cd (by
   have:=Nat.min_le_left (ds[j]'(by lia)).depth d.depth
   show X.A.units+1+_<cLine
   lia)
 ·rw [<- Array.any_toList]
  refine zfW hl λj u e h1 h2=>?_
  obtain ⟨bs,rb⟩:=hat j _ _ h1 h2
  exact isD_of (cds _ (List.mem_of_getElem? h2)).1 rb
def ygY (K:PySem.W.Frag):R2:=λx y H Q=>∃ p xs d ds,y = .ref p/\SqL K H p xs/\DaV K H x d/\DaVs K H xs ds/\d.canLay0=true/\(∀ e∈ds,e.canLay0=true/\e.depth<=30)/\Q (.bl (!(ds.any λe=>PyData.eqv e d))) H
def ygy (K:PySem.W.Frag):R2:=λx y H Q=>∃ p xs d ds,y = .ref p/\SqT K H p xs/\DaV K H x d/\DaVs K H xs ds/\d.canLay0=true/\(∀ e∈ds,e.canLay0=true/\e.depth<=30)/\Q (.bl (!(ds.any λe=>PyData.eqv e d))) H
theorem zhS (hu:X.A.units+64<cLine):OpR X (compareOp .NotIn) (ygY X.K):=by
 intro pins s σ H x y v u Q I rx ry h
 obtain ⟨p,xs,d,ds,rfl,hq,hd,hds,cd,cds,q⟩:=h
 cases ry
 obtain ⟨its,r,pl,hz⟩:=I.list hq
 obtain ⟨as,ra⟩:=hd.reads I rx
 obtain ⟨h1,h2⟩:=zd6 I hu ra hds r cd cds
 exact SeqAt.notIn_listAt (isD s.heap d) pl.isList h1 ⟨.bl _,H,I,rfl,by rw [h2];exact q⟩
theorem zgW (hu:X.A.units+64<cLine):OpR X (compareOp .NotIn) (ygy X.K):=by
 intro pins s σ H x y v u Q I rx ry h
 obtain ⟨p,xs,d,ds,rfl,hq,hd,hds,cd,cds,q⟩:=h
 cases ry
 obtain ⟨its,r,pl,hz⟩:=I.tuple hq
 obtain ⟨as,ra⟩:=hd.reads I rx
 obtain ⟨h1,h2⟩:=zd6 I hu ra hds r cd cds
 exact SeqAt.notIn_tupleAt (isD s.heap d) pl h1 ⟨.bl _,H,I,rfl,by rw [h2];exact q⟩
theorem zeQ (hu:X.A.units+64<cLine):OpR X (compareOp .NotIn) (λx y H Q=>∃ a o,y = .ref a/\DGet H a x o/\Q (.bl (!o.isSome)) H):=by
 intro pins s σ H x y v u Q I rx ry h
 obtain ⟨a,o,rfl,g,q⟩:=h
 cases ry
 exact zjA (Nat.lt_of_le_of_lt (Nat.add_le_add_left (by decide:1<=64) _) hu) I g rx λs' I' => ⟨.bl _,H,I',rfl,q⟩
end
end L2
namespace Sm
open PySem PySem.Spec L2
section
variable {T:Tb} {E:St->XK} {X:Cx}
theorem zdA (hK:X.K=T.K) (hu:X.A.units+64<cLine):Op T X (compareOp .NotIn) ydG:=by
 refine ⟨_,zeE.or ((zhS hu).or ((zgW hu).or (zeQ hu))),zj2 (neg:=true) (g:=compareOp .NotIn) hK ?_ ?_ ?_ ?_⟩
 ·exact λi j H Q q=>.inl ⟨i,j,rfl,rfl,q⟩
 ·exact λx y H Q p xs d ds e1 e2 e3 e4 e5 e6 q=>.inr (.inl ⟨p,xs,d,ds,e1,hK▸e2,hK▸e3,hK▸e4,e5,e6,q⟩)
 ·exact λx y H Q p xs d ds e1 e2 e3 e4 e5 e6 q=>.inr (.inr (.inl ⟨p,xs,d,ds,e1,hK▸e2,hK▸e3,hK▸e4,e5,e6,q⟩))
 ·exact λy a o H Q g q=>.inr (.inr (.inr ⟨a,o,rfl,g,q⟩))
end
section
variable {T:Tb} {E:St->XK} {X:Cx} {pos np cpos:Pos} {e:Expr} {es:List Expr} {x:Str} {c:Nat} {as:SL}
end
def ycP (T:Tb) (f:Fn) (r:List V->Hp->VK->Prop):Prop:=∀ (ι:Ix) (h:AH) (H:Hp) (xs:List AV) (us:List V) (E:XK) (Q:VK),Sim T ι h H->RVs T ι H xs us->Post T ι H E (RV T) (f xs h) Q->r us H Q
section
variable {T:Tb} {E:St->XK} {X:Cx} {pos p:Pos} {e a:Expr} {es:List Expr} {x:Str} {as:SL} {sa:SE}
theorem ygM {f:Fn} {r:List V->Hp->VK->Prop} (hs:ycP T f r) {σ:St} {H:Hp} {Q:VK} (q:tE T E (yae f as) σ H Q):tCB r (tA T E as) σ H Q:=by
 obtain ⟨ι,h,en,S,er,q⟩:=q
 exact ⟨ι,h,en,S,er,q.bind λxs h1 ι1 H1 us g1 S1 r1 q1=>hs ι1 h1 H1 xs us _ Q S1 r1 q1⟩
theorem r_bi {id:String} {f:Fn} (hc:∃ r,CallR X (.builtin id) r/\ycP T f r) (hg:Gl X x) (hm:X.mg x=none) (hv:bootBuiltins x=some (.builtin id)) (ha:PAA T E X (e::es) as) (hn:x ≠ "__name__" := by decide) (hdb:(x == ("__debug__" : Str))=false:=by decide)
  (he:starEach (e::es) X.env=(false,eval e X.env)::starEach es X.env:=by rfl) (hpl:(backTo pos (starEach es X.env)).any (·.1)=false:=by rfl):PEA T E X (.Call (.Name x p) (e::es) [] pos) (yae f as):=by
 obtain ⟨r,h1,h2⟩:=hc
 exact yaR (zeC h1 hg hm hv ha hn hdb he hpl) λσ H Q q=>ygM h2 q
theorem r_ty {id:String} {f:Fn} (hc:∃ r,CallR X (.type id) r/\ycP T f r) (hg:Gl X x) (hm:X.mg x=none) (hv:bootBuiltins x=some (.type id)) (ha:PAA T E X (e::es) as) (hn:x ≠ "__name__" := by decide) (hdb:(x == ("__debug__" : Str))=false:=by decide)
  (he:starEach (e::es) X.env=(false,eval e X.env)::starEach es X.env:=by rfl) (hpl:(backTo pos (starEach es X.env)).any (·.1)=false:=by rfl):PEA T E X (.Call (.Name x p) (e::es) [] pos) (yae f as):=by
 obtain ⟨r,h1,h2⟩:=hc
 exact yaR (zhs h1 hg hm hv ha hn hdb he hpl) λσ H Q q=>ygM h2 q
theorem b_len (hK:X.K=T.K):∃ r,CallR X (.builtin "len") r/\ycP T fLen r:=by
 refine ⟨_,zeG.or (zeF.or zhx),λι h H xs us E Q S r q=>?_⟩
 unfold fLen at q
 split at q
 ·cases r with
  | cons r r' =>
   cases r'
   obtain ⟨rfl,n,_⟩:=ybf r
   exact .inl ⟨_,rfl,n,q.now S (.int _)⟩
 ·cases r with
  | cons r r' =>
   cases r'
   obtain ⟨a,us,rfl,sq,rs⟩:=ydj r
   exact .inr (.inl ⟨a,us,rfl,.inr (hK▸sq),by rw [<- rs.length];exact q.now S (.int _)⟩)
 ·cases r with
  | cons r r' =>
   cases r'
   obtain ⟨a,us,rfl,sq,rs⟩:=ybF S r rfl
   exact .inr (.inl ⟨a,us,rfl,.inl (hK▸sq),by rw [<- rs.length];exact q.now S (.int _)⟩)
 ·rename_i n
  cases r with
  | cons r r' =>
   cases r'
   split at q
   ·rename_i xs hn
    obtain ⟨a,us,rfl,sq,rs⟩:=ybF (xs:=xs) S r (by simp [ybi,hn])
    exact .inr (.inl ⟨a,us,rfl,.inl (hK▸sq),by rw [<- rs.length];exact q.now S (.int _)⟩)
   ·rename_i kvs hn
    cases r with
    | @ref _ ad hr =>
     obtain ⟨o,e1,kus,rfl,rs⟩:=S.obj n _ ad hn hr
     exact .inr (.inr ⟨ad,kus,rfl,e1,by rw [<- Paired.length rs];exact q.now S (.int _)⟩)
   ·exact q.elim
 ·exact q.elim
theorem b_abs:∃ r,CallR X (.builtin "abs") r/\ycP T fAbs r:=by
 refine ⟨_,ziq,λι h H xs us E Q S r q=>?_⟩
 unfold fAbs at q
 split at q
 ·cases r with
  | cons r r' => cases r';rw [yaC r];exact ⟨_,rfl,q.now S (.int _)⟩
 ·exact q.elim
theorem yfB (hc:X.calm=true:=by rfl):∃ r,CallR X (.builtin "max") r/\ycP T ycE r:=by
 refine ⟨_,zhl hc,λι h H xs us E Q S r q=>?_⟩
 unfold ycE at q
 split at q
 ·cases r with
  | cons r r' => cases r' with
   | cons r1 r2=>cases r2;rw [yaC r,yaC r1];exact ⟨_,_,rfl,q.now S (.int _)⟩
 ·exact q.elim
theorem ye4 (hc:X.calm=true:=by rfl):∃ r,CallR X (.builtin "min") r/\ycP T ybQ r:=by
 refine ⟨_,zhm hc,λι h H xs us E Q S r q=>?_⟩
 unfold ybQ at q
 split at q
 ·cases r with
  | cons r r' => cases r' with
   | cons r1 r2=>cases r2;rw [yaC r,yaC r1];exact ⟨_,_,rfl,q.now S (.int _)⟩
 ·exact q.elim
theorem zeR {ι:Ix} {H:Hp}:∀ {xs:List AV} {us:List V} {bs:List Bool},RVs T ι H xs us->yd9 xs=some bs->us=bs.map V.bl
 | _,_,_,.nil,e=>by cases e;rfl
 | _,_,bs,.cons (x:=x) r rs,e=>by
  unfold yd9 at e
  split at e
  ·rename_i hh;cases hh
  ·rename_i b r' hh
   cases hh
   obtain ⟨bs',e1,rfl⟩:=Option.map_eq_some_iff.mp e
   rw [ycb r,zeR rs e1];rfl
  ·cases e
theorem b_all (hK:X.K=T.K) (hc:X.calm=true:=by rfl):∃ r,CallR X (.builtin "all") r/\ycP T fAll r:=by
 refine ⟨_,ziG hc,λι h H xs us E Q S r q=>?_⟩
 unfold fAll at q
 split at q
 ·split at q
  ·rename_i bs hb
   cases r with
   | cons r r' =>
    cases r'
    obtain ⟨a,us,rfl,sq,rs⟩:=ybF S r rfl
    rw [zeR rs hb] at sq
    exact ⟨a,bs,rfl,hK▸sq,q.now S (.bl _)⟩
  ·exact q.elim
 ·exact q.elim
theorem b_int:∃ r,CallR X (.type "int") r/\ycP T fInt r:=by
 refine ⟨_,zhn,λι h H xs us E Q S r q=>?_⟩
 unfold fInt at q
 split at q
 ·cases r with
  | cons r r' => cases r';rw [yaC r];exact .inl ⟨_,rfl,q.now S (.int _)⟩
 ·cases r with
  | cons r r' => cases r';rw [ycb r];exact .inr ⟨_,rfl,q.now S (.int _)⟩
 ·exact q.elim
abbrev tys:List String:=["NoneType", "bool", "int", "str", "list", "tuple", "dict"]
theorem ygj (K:PySem.W.Frag):∀ n∈tys,∀ t∈tys,PySem.W.kitOne K (.type n) (.type t)=some (n == t || (t == "int" && n == "bool")):=by
 intro n hn t ht
 simp only [tys,List.mem_cons,List.not_mem_nil,or_false] at hn ht
 rcases hn with rfl | rfl | rfl | rfl | rfl | rfl | rfl<;>rcases ht with rfl | rfl | rfl | rfl | rfl | rfl | rfl<;>rfl
theorem zhT {c:V} {cv:Value} (rc:∀ u,RelV c u->u=cv) :
  CallR X (.builtin "isinstance") (λxs H Q=>∃ a us r,xs=[.ref a,c]/\SqL X.K H a us/\PySem.W.kitOne X.K (.type "list") cv=some r/\Q (.bl r) H):=by
 intro pins s σ H xs us Q I r h
 obtain ⟨a,ws,k,rfl,sq,hk,q⟩:=h
 obtain ⟨u,w',rfl,rx,ry⟩:=yfj r
 obtain rfl:=rc _ ry
 obtain rfl:u=Value.ref a:=rx
 obtain ⟨its,_,⟨o,n,e1,e2,_⟩,_⟩:=I.list sq
 exact PySem.W.kia_one PySem.W.kitx_list I.kIn ⟨_,e1,e2⟩ hk (λz=>nomatch z) λtk=>⟨.bl k,H,I.tok _,rfl,q⟩
theorem yi0 {ι:Ix} {h:AH} {H:Hp} {v:AV} {u:V} {n:String} (S:Sim T ι h H) (r:RV T ι H v u) (e:tyN v h=some n):(TyOf T.K H u (.type n)\/(n = "list" /\ ∃ a us,u = .ref a/\SqL T.K H a us))/\n∈tys:=by
 unfold tyN at e
 cases r with
 | non=>cases e;exact ⟨.inl .non,by decide⟩
 | bl b=>cases e;exact ⟨.inl (.bl b),by decide⟩
 | int b=>cases e;exact ⟨.inl (.int b),by decide⟩
 | str n o=>cases e;exact ⟨.inl (.str _),by decide⟩
 | tup n q r=>cases e;exact ⟨.inl (.tup q),by decide⟩
 | fl n q r=>cases e;exact ⟨.inr ⟨rfl,_,_,rfl,.inl q⟩,by decide⟩
 | kfl q r=>cases e;exact ⟨.inr ⟨rfl,_,_,rfl,.inr q⟩,by decide⟩
 | @ref k a q =>
  dsimp only at e
  split at e
  ·rename_i xs hn
   cases e
   obtain ⟨o,e1,us,rfl,rs⟩:=S.obj k _ a hn q
   exact ⟨.inl (.lst e1),by decide⟩
  ·rename_i t kvs hn
   cases e
   obtain ⟨o,e1,r⟩:=S.obj k _ a hn q
   cases t with
   | false=>obtain ⟨kus,rfl,rs⟩:=r;exact ⟨.inl (.dK e1),by decide⟩
   | true=>obtain ⟨kus,rfl,rs⟩:=r;exact ⟨.inl (.dT e1),by decide⟩
  ·cases e
 | exc _ _ _=>cases e
theorem yfq {t:Str} {id:String} {p2:Pos} (hK:X.K=T.K) (hg:Gl X "isinstance") (hm:X.mg "isinstance" = none) (ha:PEA T E X a sa) (hgt:Gl X t) (hmt:X.mg t=none) (hvt:bootBuiltins t=some (.type id)) (hid:id∈tys) (hnt:t ≠ "__name__" := by decide) (hdt:(t == ("__debug__" : Str))=false:=by decide)
  (he:starEach [a,.Name t p2] X.env=(false,eval a X.env)::starEach [.Name t p2] X.env:=by rfl):PEA T E X (.Call (.Name "isinstance" p) [a,.Name t p2] [] pos) (sIsB id sa):=by
 refine yaR (zeC ((ziF (X:=X) (ygD id)).or (zhT (X:=X) (ygD id))) hg hm PyProof.Rows.boot_isinstance (zds ha (zds (zjl (v:=.ty id) hgt hmt hvt rfl hnt hdt) yf0) he) (he:=he)) λσ H Q=>E6x λι h en S er q=>⟨ι,h,en,S,er,q.bind λv h1 ι1 H1 u g1 S1 r1 q1=>?_⟩
 split at q1
 ·rename_i n hn
  obtain ⟨ty,hmem⟩:=yi0 S1 r1 hn
  rcases ty with ty | ⟨rfl,ad,us,rfl,sq⟩
  ·exact .inl ⟨u,.type n,_,rfl,hK▸ty,ygj _ n hmem id hid,q1.now S1 (.bl _)⟩
  ·exact .inr ⟨ad,us,_,rfl,hK▸sq,ygj _ _ hmem id hid,q1.now S1 (.bl _)⟩
 ·exact q1.elim
def MtS (T:Tb) (f:FM) (r:V->List V->Hp->VK->Prop):Prop:=∀ (ι:Ix) (h:AH) (H:Hp) (x:AV) (xs:List AV) (u:V) (us:List V) (E:XK) (Q:VK),Sim T ι h H->RV T ι H x u->RVs T ι H xs us->Post T ι H E (RV T) (f x xs h) Q->r u us H Q
def ChkS (T:Tb) (chk:AV->AH->Bool) (n:String):Prop:=∀ (ι:Ix) (h:AH) (H:Hp) (x:AV) (u:V),Sim T ι h H->RV T ι H x u->chk x h=true->tyV T.K n u H
theorem zaj:ChkS T yat "list" := λι h H x u S r e=>by
 obtain ⟨xs,e1⟩:=Option.isSome_iff_exists.mp e
 obtain ⟨a,us,rfl,sq,rs⟩:=ybF S r e1
 exact .inl ⟨rfl,us,sq⟩
theorem zf7:ChkS T yfm "str" := λι h H x u S r e=>by
 unfold yfm at e
 split at e
 ·obtain ⟨rfl,_⟩:=ybf r;rfl
 ·cases e
variable {o:Expr} {so:SE} {name:Str} {apos:Pos} {chk:AV->AH->Bool} {f:FM} {tn id:String}
theorem r_bm (hK:X.K=T.K) (pa:PlainAttrs tn) (slot:Slot tn name id) (hty:typeOf (.builtin id)=pure (.type "method_descriptor")) (hm:∃ r,MtR X id r/\MtS T f r) (hc:ChkS T chk tn) (ho:PEA T E X o so) (ha:PAA T E X (e::es) as)
  (hbase:attributeBase o name X.env (eval o X.env)=eval o X.env:=by rfl)
  (hfew:((backTo pos (starEach (e::es) X.env)).all (λx=>!x.1) && (backToKw pos (keywordEach [] X.env)).all (λx=>x.1.isSome)
   && decide ((e::es).length+([]:List Keyword).length+(if ([]:List Keyword).isEmpty then 0 else 1)<30))=true:=by rfl)
  (hline:(apos.endLine == pos.line)=true:=by rfl) (hs:starEach (e::es) X.env=(false,eval e X.env)::starEach es X.env:=by rfl) (hplain:(backTo pos (starEach es X.env)).any (·.1)=false:=by rfl) :
  PEA T E X (.Call (.Attribute o name apos) (e::es) [] pos) (sBM chk f so as):=by
 obtain ⟨r,h1,h2⟩:=hm
 refine yaR (yiJ pa slot hty h1 ho ha hbase hfew hline hs hplain) λσ H Q=>E6x λι h en S er q=>⟨ι,h,en,S,er,q.bind λx h1 ι1 H1 u g1 S1 r1 q1=>?_⟩
 by_cases hx:chk x h1=true
 ·rw [if_pos hx] at q1
  exact ⟨hK▸hc ι1 h1 H1 x u S1 r1 hx,ι1,h1,en,S1,er.mono g1,q1.bind λxs h2' ι2 H2 us g2 S2 r2 q2=>h2 ι2 h2' H2 x xs u us _ Q S2 (r1.mono g2) r2 q2⟩
 ·rw [if_neg hx] at q1;exact q1.elim
theorem yfr (hK:X.K=T.K) (pa:PlainAttrs tn) (slot:Slot tn name id) (hty:typeOf (.builtin id)=pure (.type "method_descriptor")) (hm:∃ r,MtR X id r/\MtS T f r) (hc:ChkS T chk tn) (ho:PEA T E X o so)
  (hbase:attributeBase o name X.env (eval o X.env)=eval o X.env:=by rfl) (hline:(apos.endLine == pos.line)=true:=by rfl):PEA T E X (.Call (.Attribute o name apos) [] [] pos) (sBM0 chk f so):=by
 obtain ⟨r,h1,h2⟩:=hm
 refine yaR (yhr pa slot hty h1 ho hbase hline) λσ H Q=>E6x λι h en S er q=>⟨ι,h,en,S,er,q.bind λx h1 ι1 H1 u g1 S1 r1 q1=>?_⟩
 by_cases hx:chk x h1=true
 ·rw [if_pos hx] at q1
  exact ⟨hK▸hc ι1 h1 H1 x u S1 r1 hx,h2 ι1 h1 H1 x [] u [] _ Q S1 r1 .nil q1⟩
 ·rw [if_neg hx] at q1;exact q1.elim
theorem zak:∃ r,MtR X "list.append" r/\MtS T yav r:=by
 refine ⟨_,zd0,λι h H x xs u us E Q S rx rs q=>?_⟩
 unfold yav at q
 split at q
 ·rename_i n y
  split at q
  ·rename_i ys hn
   split at q
   ·rename_i hl
    cases rx with
    | @ref _ ad hr =>
     cases rs with
     | @cons _ uu _ _ r r' =>
      cases r'
      obtain ⟨o,e1,ws,rfl,rw_⟩:=S.obj n _ ad hn hr
      have g:=S.growSet (u:=.lst (ws++[uu])) hr
      exact ⟨ad,ws,_,rfl,rfl,e1,by rw [<- rw_.length];exact hl,q ι _ _ g (S.set hr ⟨_,rfl,(rw_.mono g).append (.cons (r.mono g) .nil)⟩) .non⟩
   ·exact q.elim
  ·exact q.elim
 ·exact q.elim
theorem yfP:∃ r,MtR X "list.pop" r/\MtS T mPop r:=by
 refine ⟨_,yhs,λι h H x xs u us E Q S rx rs q=>?_⟩
 unfold mPop at q
 split at q
 ·rename_i n
  split at q
  ·rename_i ys hn
   split at q
   ·rename_i y hy
    cases rx with
    | @ref _ ad hr =>
     cases rs
     obtain ⟨o,e1,ws,rfl,rw_⟩:=S.obj n _ ad hn hr
     have g:=S.growSet (u:=.lst ws.dropLast) hr
     obtain ⟨v,e2,r2⟩:=rw_.get hy
     refine ⟨ad,ws,v,rfl,rfl,e1,by rw [<- rw_.length];exact e2,q ι _ _ g (S.set hr ⟨_,rfl,?_⟩) (r2.mono g)⟩
     have z:=(rw_.mono g).take (ys.length-1)
     have e3:ys.take (ys.length-1)=ys.dropLast:=List.dropLast_eq_take.symm
     have e4:ws.take (ys.length-1)=ws.dropLast:=by rw [rw_.length];exact List.dropLast_eq_take.symm
     rw [e3,e4] at z
     exact z
   ·exact q.elim
  ·exact q.elim
 ·exact q.elim
theorem ziT:∃ r,MtR X "str.count" r/\MtS T yfg r:=by
 refine ⟨_,zeJ,λι h H x xs u us E Q S rx rs q=>?_⟩
 unfold yfg at q
 split at q
 ·cases rs with
  | cons r r' =>
   cases r'
   obtain ⟨rfl,_⟩:=ybf rx
   obtain ⟨rfl,_⟩:=ybf r
   exact ⟨_,_,rfl,rfl,q.now S (.int _)⟩
 ·exact q.elim
theorem zf8 {ι:Ix} {H:Hp}:∀ {xs:List AV} {us:List V} {zs:List Str},RVs T ι H xs us->yex xs=some zs->us=zs.map V.str/\∀ z∈zs,z.cps.all (· < 0x110000)=true
 | _,_,_,.nil,e=>by cases e;exact ⟨rfl,by simp⟩
 | _,_,zs,.cons (x:=x) r rs,e=>by
  unfold yex at e
  split at e
  ·rename_i hh;cases hh
  ·rename_i b r' hh
   cases hh
   obtain ⟨zs',e1,rfl⟩:=Option.map_eq_some_iff.mp e
   obtain ⟨rfl,_,o⟩:=ybf r
   obtain ⟨h1,h2⟩:=zf8 rs e1
   refine ⟨by rw [h1];rfl,λz hz=>?_⟩
   rcases List.mem_cons.mp hz with rfl | hz
   ·exact o
   ·exact h2 z hz
  ·cases e
theorem yhN (hK:X.K=T.K):∃ r,MtR X "str.join" r/\MtS T yeJ r:=by
 refine ⟨_,zjO,λι h H x xs u us E Q S rx rs q=>?_⟩
 unfold yeJ at q
 split at q
 ·rename_i z y
  split at q
  ·rename_i hz
   subst hz
   split at q
   ·rename_i ys hy
    split at q
    ·rename_i zs hzs
     split at q
     ·rename_i hl
      cases rs with
      | cons r r' =>
       cases r'
       obtain ⟨rfl,_⟩:=ybf rx
       obtain ⟨a,ws,rfl,sq,rw_⟩:=ybF S r hy
       obtain ⟨h1,h2⟩:=zf8 rw_ hzs
       subst h1
       refine ⟨a,zs,rfl,rfl,hK▸sq,hl,λrr hrr=>?_⟩
       have e:rr=⟨((zs.map λx:Str=>x.cps.toList).flatten).toArray⟩:=by
        cases rr
        simp only [Str.mk.injEq]
        rw [<- hrr]
       rw [e]
       refine q.now S (.str ?_ ?_)
       ·show ((zs.map λx:Str=>x.cps.toList).flatten).toArray.size<=sizeLine
        rw [List.size_toArray]
        exact Nat.le_trans hl (by decide)
       ·rw [Array.all_eq_true_iff_forall_mem]
        intro c hc
        simp only [List.mem_toArray,List.mem_flatten,List.mem_map] at hc
        obtain ⟨l,⟨zz,hz1,rfl⟩,hc2⟩:=hc
        exact Array.all_eq_true_iff_forall_mem.mp (h2 zz hz1) c (by simpa using hc2)
     ·exact q.elim
    ·exact q.elim
   ·exact q.elim
  ·exact q.elim
 ·exact q.elim
end
theorem Out.bind_assoc {α β γ:Type} (o:Out α) (f:α->AH->Out β) (g:β->AH->Out γ):(o.bind f).bind g=o.bind λa h=>(f a h).bind g:=by cases o<;>rfl
section
variable {T:Tb} {E:St->XK} {X:Cx} {pos p2:Pos} {a b:Expr} {sa sb:SE}
def tO (T:Tb) (E:St->XK):Option SE->TO
 | none=>yfJ
 | some s=>ygA (tE T E s)
abbrev POA (T:Tb) (E:St->XK) (X:Cx) (e:Option Expr) (s:Option SE):Prop:=PO X e (tO T E s)
theorem zaR:POA T E X none none:=zjv
theorem zaG (h:PEA T E X a sa):POA T E X (some a) (some sa):=zjw h
@[simp] def yfs (s:Option SE):En->AH->Out (Option Int):=λen h=>match s with
 | none=>.ok none h
 | some l=>(l en h).bind λv h2=>match v with | .int i=>.ok (some i) h2 | _=>.bad
theorem zf9 {s:Option SE} {σ:St} {H:Hp} {ι:Ix} {h:AH} {en:En} {γ δ:Type} {R':Ix->Hp->γ->δ->Prop} {Q0:δ->Hp->Prop} {f:Option Int->AH->Out γ} {Q:Option Int->Hp->Prop} (S:Sim T ι h H) (er:ER T ι H en σ) (q:Post T ι H (E σ) R' ((yfs s en h).bind f) Q0)
  (k:∀ l h' ι' H',Grow ι H ι' H'->Sim T ι' h' H'->Post T ι' H' (E σ) R' (f l h') Q0->Q l H'):tO T E s σ H Q:=by
 cases s with
 | none=>exact k none h ι H S.refl S q
 | some l =>
  refine ⟨ι,h,en,S,er,?_⟩
  unfold yfs at q
  dsimp only at q
  rw [Out.bind_assoc] at q
  refine q.bind λv h1 ι1 H1 u g1 S1 r1 q1=>?_
  split at q1
  ·rw [yaC r1]
   exact ⟨_,rfl,k _ _ ι1 H1 g1 S1 q1⟩
  ·exact q1.elim
@[simp] def ybe (x:AV) (l u:Option Int) (h:AH):Out AV:=match x with
 | .fl xs=>.ok (.fl (cutA xs l u)) h
 | .str z=>.ok (.str (cutS z l u)) h
 | .tup xs=>if ¬ (HT.sIx xs.length 0 l=0/\HT.sIx xs.length xs.length u=xs.length) then .ok (.tup (cutA xs l u)) h else .bad
 | .ref n=>match h[n]? with
  | some (.lst xs)=>.ok (.fl (cutA xs l u)) h
  | _=>.bad
 | _=>.bad
@[simp] def sCut (a:SE) (lo hi:Option SE):SE:=λen h=>(a en h).bind λx h1=>(yfs lo en h1).bind λl h2=>(yfs hi en h2).bind λu h3=>ybe x l u h3
theorem RVs.cut {ι:Ix} {H:Hp} {xs:List AV} {us:List V} {lo hi:Option Int} (r:RVs T ι H xs us):RVs T ι H (cutA xs lo hi) (cutV us lo hi):=by
 unfold cutA cutV
 rw [<- r.length]
 exact (r.drop _).take _
theorem yhO {ι:Ix} {H:Hp} {z:Str} {l u:Option Int} (hz:z.length<=sizeLine) (hc:z.cps.all (· < 0x110000)=true):RV T ι H (.str (cutS z l u)) (.str (cutS z l u)):=by
 refine .str ?_ ?_
 ·refine Nat.le_trans ?_ hz
  simp [cutS,Str.length];lia
 ·simp only [cutS,List.all_toArray,List.all_eq_true]
  intro c h
  have hm:c∈z.cps.toList:=List.mem_of_mem_drop (List.mem_of_mem_take h)
  exact (Array.all_eq_true_iff_forall_mem.mp hc) c (by simpa using hm)
theorem zaM {lo hi:Option Expr} {sl sh:Option SE} (hK:X.K=T.K) (ha:PEA T E X a sa) (hl:POA T E X lo sl) (hh:POA T E X hi sh):PEA T E X (.Subscript a (.Slice lo hi none p2) pos) (sCut sa sl sh):=by
 refine yaR (ziu (zjz.or (sl_tup.or yhE)) ha hl hh) λσ H Q=>E6x λι h en S er q=>⟨ι,h,en,S,er,q.bind λx h1 ι1 H1 u g1 S1 r1 q1=>?_⟩
 refine zf9 (E:=E) S1 (er.mono g1) q1 λl h2 ι2 H2 g2 S2 q2=>zf9 (E:=E) S2 (er.mono (g1.trans g2)) q2 λw h3 ι3 H3 g3 S3 q3=>?_
 have r3:=r1.mono (g2.trans g3)
 unfold ybe at q3
 split at q3
 ·obtain ⟨ad,us,rfl,sq,rs⟩:=ybF S3 r3 rfl
  exact .inl ⟨ad,us,rfl,hK▸sq,λp n=>yey S3 rs.cut n q3⟩
 ·obtain ⟨rfl,hz,hc⟩:=ybf r3
  exact .inr (.inr ⟨_,rfl,hz,q3.now S3 (yhO hz hc)⟩)
 ·rename_i xs
  split at q3
  ·rename_i hz
   obtain ⟨ad,us,rfl,sq,rs⟩:=ydj r3
   exact .inr (.inl ⟨ad,us,rfl,hK▸sq,by rw [<- rs.length];exact hz,λp n=>zdu S3 rs.cut n q3⟩)
  ·exact q3.elim
 ·split at q3
  ·rename_i xs hn
   obtain ⟨ad,us,rfl,sq,rs⟩:=ybF (xs:=xs) S3 r3 (by simp [ybi,hn])
   exact .inl ⟨ad,us,rfl,hK▸sq,λp n=>yey S3 rs.cut n q3⟩
  ·exact q3.elim
 ·exact q3.elim
theorem r_gI {x:Str} {i:Int} {p:Pos} (hg:Gl X x) (hm:∃ t,X.mg x=some (.int i t)) (hd:(x == ("__debug__" : Str))=false:=by decide):PEA T E X (.Name x p) (sLit (.int i)):=by
 obtain ⟨t,hm⟩:=hm
 exact zjR hg hm hd
end
def DG (K:PySem.W.Frag) (mg:Str->Option Value) (x:Str) (st:Stmt) (ps:List Str):Prop:=∃ f fd,mg x=some (.ref f)/\PySem.W.keepIn K (.ref f)=true/\Binds K fd ps []/\Fun K x x st f fd
def yfL (N:List Str) (sc:Scope) (ns:List Str) (jf:List (Nat×Str)) (scope:Scope):Bool :=
 decide (ns++jf.map (·.2)).Nodup && ns.all (λx=>scope.names.lookup x == some .local) && jf.all (λp=>N[p.1]? == some p.2) && jf.all (λp=>scope.names.lookup p.2 == some .free) && (scope.kind == .function) &&
 scope.names.all (λy=>y.2 != .cell) && scope.names.all (λy=>y.2 != .free || sc.names.lookup y.1 == some .cell || sc.names.lookup y.1 == some .free) && scope.names.all (λy=>y.2 != .local || scope.names.lookup y.1 == some .local)
theorem zaI {X:Cx} {N:List Str} {sc scope:Scope} {ns:List Str} {jf:List (Nat×Str)} (hN:X.N=N) (hk:∀ x,X.env.kindOf x=sc.names.lookup x) (h:yfL N sc ns jf scope=true):CompOk X ns jf scope:=by
 unfold yfL at h
 simp only [Bool.and_eq_true,decide_eq_true_eq,List.all_eq_true,beq_iff_eq,bne_iff_ne,Bool.or_eq_true] at h
 obtain ⟨⟨⟨⟨⟨⟨⟨h1,h2⟩,h3⟩,h4⟩,h5⟩,h6⟩,h7⟩,h8⟩:=h
 refine ⟨h1,h2,λp hp=>by rw [hN];exact h3 p hp,h4,h5,λy hy=>h6 y hy,λy hy e=>?_,λy hy e=>?_⟩
 ·rw [hk]
  rcases h7 y hy with (z | z) | z
  ·exact absurd e z
  ·exact .inl z
  ·exact .inr z
 ·rcases h8 y hy with z | z
  ·exact absurd e z
  ·exact z
theorem zdB {T:Tb} {ι:Ix} {H:Hp}:∀ ns:List Int,RVs T ι H (ns.map AV.int) (ns.map V.int)
 | []=>.nil
 | n::ns=>.cons (.int n) (zdB ns)
theorem sim0 {T:Tb} {H:Hp}:Sim T ⟨[],[]⟩ [] H:=⟨rfl,List.nodup_nil,(λ_ z=>nomatch z),(λi o a e=>by simp at e)⟩
def spL (K:PySem.W.Frag):Sp:=λvs H Q _=>∃ (a:Addr) (ns:List Int),vs=[.ref a]/\SqL K H a (ns.map V.int)/\ns.length<=63/\∀ H',Q (.bl true) H'
theorem zj3 {T:Tb} {F:Fn} (ht:∀ ns:List Int,ns.length<=63->∃ h',F [.fl (ns.map AV.int)] [] = .ok (.bl true) h'):∀ vs H Q E,spL T.K vs H Q E->spA T F vs H Q E:=by
 rintro vs H Q E ⟨a,ns,rfl,hs,hl,q⟩
 obtain ⟨h',e⟩:=ht ns hl
 refine ⟨⟨[],[]⟩,[],[.fl (ns.map AV.int)],sim0,.cons ?_ .nil,?_⟩
 ·rcases hs with hs | hs
  ·exact .fl (by simp [Ix.all]) hs (zdB ns)
  ·exact .kfl hs (zdB ns)
 ·rw [e]
  intro ι' H' u g S r
  rw [ycb r]
  exact q H'
theorem zhU {P:Program} {w:World} {outer:List Env} {H:Hp} {s s':Shared} {e:Value} (h:CXE P w outer H s (λ_ _ _=>False) e s'):False:=by
 obtain ⟨_,_,_,_,_,_,_,_,_,_,_,_,_,_,_,_,q⟩:=h
 exact q
@[simp] def yeA:List AV->Option (List Int)
 | []=>some []
 | .int i::r=>(yeA r).map (i :: ·)
 | _=>none
@[simp] def fSum:Fn:=λargs h=>match args with
 | [.fl xs]=>match yeA xs with
  | some ns=>.ok (.int ns.sum) h
  | none=>.bad
 | _=>.bad
@[simp] def ycs (a b c:SE):SI:=λen h=>(a en h).bind λv h1=>(b en h1).bind λw h2=>(c en h2).bind λz h3=>match v,w,z with
 | .int i,.int j,.int k=>if i.natAbs<2 ^ 40/\j.natAbs<2 ^ 40/\0<k/\k<2 ^ 20 then .ok ((List.range (if i<j then (j-i-1) / k+1 else 0:Int).toNat).map (λm:Nat=>.int (i+m*k)),none) h3 else .bad
 | _,_,_=>.bad
@[simp] def fIsB:F2:=λx y h=>match x,y with
 | .bl a,.bl b=>.ok (.bl (a == b)) h
 | _,_=>.bad
@[simp] def yfh (f f' f'':F2) (a b c d:SE):SE:=λen h=>(a en h).bind λx h1=>(b en h1).bind λy h2=>(f x y h2).bind λz h3=>match z with
 | .bl k=>if k=true then (c en h3).bind λw h4=>(f' y w h4).bind λz2 h5=>(match z2 with
  | .bl k2=>if k2=true then (d en h5).bind λv h6=>f'' w v h6 else .ok (.bl false) h5
  | _=>.bad) else .ok (.bl false) h3
 | _=>.bad
section
variable {T:Tb} {E:St->XK} {X:Cx} {pos p:Pos} {e a b c:Expr} {sa sb sc:SE}
theorem zga {ι:Ix} {H:Hp}:∀ {xs:List AV} {us:List V} {bs:List Int},RVs T ι H xs us->yeA xs=some bs->us=bs.map V.int
 | _,_,_,.nil,e=>by cases e;rfl
 | _,_,bs,.cons (x:=x) r rs,e=>by
  unfold yeA at e
  split at e
  ·rename_i hh;cases hh
  ·rename_i b r' hh
   cases hh
   obtain ⟨bs',e1,rfl⟩:=Option.map_eq_some_iff.mp e
   rw [yaC r,zga rs e1];rfl
  ·cases e
theorem b_sum (hK:X.K=T.K) (hc:X.calm=true:=by rfl):∃ r,CallR X (.builtin "sum") r/\ycP T fSum r:=by
 refine ⟨_,ziO hc,λι h H xs us E Q S r q=>?_⟩
 unfold fSum at q
 split at q
 ·split at q
  ·rename_i bs hb
   cases r with
   | cons r r' =>
    cases r'
    obtain ⟨a,us,rfl,sq,rs⟩:=ybF S r rfl
    rw [zga rs hb] at sq
    exact ⟨a,bs,rfl,hK▸sq,q.now S (.int _)⟩
  ·exact q.elim
 ·exact q.elim
theorem zgX {ι:Ix} {H:Hp} {lo c:Int} {n:Nat}:ItR T (Itr3 lo c n) ι H ((List.range n).map (λm:Nat=>AV.int (lo+m*c))) none:=by
 constructor
 ·intro i ι' h' H' y g S _ e
  rw [List.getElem?_map] at e
  obtain ⟨m,e1,rfl⟩:=Option.map_eq_some_iff.mp e
  have hi:i<n:=by
   have:=(List.getElem?_eq_some_iff.mp e1).1
   simpa using this
  rw [List.getElem?_range hi] at e1
  cases e1
  refine ⟨hi,?_⟩
  rintro u H2 ⟨rfl,rfl⟩
  exact ⟨S.refl,S,.int _⟩
 ·intro i ι' h' H' g S _ hl
  have hl':n<=i:=by simpa using hl
  exact hl'
theorem zd7 {tg:Expr} {p:Pos} (hg:Gl X "range") (hm:X.mg "range" = none) (ha:PEA T E X a sa) (hb:PEA T E X b sb) (hc:PEA T E X c sc) (hs:starEach [a,b,c] X.env=[(false,eval a X.env),(false,eval b X.env),(false,eval c X.env)]:=by rfl) (hs2:starEach [b,c] X.env=[(false,eval b X.env),(false,eval c X.env)]:=by rfl) (hs3:starEach [c] X.env=[(false,eval c X.env)]:=by rfl) :
  PIA T X tg (.Call (.Name "range" p) [a,b,c] [] pos) (ycs sa sb sc) :=
 yez (zhL hg hm (zaa ha (zaa hb (zaa hc yac hs3) (by rw [hs2,hs3])) (by rw [hs,hs2])) hs hs2) λσ H R=>E6x λι h en S er q=>by
  unfold ycs at q
  refine ⟨ι,h,en,S,er,?_⟩
  unfold yab
  cases e:sa en h with
  | bad=>rw [e] at q;exact q
  | ex c h1=>rw [e] at q;exact q.elim
  | ok v h1 =>
   rw [e] at q
   dsimp only [Out.bind] at q ⊢
   cases e':sb en h1 with
   | bad=>rw [e'] at q;exact q
   | ex c h1=>rw [e'] at q;exact q.elim
   | ok v' h2 =>
    rw [e'] at q
    dsimp only at q ⊢
    cases e'':sc en h2 with
    | bad=>rw [e''] at q;exact q
    | ex c h1=>rw [e''] at q;exact q.elim
    | ok v'' h3 =>
     rw [e''] at q
     dsimp only at q
     intro ι1 H1 u g1 S1 r1
     split at q
     ·rename_i hx
      split at hx
      ·split at hx
       ·rename_i hb
        cases hx
        cases r1 with
        | cons r r' =>
         cases r' with
         | cons r2 r3 =>
          cases r3 with
          | cons r4 r5 =>
           cases r5
           rw [yaC r,yaC r2,yaC r4]
           exact ⟨_,_,_,rfl,hb,q ι1 H1 _ g1 S1 zgX⟩
       ·cases hx
      ·cases hx
     ·exact q.elim
theorem ya6 {sts:List Stmt} {E:St->XK}:PSsA T E X sts (λ_ _=>.bad):=λpins s σ H D I ⟨ι,h,en,S,er,q⟩=>q.elim
theorem yjp {ι:Ix} {H:Hp} {z:Str} (hz:z.length<=sizeLine) (hc:z.cps.all (· < 0x110000)=true):RV T ι H (.str (revS z)) (.str (revS z)):=by
 refine .str ?_ ?_
 ·refine Nat.le_trans ?_ hz
  simp [revS,Str.length]
 ·simp only [revS,List.all_toArray,List.all_eq_true,List.mem_reverse]
  intro c h
  exact (Array.all_eq_true_iff_forall_mem.mp hc) c (by simpa using h)
theorem zhV {d:Expr} {sd:SE} {op op' op'':CmpOp} {f f' f'':F2} (ho:Op T X (compareOp op) f) (ho':Op T X (compareOp op') f') (ho'':Op T X (compareOp op'') f'') (ha:PEA T E X a sa) (hb:PEA T E X b sb) (hc:PEA T E X c sc) (hd:PEA T E X d sd) (hm:lastMarks [op,op',op''] [b,c,d]=false:=by with_unfolding_all rfl) :
  PTA T E X (.Compare a [op,op',op''] [b,c,d] pos) (yam (yfh f f' f'' sa sb sc sd)):=by
 obtain ⟨r,h1,hs⟩:=ho
 obtain ⟨r',h1',hs'⟩:=ho'
 obtain ⟨r'',h1'',hs''⟩:=ho''
 refine yew (zhM h1 h1' h1'' ha hb hc hd hm) λσ H Q q=>?_
 obtain ⟨ι,h,en,S,er,q⟩:=q
 unfold yam yfh at q
 rw [Out.bind_assoc] at q
 refine ⟨ι,h,en,S,er,q.bind λx h1 ι1 H1 u g1 S1 r1 q1=>?_⟩
 rw [Out.bind_assoc] at q1
 refine ⟨ι1,h1,en,S1,er.mono g1,q1.bind λy h2 ι2 H2 w g2 S2 r2 q2=>?_⟩
 rw [Out.bind_assoc] at q2
 refine hs ι2 h2 H2 x y u w (E σ) _ S2 (r1.mono g2) r2 (q2.bind λz h3 ι3 H3 k g3 S3 r3 q3=>?_)
 split at q3
 ·rename_i kk
  rw [ycb r3]
  refine ⟨kk,rfl,?_⟩
  by_cases hkk:kk=true
  ·rw [if_pos hkk] at q3 ⊢
   rw [Out.bind_assoc] at q3
   refine ⟨ι3,h3,en,S3,er.mono (g1.trans (g2.trans g3)),q3.bind λv h4 ι4 H4 j g4 S4 r4 q4=>?_⟩
   rw [Out.bind_assoc] at q4
   refine hs' ι4 h4 H4 y v w j (E σ) _ S4 (r2.mono (g3.trans g4)) r4 (q4.bind λz2 h5 ι5 H5 k5 g5 S5 r5 q5=>?_)
   split at q5
   ·rename_i k2
    rw [ycb r5]
    refine ⟨k2,rfl,?_⟩
    by_cases hk2:k2=true
    ·rw [if_pos hk2] at q5 ⊢
     rw [Out.bind_assoc] at q5
     refine ⟨ι5,h5,en,S5,er.mono (g1.trans (g2.trans (g3.trans (g4.trans g5)))),q5.bind λv6 h6 ι6 H6 j6 g6 S6 r6 q6=>?_⟩
     refine hs'' ι6 h6 H6 v v6 j j6 (E σ) _ S6 (r4.mono (g5.trans g6)) r6 (q6.bind λz7 h7 ι7 H7 k7 g7 S7 r7 q7=>?_)
     split at q7
     ·rw [ycb r7];exact ⟨_,rfl,q7.now S7 rfl⟩
     ·exact q7.elim
    ·rw [if_neg hk2] at q5 ⊢
     exact ⟨false,rfl,q5.now S5 rfl⟩
   ·exact q5.elim
  ·rw [if_neg hkk] at q3 ⊢
   exact ⟨false,rfl,q3.now S3 rfl⟩
 ·exact q3.elim
end
theorem el1:∀ {us:List Value},us.length=1->∃ a:Value,us=[a]
 | [a],_=>⟨a,rfl⟩
theorem el2:∀ {us:List Value},us.length=2->∃ a b:Value,us=[a,b]
 | [a,b],_=>⟨a,b,rfl⟩
theorem el3:∀ {us:List Value},us.length=3->∃ a b c:Value,us=[a,b,c]
 | [a,b,c],_=>⟨a,b,c,rfl⟩
theorem el4:∀ {us:List Value},us.length=4->∃ a b c d:Value,us=[a,b,c,d]
 | [a,b,c,d],_=>⟨a,b,c,d,rfl⟩
theorem yhP {T:Tb} {ι:Ix} {H:Hp} {z:Str} {n:Nat} (hl:z.length*n<=1000000) (hc:z.cps.all (· < 0x110000)=true):RV T ι H (.str (repS z n)) (.str (repS z n)):=by
 refine .str ?_ ?_
 ·refine Nat.le_trans ?_ (Nat.le_trans hl (by decide))
  simp [repS,Str.length,Nat.mul_comm]
 ·simp only [repS,List.all_toArray,List.all_eq_true,List.mem_flatten,List.mem_replicate]
  rintro c ⟨l,⟨_,rfl⟩,hm⟩
  exact (Array.all_eq_true_iff_forall_mem.mp hc) c (by simpa using hm)
def ye5:Nat:=100000000
def un2 {α:Type} (c:En->AH->Out α):En->AH->Out α:=λen h=>match en with
 | some (.tup [y,z])::r=>c (some y::some z::r) h
 | _=>.bad
theorem yhQ {α:Type} (c:En->AH->Out α) (x:AV):(∃ y z,x = .tup [y,z])\/∀ r h,un2 c (some x::r) h = .bad:=by
 match x with
 | .tup [y,z]=>exact .inl ⟨y,z,rfl⟩
 | .tup []=>exact .inr λ_ _=>rfl
 | .tup [_]=>exact .inr λ_ _=>rfl
 | .tup (_::_::_::_)=>exact .inr λ_ _=>rfl
 | .non=>exact .inr λ_ _=>rfl
 | .exc _=>exact .inr λ_ _=>rfl
 | .bl _=>exact .inr λ_ _=>rfl
 | .int _=>exact .inr λ_ _=>rfl
 | .str _=>exact .inr λ_ _=>rfl
 | .fl _=>exact .inr λ_ _=>rfl
 | .ref _=>exact .inr λ_ _=>rfl
@[simp] theorem yjq {α:Type} (c:En->AH->Out α) (y z:AV) (r:En) (h:AH):un2 c (some (.tup [y,z])::r) h=c (some y::some z::r) h:=rfl
@[simp] def ydk (js:List Nat) (it:SI) (c:SB) (e:SE):SE:=ybd js it (un2 c) (un2 e)
section
variable {T:Tb} {E:St->XK} {X:Cx} {pos px p1 p2:Pos} {kk:Nat} {iter elt:Expr} {ifs:List Expr} {scope:Scope} {x₁ x₂:Str} {jf:List (Nat×Str)} {it:SI} {cc:SB} {ce:SE}
theorem yhR:UnOk T 2 (gTup T.K 2 (yeV (ydc 0) (yeV (ydc 1) gNil))) (un2 cc) cc (un2 ce) ce:=λx=>by
 rcases yhQ cc x with ⟨y,z,rfl⟩ | z
 ·refine .inr ⟨[y,z],rfl,λ_ _=>rfl,λ_ _=>rfl,λ_ _ _ r=>?_⟩
  obtain ⟨a,us,rfl,sq,rs⟩:=ydj r
  cases rs with
  | cons rA rB' => cases rB' with
   | cons rB rN =>
    cases rN
    exact ⟨_,.cons rA (.cons rB .nil),λ_ _ q=>⟨_,_,rfl,sq,rfl,_,_,rfl,_,_,rfl,rfl,q⟩⟩
 ·exact .inl z
theorem cpg2 {pins:List (Addr×Obj)} {cl:List (Str×Addr)} {s:Shared} {H:Hp} {fp:List Addr} (hK:X.K=T.K) (hcalm:X.calm=true) (C:CompOk X [x₁,x₂] jf scope):PG (yaT X pins [x₁,x₂] jf scope cl s H fp) (.Tuple [.Name x₁ p1,.Name x₂ p2] kk px) (gTup T.K 2 (yeV (ydc 0) (yeV (ydc 1) gNil))) :=
 hK▸yfW (X:=yaT X pins [x₁,x₂] jf scope cl s H fp) hcalm (zcI (C.pg 0 rfl (.head _)) (zcI (C.pg 1 rfl (.tail _ (.head _))) zfM))
theorem zgb (hK:X.K=T.K) (C:CompOk X [x₁,x₂] jf scope) (hcalm:X.calm=true) (hi:PIA T X (.Tuple [.Name x₁ p1,.Name x₂ p2] kk px) iter it) (hc:∀ pins cl s H fp,PTs (yaT X pins [x₁,x₂] jf scope cl s H fp) ifs (tT T EN cc)) (he:∀ pins cl s H fp,PEA T EN (yaT X pins [x₁,x₂] jf scope cl s H fp) elt ce)
  (hs:∀ x,foldedSetIterable iter X.env x=pure x:=by intro _;rfl):PEA T E X (.ListComp elt [⟨.Tuple [.Name x₁ p1,.Name x₂ p2] kk px,iter,ifs,0⟩] scope pos) (ydk (jf.map (·.1)) it cc ce) :=
 yaR (zfU hcalm (λ_ _ _ _ _=>cpg2 hK hcalm C) hi hc he C hs) λ_ _ _ q=>zdv yhR q
end
section
variable {T:Tb} {E:St->XK} {X:Cx} {pos p pos' p':Pos} {a:Expr} {sa:SE}
end
@[simp] def yeK:F2:=λx y h=>match x,y with
 | .str z,.int n=>if n.natAbs<2 ^ 40/\z.length*n.toNat<=1000000 then .ok (.str (repS z n.toNat)) h else .bad
 | _,_=>.bad
theorem yhS {T:Tb} {X:Cx}:Op T X (binaryOp .Mult) yeK:=by
 refine ⟨_,zgT,λι h H x y u w E Q S rx ry p=>?_⟩
 unfold yeK at p
 split at p
 ·split at p
  ·rename_i hz
   obtain ⟨rfl,_,hc⟩:=ybf rx
   rw [yaC ry]
   exact ⟨_,_,rfl,rfl,hz.1,hz.2,p.now S (yhP hz.2 hc)⟩
  ·exact p.elim
 ·exact p.elim
def fGet (n:Nat) (y z:AV) (h:AH):Out AV:=match h[n]? with
 | some (.dct t kvs)=>if ybP t y then .ok ((valA kvs y).getD z) h else .bad
 | _=>.bad
section
variable {T:Tb} {E:St->XK} {X:Cx} {pos apos:Pos} {a b c:Expr} {sa sb sc:SE}
theorem isD_of {ι:Ix} {h:AH} {H:Hp} {n:Nat} {t:Bool} {kvs:List (AV×AV)} {ad:Addr} (S:Sim T ι h H) (hn:h[n]? = some (.dct t kvs)) (hr:ι.refs[n]? = some ad):IsD H ad:=by
 obtain ⟨ob,e1,r⟩:=S.obj n _ ad hn hr
 cases t with
 | false=>obtain ⟨kus,rfl,r⟩:=r;exact .inl ⟨_,.inl e1⟩
 | true=>obtain ⟨kus,rfl,r⟩:=r;exact .inr ⟨_,_,.inl e1⟩
end
end Sm
namespace L2
open PySem PySem.Spec PyProof.Rows
theorem zj4 {X:Cx}:OpR X (binaryOp .Mult) (λx y H Q=>∃ l n xs,x = .ref l/\y = .int n/\SqL X.K H l xs/\n.natAbs<2 ^ 40/\xs.length*n.toNat<=1000000/\∀ p,H p=none->Q (.ref p) (upd H p (.lst (List.replicate n.toNat xs).flatten))):=by
 intro pins s σ H x y v u Q I rx ry h
 obtain ⟨l,n,xs,rfl,rfl,hH,hb,hz,q⟩:=h
 cases rx
 obtain ⟨t,rfl⟩:=ry
 obtain ⟨its,r,⟨o,m,e1,e2,e3,e4⟩,z⟩:=I.list hH
 obtain ⟨oc,od,oda,osl⟩:=o
 dsimp only at e2 e3 e4
 subst e2 e3 e4
 have l1:=r.length
 have hb2:n.natAbs<1099511627776:=hb
 have sz:its.toArray.size*n.toNat<=1000000:=by rw [List.size_toArray,<- l1];exact hz
 refine wpAny_binaryOp_repeat_ref (by decide) ⟨_,e1,rfl⟩ (λs' => typeIs_int s' n t) noFill_list_mul PySem.F.fills_int_mul PySem.F.slot_int_rmul repeat_list PySem.F.slot_int_index.lookup
  (call_meets PySem.F.slot_int_rmul (typeIs_int s n t) PySem.F.entry_int_rmul (PySem.F.args_int_rmul_2 _ _) (lm_int_rmul_list_any n t l its.toArray m none osl)
   ⟨e1,rfl,⟨_,e1,rfl⟩,call_meets PySem.F.slot_list_mul ⟨_,e1,rfl⟩ PySem.F.entry_list_mul (PySem.F.args_list_mul_2 _ _) (lm_list_mul_any l its.toArray m none osl n t ?_ ?_ ?_) ⟨e1,?_⟩⟩)
 ·simp [Builtin.List.listFitsIndex];omega
 ·intro hc;have:(2 ^ 63-1) / 8=1152921504606846975:=by decide
  omega
 ·show ¬ decide (its.toArray.size*n.toNat > sizeLine)=true
  rw [decide_eq_true_eq]
  exact Nat.not_lt.mpr (Nat.le_trans sz (by decide))
 ·rw [listMul_foldl_if]
  exact ⟨.ref s.heap.objs.size,_,I.lnew (t' := s.toks) (Vals.rep r n.toNat) (by rw [List.length_flatten,List.map_replicate,List.sum_replicate_nat,Nat.mul_comm];exact Nat.le_trans hz (by decide)),rfl,q _ I.fresh⟩
end L2
namespace Sm
open PySem PySem.Spec L2
theorem zgc {T:Tb} {ι:Ix} {H:Hp} {xs:List AV} {us:List V} (r:RVs T ι H xs us):∀ n:Nat,RVs T ι H (List.replicate n xs).flatten (List.replicate n us).flatten
 | 0=>.nil
 | n+1=>by
  rw [List.replicate_succ,List.replicate_succ,List.flatten_cons,List.flatten_cons]
  exact r.append (zgc r n)
def ye6:F2:=λx y h=>match y with
 | .int n=>(match ybi x h with
  | some xs=>if n.natAbs<2 ^ 40/\xs.length*n.toNat<=1000000 then .ok (.fl (List.replicate n.toNat xs).flatten) h else .bad
  | none=>.bad)
 | _=>.bad
theorem yhT {T:Tb} {X:Cx} (hK:X.K=T.K):Op T X (binaryOp .Mult) ye6:=by
 refine ⟨_,zj4,λι h H x y u w E Q S rx ry p=>?_⟩
 unfold ye6 at p
 split at p
 ·split at p
  ·rename_i e1
   split at p
   ·rename_i hz
    obtain ⟨a,us,rfl,q1,r1⟩:=ybF S rx e1
    rw [yaC ry]
    exact ⟨a,_,us,rfl,rfl,hK▸q1,hz.1,by rw [<- r1.length];exact hz.2,λl n=>yey S (zgc r1 _) n p⟩
   ·exact p.elim
  ·exact p.elim
 ·exact p.elim
end Sm
namespace L2
open PySem PySem.Spec
theorem Room.m {j k:Nat} {A:Around} (hr:Room k A) (h:Nat.ble j k=true:=by rfl):Room j A:=hr.mono (Nat.le_of_ble_eq_true h)
end L2
namespace Sm
open PySem PySem.Spec L2
def DK (K:PySem.W.Frag) (x:Str) (st:Stmt):Prop:=∃ f fd,PySem.W.nsIn K mainGlobals x=some (some (.ref f))/\Fun K x x st f fd
def DN (K:PySem.W.Frag) (C:Addr) (m q:Str) (st:Stmt):Prop:=∃ f fd,Meth K C m f/\Fun K m q st f fd
def DMm (K:PySem.W.Frag) (cls:Nat->Option Addr) (c:Nat) (m q:Str) (st:Stmt) (ps:List Str):Prop:=∃ C f fd,cls c=some C/\Cls K C/\Meth K C m f/\Binds K fd ps []/\Fun K m q st f fd
def DI (K:PySem.W.Frag) (cls:Nat->Option Addr) (mg:Str->Option Value) (c:Nat) (x q:Str) (st:Stmt) (ps:List Str):Prop:=∃ C f fd,cls c=some C/\mg x=some (.ref C)/\Mk K C f/\Binds K fd ps []/\Fun K "__init__" q st f fd
section
variable {P:Program} {w:World} {K:PySem.W.Frag} {mg:Str->Option Value} {base h:Heap} {T:Tb} {x m q:Str} {st:Stmt} {f C:Addr} {N ps:List Str} {k c:Nat} {b:SS} {cls:Nat->Option Addr}
section
variable {oc:Value} {od an:Option Addr} {osl:Array (Option Value)} {kV doc pm cdv ct:Value}
theorem dk (a:PySem.W.nsIn K mainGlobals x=some (some (.ref f))) (l:K.lookup f=some ⟨oc,od,.func (PySem.W.fnOf x x (yc3 st) (yb7 st) (yaf st) .none kV doc pm an cdv ct),osl⟩)
  (c:PySem.W.codeIn K cdv x=true) (k:PySem.W.keepIn K (.ref f)=true):DK K x st:=⟨f,_,a,yf3 l c k⟩
theorem dn (a:PySem.W.findIn K (.ref C) m=some (some (.ref f))) (i:PySem.W.isFn K (.ref f)=true) (l:K.lookup f=some ⟨oc,od,.func (PySem.W.fnOf m q (yc3 st) (yb7 st) (yaf st) .none kV doc pm an cdv ct),osl⟩)
  (c:PySem.W.codeIn K cdv q=true) (k:PySem.W.keepIn K (.ref f)=true):DN K C m q st:=⟨f,_,⟨a,i,k⟩,yf3 l c k⟩
end
abbrev BA (x q:Str) (st:Stmt) (us:List Value) (r:List (Str×Value)):Prop:=∀ (kV doc pm:Value) (an:Option Addr) (cdv ct:Value),bindArgs (PySem.W.fnOf x q (yc3 st) (yb7 st) (yaf st) .none kV doc pm an cdv ct) ⟨us,[]⟩=pure r
def BL (x q:Str) (st:Stmt) (ps:List Str):Prop:=∀ (us:List Value),us.length=ps.length->BA x q st us (ps.zip us)
theorem bl1 {p1:Str} (h:∀ a,BA x q st [a] [(p1,a)]:=by exact λ_ _ _ _ _ _ _=>rfl):BL x q st [p1]:=λus e=>by obtain ⟨_,rfl⟩:=el1 e;exact h _
theorem bl2 {p1 p2:Str} (h:∀ a b,BA x q st [a,b] [(p1,a),(p2,b)]:=by exact λ_ _ _ _ _ _ _ _=>rfl):BL x q st [p1,p2]:=λus e=>by obtain ⟨_,_,rfl⟩:=el2 e;exact h _ _
theorem bl3 {p1 p2 p3:Str} (h:∀ a b c,BA x q st [a,b,c] [(p1,a),(p2,b),(p3,c)]:=by exact λ_ _ _ _ _ _ _ _ _=>rfl):BL x q st [p1,p2,p3]:=λus e=>by obtain ⟨_,_,_,rfl⟩:=el3 e;exact h _ _ _
theorem bl4 {p1 p2 p3 p4:Str} (h:∀ a b c d,BA x q st [a,b,c,d] [(p1,a),(p2,b),(p3,c),(p4,d)]:=by exact λ_ _ _ _ _ _ _ _ _ _=>rfl):BL x q st [p1,p2,p3,p4]:=λus e=>by obtain ⟨_,_,_,_,rfl⟩:=el4 e;exact h _ _ _ _
theorem dg (X:K.In h) (G:h.Ns mainGlobals mg) (d:DK K x st) (hb:BL x x st ps):DG K mg x st ps:=by
 obtain ⟨f,fd,a,F⟩:=d
 exact ⟨f,fd,PySem.W.mg_of X G a,F.kp,F.binds λ_ _ _ _ _ _ us hl=>hb us hl _ _ _ _ _ _,F⟩
theorem dm (hc:cls c=some C) (k:Cls K C) (d:DN K C m q st) (hb:BL m q st ps):DMm K cls c m q st ps:=by
 obtain ⟨f,fd,M,F⟩:=d
 exact ⟨C,f,fd,hc,k,M,F.binds λ_ _ _ _ _ _ us hl=>hb us hl _ _ _ _ _ _,F⟩
theorem di (hc:cls c=some C) (hx:mg x=some (.ref C)) (mk:PySem.W.makesIn K C=true) (kc:PySem.W.keepIn K (.ref C)=true) (d:DN K C "__init__" q st) (hb:BL "__init__" q st ps):DI K cls mg c x q st ps:=by
 obtain ⟨f,fd,M,F⟩:=d
 exact ⟨C,f,fd,hc,hx,⟨mk,M.at_,M.fn,kc⟩,F.binds λ_ _ _ _ _ _ us hl=>hb us hl _ _ _ _ _ _,F⟩
theorem dlaw {fa:Addr} {p:Str} (X:K.In h) (G:h.Ns mainGlobals mg) (hfa:mg x=some (.ref fa)) (d:DK K x st) (hb:BL x x st [p]):∃ fd:FuncData,(∀ (s:Shared) (v:Value),BindsTo s fd ⟨[v],[]⟩ [(p,v)])/\Fun K x x st fa fd:=by
 obtain ⟨f,fd,a,F⟩:=d
 have e:=hfa.symm.trans (PySem.W.mg_of X G a)
 cases e
 refine ⟨fd,λs v=>?_,F⟩
 obtain ⟨oc,od,kV,doc,pm,an,cdv,ct,osl,rfl,lk,hcd⟩:=F.ex
 exact .of_eq (hb [v] rfl _ _ _ _ _ _)
theorem fsk {sc:Scope} (h1:sc.kind = .function:=by rfl) (h2:sc.isCoroutine=false:=by rfl) (h3:sc.isGenerator=false:=by rfl) (h4:N.Nodup:=by decide +kernel) (h5:N.take ps.length=ps:=by rfl)
  (h6:∀ x∈ps,sc.names.lookup x=some .local\/sc.names.lookup x=some .cell:=by decide +kernel) (h7:∀ y∈sc.names,y.2 ≠ .free:=by decide +kernel):FnScope N ps sc:=⟨h1,h2,h3,h4,h5,h6,h7⟩
abbrev yft (P:Program) (w:World) (mg:Str->Option Value) (base:Heap) (T:Tb) (q:Str) (st:Stmt) (f:Addr) (N:List Str) (k:Nat) (b:SS):Prop :=
 ∀ {cdv:Value} {A:Around} {outer:List Env} {s:Shared} {H:Hp} {E:XK},Room k (A.deeper (PyProof.Rows.envOfC q (yaf st) s.heap.objs.size f cdv))->CA T (λ_=>E) (cxOf (CXE P w) P w T.K mg base N q (yaf st) f cdv A outer s H E) ->
  (A.deeper (PyProof.Rows.envOfC q (yaf st) s.heap.objs.size f cdv)).units+64<cLine->N.Nodup->PSsA T (λ_=>E) (cxOf (CXE P w) P w T.K mg base N q (yaf st) f cdv A outer s H E) (yb7 st) b
theorem gf (d:DG T.K mg x st ps) (S:FnScope N ps (yaf st)) (hb:∀ {f},yft P w mg base T x st f N k b):GF P w T mg base (k+1) x (mkFn ps.length N.length b):=by
 obtain ⟨f,fd,h1,h2,h3,h4⟩:=d
 exact ⟨f,fd,_,h1,h2,h3,okA h4 rfl S λcdv A outer s H E hr C=>hb hr C (hu64 hr) S.nd⟩
theorem gm (d:DMm T.K T.cls c m q st ps) (S:FnScope N ps (yaf st)) (no:m∉T.fields c) (hb:∀ {f},yft P w mg base T q st f N k b):GM P w T mg base (k+1) c m (mkFn ps.length N.length b):=by
 obtain ⟨C,f,fd,h0,hc,h1,h3,h4⟩:=d
 exact ⟨⟨C,f,fd,_,h0,hc,h1,h3,okA h4 rfl S λcdv A outer s H E hr C=>hb hr C (hu64 hr) S.nd⟩,no⟩
theorem gk (d:DI T.K T.cls mg c x q st ps) (S:FnScope N ps (yaf st)) (hb:∀ {f},yft P w mg base T q st f N k b):GK P w T mg base (k+1) c x (mkFn ps.length N.length b):=by
 obtain ⟨C,f,fd,h0,h1,h2,h3,h4⟩:=d
 exact ⟨C,f,fd,_,h0,h1,h2,h3,okA h4 rfl S λcdv A outer s H E hr C=>hb hr C (hu64 hr) S.nd⟩
theorem gl {f:Addr} {fd:FuncData} (h4:Fun T.K x x st f fd) (S:FnScope N ps (yaf st)) (hb:yft P w mg base T x st f N k b):FnOk P w T.K mg base (CXE P w) (k+1) f fd ps (spA T (mkFn ps.length N.length b)) :=
 okA h4 rfl S λcdv A outer s H E hr C=>hb hr C (hu64 hr) S.nd
def NA (K:PySem.W.Frag) (x:Str) (v:Option Value):Prop:=PySem.W.nsIn K mainGlobals x=some v
theorem na {v:Option Value} (h:PySem.W.nsIn K mainGlobals x=some v):NA K x v:=h
def FA (K:PySem.W.Frag) (C:Addr) (x:Str):Prop:=PySem.W.findIn K (.ref C) x=some none
theorem fatt (h:PySem.W.findIn K (.ref C) x=some none):FA K C x:=h
end
end Sm
namespace Sm
open PySem PySem.Spec L2 PyProof.Rows
def insT (x:Str):List Str->List Str
 | []=>[x]
 | y::r=>if ltCps y.cps.toList x.cps.toList then y::insT x r else x::y::r
def ygN:List Str->List Str
 | []=>[]
 | x::r=>insT x (ygN r)
def ygO:List AV->Option (List Str)
 | []=>some []
 | .str x::r=>(ygO r).map (x :: ·)
 | _::_=>none
def yi1 (v:AV) (h:AH):Option (List Str):=match v with
 | .ref n=>(match h[n]? with
  | some (.dct false kvs)=>ygO (kvs.map (·.1))
  | _=>none)
 | _=>none
def yjr:Fn:=λargs h=>match args with
 | [v]=>(match yi1 v h with
  | some ns=>if ns.length<64/\∀ x∈ns,x.length<=1000/\x.cps.all (· < 0x110000)=true then .ok (.fl ((ygN ns).map AV.str)) h else .bad
  | none=>.bad)
 | _=>.bad
def sBd:SS:=λ_ _=>.bad
def ye7 (o k:SE):SE:=λen h=>(o en h).bind λx h1=>match x with
 | .ref n=>(match h1[n]? with
  | some (.dct _ _)=>(k en h1).bind λy h2=>fGet n y .non h2
  | _=>.bad)
 | _=>.bad
@[simp] def yed:FM:=λx vs h=>match x,vs with
 | .ref n,[]=>match h[n]? with
  | some (.lst _)=>.ok .non (h.set n (.lst []))
  | _=>.bad
 | _,_=>.bad
section
variable {T:Tb} {E:L2.St->XK} {X:Cx} {pos apos:Pos} {a b c:Expr} {sa sb sc:SE} {st:Stmt}
theorem yhU (hu:X.A.units+64<cLine) (ha:PEA T E X a sa) (hb:PEA T E X b sb) (hbase:attributeBase a "get" X.env (eval a X.env)=eval a X.env:=by rfl)
  (hfew:((backTo pos (starEach [b] X.env)).all (λx=>!x.1) && (backToKw pos (keywordEach [] X.env)).all (λx=>x.1.isSome) && decide (([b]:List Expr).length+([]:List Keyword).length+(if ([]:List Keyword).isEmpty then 0 else 1)<30))=true:=by rfl)
  (hline:(apos.endLine == pos.line)=true:=by rfl) (htrees:backTo pos (starEach [b] X.env)=[(false,eval b X.env)]:=by rfl):PEA T E X (.Call (.Attribute a "get" apos) [b] [] pos) (ye7 sa sb):=by
 refine yaR (ziC (Nat.lt_of_le_of_lt (Nat.add_le_add_left (by decide:1<=64) _) hu) ha hb ⟨hbase,hfew,hline,htrees⟩) λσ H Q q=>?_
 obtain ⟨ι,h,en,S,er,q⟩:=q
 refine ⟨ι,h,en,S,er,q.bind λx h1 ι1 H1 u g1 S1 r1 q1=>?_⟩
 split at q1
 ·rename_i n
  split at q1
  ·rename_i t0 kvs0 hn0
   cases r1 with
   | @ref _ ad hr =>
    refine ⟨ad,rfl,isD_of S1 hn0 hr,ι1,h1,en,S1,er.mono g1,q1.bind λy h2 ι2 H2 v g2 S2 r2 q2=>?_⟩
    unfold fGet at q2
    split at q2
    ·rename_i t kvs hn
     split at q2
     ·rename_i hk
      obtain ⟨o,dg,alt⟩:=zdz S2 hn (g2.ext.at_ hr) r2 hk
      refine ⟨o,dg,?_⟩
      rcases alt with ⟨v1,rfl⟩ | ⟨v',u',v1,rfl,r4⟩
      ·rw [v1] at q2;exact q2.now S2 .non
      ·rw [v1] at q2;exact q2.now S2 r4
     ·exact q2.elim
    ·exact q2.elim
  ·exact q1.elim
 ·exact q1.elim
theorem zj5:∃ r,MtR X "list.clear" r/\MtS T yed r:=by
 refine ⟨_,zix,λι h H x xs u us E Q S rx rs q=>?_⟩
 unfold yed at q
 split at q
 ·rename_i n
  split at q
  ·rename_i ys hn
   cases rx with
   | @ref _ ad hr =>
    cases rs
    obtain ⟨o,e1,ws,rfl,rw_⟩:=S.obj n _ ad hn hr
    exact ⟨ad,ws,rfl,rfl,e1,q ι _ _ (S.growSet (u:=.lst []) hr) (S.set hr ⟨_,rfl,.nil⟩) .non⟩
  ·exact q.elim
 ·exact q.elim
end
end Sm
namespace L2
open PySem PySem.Spec PyProof.Rows
theorem zgY {X:Cx}:CallR X (.type "dict") (λxs H Q=>∃ (a:Addr) (kvs:List (Key×V)),xs=[.ref a]/\H a=some (.dK kvs)/\∀ (p:Addr),H p=none->Q (.ref p) (upd H p (.dK kvs))):=by
 intro pins s σ H xs us Q I rv h
 obtain ⟨a,kvs,rfl,ha,q⟩:=h
 obtain ⟨u,rfl,ru⟩:=Vals.one rv
 obtain rfl:u=Value.ref a:=ru
 obtain ⟨z,hd,vs,rel,dd⟩:=dk_of I.hok ha
 have lv:vs.length=kvs.length:=(Paired.length rel).symm
 refine PySem.kt_call_dict hd dd (by rw [lv];exact z) λh' d' sb=>?_
 have ks:∀ b o,s.heap.get? b=some o->h'.get? b=some o:=λb o hb=>(sb.2 b (λe=>absurd (Heap.lt_size hb) (by rw [e];exact Nat.lt_irrefl _))).trans (Heap.get?_push_of_some _ hb)
 have hs:(s.heap.objs.size == sysModules)=false:=beq_eq_false_iff_ne.mpr (Ne.symm (Nat.ne_of_lt I.big))
 exact ⟨.ref s.heap.objs.size,_,I.laid (a:=s.heap.objs.size) (t' := s.toks) (o:=.dK kvs) ks (Nat.le_refl _) ⟨z,hs,vs,rel,d'⟩,rfl,q _ (I.hok.fresh (Nat.le_refl _))⟩
end L2
namespace Sm
open PySem PySem.Spec L2 PyProof.Rows
theorem zj6:bootBuiltins "dict" = some (.type "dict"):=by decide +kernel
def yee:Fn:=λargs h=>match args with
 | [.ref n]=>(match h[n]? with
  | some (.dct false kvs)=>.ok (.ref h.length) (h++[.dct false kvs])
  | _=>.bad)
 | _=>.bad
theorem zj7 {T:Tb} {X:Cx}:∃ r,CallR X (.type "dict") r/\ycP T yee r:=by
 refine ⟨_,zgY,λι h H xs us E Q S r q=>?_⟩
 unfold yee at q
 split at q
 ·rename_i n
  split at q
  ·rename_i kvs hn
   cases r with
   | cons r r' =>
    cases r'
    cases r with
    | @ref _ ad hr =>
     obtain ⟨ob,e1,kus,rfl,pr⟩:=S.obj n _ ad hn hr
     exact ⟨ad,kus,rfl,e1,λp hp=>q _ _ _ (S.growAdd hp) (S.add hp ⟨_,rfl,Paired.mapP pr λ_ _ ⟨a,b⟩=>⟨a,b.mono (S.growAdd hp)⟩⟩) (.ref S.addAt)⟩
  ·exact q.elim
 ·exact q.elim
end Sm
namespace Sk
open PySem PySem.Spec L2 Sm
def ydH:Fn:=mkFn 1 1
  (sSeq (ybB 0 0 (sVar 0) (ybL sNil))
  (sSeq (ybB 0 1 (sVar 0) (yeW true))
  (sSeq (ybB 0 2 (sVar 0) (ybL (yab (sLit (.int 0)) sNil)))
  (sSeq (ybB 0 3 (sVar 0) (ybL (yab (sLit (.int 0)) sNil)))
  (sSeq (ybB 0 4 (sVar 0) (ybL (yab (sLit (.int 0)) sNil)))
  (sSeq (ybB 0 5 (sVar 0) (ybL (yab (sOp1 fNeg (sLit (.int 1))) sNil)))
  (sSeq (ybB 0 6 (sVar 0) (ybL (yab (sLit (.int 0)) sNil)))
  (ybB 0 7 (sVar 0) (ybL (yab (sLit (.int 0)) sNil))))))))))
def ybY:Fn:=mkFn 1 1
  (sSeq (ybB 1 0 (sVar 0) (yeI 0 8 ydH sNil))
  (sSeq (ybB 1 1 (sVar 0) (yeW false))
  (sSeq (ybB 1 2 (sVar 0) (ybL sNil))
  (ybB 1 3 (sVar 0) (ybL sNil)))))
def ydf:Fn:=mkFn 2 3
  (sSeq (sSet 2 (sOp2 fMod (sOp2 fMul (sOp2 fAdd (sOp2 fAdd (sOp2 fMod (sVar 0) (sLit (.int 1000000007))) (sOp2 fMul (sLit (.int 7919)) (sVar 1))) (sLit (.int 101))) (sLit (.int 48271))) (sLit (.int 2147483647))))
  (sRet (sOp2 fMod (sOp2 fMul (sOp2 fMod (sOp2 fMul (sVar 2) (sVar 2)) (sLit (.int 2147483629))) (sLit (.int 69621))) (sLit (.int 2147483647)))))
def ybC:SS :=
  (sSet 2 (sOp2 fAdd (sOp2 fMul (sVar 2) (sOp2 fMul (sOp2 fPow (sLit (.int 10)) (sLit (.int 60))) (sOp2 fPow (sLit (.int 10)) (sLit (.int 60))))) (sOp2 fMod (sOp2 fIx (sVar 0) (sVar 3)) (sOp2 fMul (sOp2 fPow (sLit (.int 10)) (sLit (.int 60))) (sOp2 fPow (sLit (.int 10)) (sLit (.int 60)))))))
def ybD:SS :=
  (sSet 4 (sOp2 fAdd (sOp2 fMul (sVar 4) (sLit (.int 2147483647))) (yae ydf (yab (sOp2 fAdd (sOp2 fAdd (sVar 2) (sOp2 fMul (sLit (.int 1009)) (sVar 1))) (yae fLen (yab (sVar 0) sNil))) (yab (sVar 3) sNil)))))
def ybg:Fn:=mkFn 2 5
  (sSeq (sSet 2 (sLit (.int 0)))
  (sSeq (sFor (ycs (sVar 1) (yae fLen (yab (sVar 0) sNil)) (sLit (.int 8))) (.nm 3) ybC)
  (sSeq (sIf (yam (sOp2 fGe (sVar 2) (sOp2 fPow (sLit (.int 10)) (sLit (.int 18))))) (sRet (ybL (yab (sVar 2) sNil))) yaw)
  (sSeq (sSet 2 (sOp2 fAdd (sVar 2) (yae fSum (yab (ybd [] (iVal (sVar 0)) sYes (sOp2 fMod (sVar 0) (sOp2 fPow (sLit (.int 10)) (sLit (.int 18))))) sNil))))
  (sSeq (sSet 4 (sLit (.int 0)))
  (sSeq (sFor (ycq (sLit (.int 16))) (.nm 3) ybD)
  (sRet (ybL (yab (sVar 4) sNil)))))))))
def yau:Fn:=mkFn 2 3
  (sSeq (sSet 2 (sOp2 fMod (sOp2 fIx (sVar 0) (sLit (.int 0))) (sVar 1)))
  (sSeq (ybv (sVar 0) (sLit (.int 0)) (sOp2 fDiv (sOp2 fIx (sVar 0) (sLit (.int 0))) (sVar 1)))
  (sRet (sVar 2))))
def ycL:Fn:=mkFn 1 1
  (sSeq (sIf (sNot (ycD (sIsB "str" (sVar 0)))) (sRet (sLit (.bl false))) yaw)
  (sRet (yeX (ybO fLe fLe (sLit (.int 1)) (yae fLen (yab (sVar 0) sNil)) (sLit (.int 8))) (yae fAll (yab (ybd [] (iVal (sVar 0)) sYes (ybO fLe fLe (sLit (.str "a")) (sVar 0) (sLit (.str "z")))) sNil)))))
def ycQ:Fn:=mkFn 1 1
  (sIf (sNot (ycD (yae ycL (yab (sVar 0) sNil)))) (λ_ _=>.bad) yaw)
def ya8:Fn:=mkFn 3 3
  (sIf (yam (sOp2 fIsN (sVar 2) (sLit .non))) sBd (ybv (Sm.sFld 1 1 (sVar 0)) (sVar 1) (sVar 2)))
def ya2:Fn:=mkFn 3 3
  (sSeq (yax (sBM yat yav (Sm.sFld 1 2 (sVar 0)) (yab (sTup (yab (sVar 1) (yab (ye7 (Sm.sFld 1 1 (sVar 0)) (sVar 1)) (yab (sVar 2) sNil)))) sNil)))
  (sSeq (yax (sBM0 yat yed (Sm.sFld 1 3 (sVar 0))))
  (yax (yaj 1 ya8 (sVar 0) (yab (sVar 1) (yab (sVar 2) sNil))))))
def yds:Fn:=mkFn 1 1
  (sRet (yeX (sIsB "int" (sVar 0)) (ygE (sIsB "bool" (sVar 0)))))
def ybW:Fn:=mkFn 2 2
  (sRet (yeX (yae yds (yab (sVar 1) sNil)) (ybO fLe fLe (sLit (.int 1)) (sVar 1) (yae fLen (yab (Sm.sFld 0 0 (sVar 0)) sNil)))))
def ya4:Fn:=mkFn 2 2
  (sIf (sNot (ycD (yaj 0 ybW (sVar 0) (yab (sVar 1) sNil)))) (λ_ _=>.bad) yaw)
def ybm:Fn:=mkFn 3 4
  (sSeq (yax (yaj 0 ya4 (sVar 0) (yab (sVar 1) sNil)))
  (sSeq (yax (yaj 0 ya4 (sVar 0) (yab (sVar 2) sNil)))
  (sSeq (sSet 3 (sOp2 fAdd (sOp2 fIx (Sm.sFld 0 2 (sVar 0)) (sOp2 fIx (Sm.sFld 0 7 (sVar 0)) (sVar 1))) (sOp2 fIx (Sm.sFld 0 2 (sVar 0)) (sOp2 fIx (Sm.sFld 0 6 (sVar 0)) (sVar 2)))))
  (sSeq (sIf (yam (sOp2 fLe (sVar 3) (sLit (.int 8)))) (λ_ _=>.bad) yaw)
  (sSeq (sIf (yam (sOp2 fGt (yae fAbs (yab (sOp2 fSub (sOp2 fIx (Sm.sFld 0 5 (sVar 0)) (sVar 1)) (sOp2 fIx (Sm.sFld 0 5 (sVar 0)) (sVar 2))) sNil)) (sLit (.int 1)))) (λ_ _=>.bad) yaw)
  (sIf (yam (sOp2 fGt (sOp2 fAdd (sOp2 fIx (Sm.sFld 0 2 (sVar 0)) (sVar 1)) (sOp2 fIx (Sm.sFld 0 2 (sVar 0)) (sVar 2))) (sLit (.int 1000000000000000000)))) (λ_ _=>.bad) yaw))))))
def ycy:Fn:=mkFn 2 3
  (sSeq (yax (sBM yat yav (Sm.sFld 0 0 (sVar 0)) (yab (sVar 1) sNil)))
  (sSeq (sSet 2 (yae fLen (yab (Sm.sFld 0 0 (sVar 0)) sNil)))
  (sSeq (ybv (Sm.sFld 0 1 (sVar 0)) (sVar 1) (sVar 2))
  (sRet (sVar 2)))))
def ybG:Fn:=mkFn 2 4
  (sSeq (yax (yaj 0 ycy (sVar 0) (yab (sVar 1) sNil)))
  (sSeq (sSet 2 (sOp2 fIx (sVar 1) (sLit (.int 1))))
  (sSeq (sSet 3 (sOp2 fIx (sVar 1) (sLit (.int 2))))
  (sSeq (yax (sBM yat yav (Sm.sFld 0 2 (sVar 0)) (yab (sOp2 fAdd (sOp2 fIx (Sm.sFld 0 2 (sVar 0)) (sVar 2)) (sOp2 fIx (Sm.sFld 0 2 (sVar 0)) (sVar 3))) sNil)))
  (sSeq (yax (sBM yat yav (Sm.sFld 0 3 (sVar 0)) (yab (sOp2 fAdd (sOp2 fIx (Sm.sFld 0 3 (sVar 0)) (sVar 2)) (sOp2 fIx (Sm.sFld 0 3 (sVar 0)) (sVar 3))) sNil)))
  (sSeq (yax (sBM yat yav (Sm.sFld 0 4 (sVar 0)) (yab (sOp2 fAdd (sOp2 fIx (Sm.sFld 0 4 (sVar 0)) (sVar 2)) (sOp2 fIx (Sm.sFld 0 4 (sVar 0)) (sVar 3))) sNil)))
  (sSeq (yax (sBM yat yav (Sm.sFld 0 5 (sVar 0)) (yab (sOp2 fAdd (yae ycE (yab (sOp2 fIx (Sm.sFld 0 5 (sVar 0)) (sVar 2)) (yab (sOp2 fIx (Sm.sFld 0 5 (sVar 0)) (sVar 3)) sNil))) (sLit (.int 1))) sNil)))
  (sSeq (yax (sBM yat yav (Sm.sFld 0 6 (sVar 0)) (yab (sOp2 fIx (Sm.sFld 0 6 (sVar 0)) (sVar 2)) sNil)))
  (yax (sBM yat yav (Sm.sFld 0 7 (sVar 0)) (yab (sOp2 fIx (Sm.sFld 0 7 (sVar 0)) (sVar 3)) sNil)))))))))))
def yah:Fn:=mkFn 3 4
  (sSeq (yax (yaj 0 ybm (sVar 0) (yab (sVar 1) (yab (sVar 2) sNil))))
  (sSeq (sSet 3 (sTup (yab (sLit (.str "fork")) (yab (sVar 1) (yab (sVar 2) sNil)))))
  (sSeq (sIf (yam (sOp2 ydG (sVar 3) (Sm.sFld 0 1 (sVar 0)))) (yax (yaj 0 ybG (sVar 0) (yab (sVar 3) sNil))) yaw)
  (sRet (sOp2 fIx (Sm.sFld 0 1 (sVar 0)) (sVar 3))))))
def yeO (G:Fn):Fn:=mkFn 2 3
  (sSeq (sIf (yam (sOp2 fEq (yae fLen (yab (sVar 1) sNil)) (sLit (.int 1)))) (sRet (sOp2 fIx (sVar 1) (sLit (.int 0)))) yaw)
  (sSeq (sSet 2 (sOp2 fDiv (yae fLen (yab (sVar 1) sNil)) (sLit (.int 2))))
  (sRet (yaj 0 yah (sVar 0) (yab (yae G (yab (sVar 0) (yab (sCut (sVar 1) none (some (sVar 2))) sNil))) (yab (yae G (yab (sVar 0) (yab (sCut (sVar 1) (some (sVar 2)) none) sNil))) sNil))))))
def ybH:Nat->Fn
 | 0=>mkFn 2 3 (λ_ _=>.bad)
 | d+1=>yeO (ybH d)
def ybR:Fn:=mkFn 1 1
  (sRet (sOrV (sOp2 fEq (sVar 0) (sLit (.str "\n"))) (ybO fLe fLe (sLit (.str " ")) (sVar 0) (sLit (.str "~")))))
def ycR:Fn:=mkFn 1 1
  (sSeq (sIf (sNot (ycD (sIsB "str" (sVar 0)))) (sRet (sLit (.bl false))) yaw)
  (sRet (yae fAll (yab (ybd [] (iVal (sVar 0)) sYes (yae ybR (yab (sVar 0) sNil))) sNil))))
def ydt:Fn:=mkFn 1 1
  (sRet (yeX (yae ycR (yab (sVar 0) sNil)) (ybO fLe fLe (sLit (.int 1)) (yae fLen (yab (sVar 0) sNil)) (sLit (.int 8)))))
def ydU:Fn:=mkFn 1 1
  (sRet (sBM yfm yfg (sVar 0) (yab (sLit (.str "\n")) sNil)))
def ybI:Fn:=mkFn 2 4
  (sSeq (sSet 2 (yaj 0 ycy (sVar 0) (yab (sVar 1) sNil)))
  (sSeq (sSet 3 (sOp2 fIx (sVar 1) (sLit (.int 1))))
  (sSeq (yax (sBM yat yav (Sm.sFld 0 2 (sVar 0)) (yab (yae fLen (yab (sVar 3) sNil)) sNil)))
  (sSeq (yax (sBM yat yav (Sm.sFld 0 3 (sVar 0)) (yab (yae ydU (yab (sVar 3) sNil)) sNil)))
  (sSeq (yax (sBM yat yav (Sm.sFld 0 4 (sVar 0)) (yab (sLit (.int 1)) sNil)))
  (sSeq (yax (sBM yat yav (Sm.sFld 0 5 (sVar 0)) (yab (sLit (.int 0)) sNil)))
  (sSeq (yax (sBM yat yav (Sm.sFld 0 6 (sVar 0)) (yab (sVar 2) sNil)))
  (yax (sBM yat yav (Sm.sFld 0 7 (sVar 0)) (yab (sVar 2) sNil))))))))))
def yaH:Fn:=mkFn 2 3
  (sSeq (sIf (sNot (ycD (yae ydt (yab (sVar 1) sNil)))) (λ_ _=>.bad) yaw)
  (sSeq (sSet 2 (sTup (yab (sLit (.str "leaf")) (yab (sVar 1) sNil))))
  (sSeq (sIf (yam (sOp2 ydG (sVar 2) (Sm.sFld 0 1 (sVar 0)))) (yax (yaj 0 ybI (sVar 0) (yab (sVar 2) sNil))) yaw)
  (sRet (sOp2 fIx (Sm.sFld 0 1 (sVar 0)) (sVar 2))))))
def yc4:Fn:=mkFn 2 3
  (sSeq (sIf (sNot (ycD (yae ycR (yab (sVar 1) sNil)))) (λ_ _=>.bad) yaw)
  (sSeq (sIf (yam (sOp2 fGt (yae fLen (yab (sVar 1) sNil)) (sLit (.int 10000)))) (λ_ _=>.bad) yaw)
  (sSeq (sIf (yam (sOp2 fEq (sVar 1) (sLit (.str "")))) (sRet (sLit (.int 0))) yaw)
  (sSeq (sSet 2 (ybd [0,1] (ycs (sLit (.int 0)) (yae fLen (yab (sVar 1) sNil)) (sLit (.int 8))) sYes (yaj 0 yaH (sVar 1) (yab (sCut (sVar 2) (some (sVar 0)) (some (sOp2 fAdd (sVar 0) (sLit (.int 8))))) sNil))))
  (sRet (yae (ybH 20) (yab (sVar 0) (yab (sVar 2) sNil))))))))
def ybh:Fn:=mkFn 3 3
  (sSeq (yax (yae ycQ (yab (sVar 1) sNil)))
  (yax (yaj 1 ya2 (sVar 0) (yab (sVar 1) (yab (yae yc4 (yab (Sm.sFld 1 0 (sVar 0)) (yab (sVar 2) sNil))) sNil)))))
def ya7:Fn:=mkFn 1 1
  (sRet (yae fSum (yab (ydk [] (ybz (sVar 0)) sYes (sOp2 fMul (yae fLen (yab (sVar 0) sNil)) (sVar 1))) sNil)))
def ybq:SS :=
  (sSet 3 (sOp2 fAdd (sVar 3) (sOp2 fIx (sVar 2) (yae yau (yab (sVar 0) (yab (yae fLen (yab (sVar 2) sNil)) sNil))))))
def yb8:Fn:=mkFn 2 5
  (sSeq (sSet 2 (sOp2 fIx (sLst (yab (sLit (.str "ab")) (yab (sLit (.str "aaab")) (yab (sLit (.str "a\n")) (yab (sLit (.str "ab \n")) (yab (sLit (.str "abcdefghijklmnopqrstuvwxyz 0123456789.,~\n")) sNil)))))) (yae yau (yab (sVar 0) (yab (sLit (.int 5)) sNil)))))
  (sSeq (sSet 3 (sLit (.str "")))
  (sSeq (sFor (ycq (yae yau (yab (sVar 0) (yab (sOp2 fAdd (sVar 1) (sLit (.int 1))) sNil)))) (.nm 4) ybq)
  (sRet (sVar 3)))))
def ya0:Fn:=mkFn 2 2
  (sIf (yam (sOp2 fNe (sVar 1) (sLit (.int 0)))) (yax (yaj 0 ya4 (sVar 0) (yab (sVar 1) sNil))) yaw)
def yay:Fn:=mkFn 2 2
  (sSeq (yax (yaj 0 ya0 (sVar 0) (yab (sVar 1) sNil)))
  (sRet (sOp2 fIx (Sm.sFld 0 2 (sVar 0)) (sVar 1))))
def ybE:Fn:=mkFn 1 1
  (sIf (yam (sOp2 fGt (sVar 0) (sLit (.int 1000000000000000000)))) (λ_ _=>.bad) yaw)
def ybw:Fn:=mkFn 2 2
  (sSeq (yax (yaj 0 ya0 (sVar 0) (yab (sVar 1) sNil)))
  (sRet (sOp2 fIx (Sm.sFld 0 7 (sVar 0)) (sVar 1))))
def ybn:Fn:=mkFn 2 2
  (sSeq (yax (yaj 0 ya0 (sVar 0) (yab (sVar 1) sNil)))
  (sRet (sOp2 fIx (Sm.sFld 0 6 (sVar 0)) (sVar 1))))
def ydg:Fn:=mkFn 3 3
  (sRet (sOp2 fGt (sOp2 fAdd (yaj 0 yay (sVar 0) (yab (yaj 0 ybw (sVar 0) (yab (sVar 1) sNil)) sNil)) (yaj 0 yay (sVar 0) (yab (yaj 0 ybn (sVar 0) (yab (sVar 2) sNil)) sNil))) (sLit (.int 8))))
def yaD:Fn:=mkFn 2 2
  (sSeq (yax (yaj 0 ya4 (sVar 0) (yab (sVar 1) sNil)))
  (sRet (sOp2 fIx (Sm.sFld 0 0 (sVar 0)) (sOp2 fSub (sVar 1) (sLit (.int 1))))))
def ydY (G:Fn):Fn:=mkFn 3 4
  (sSeq (sSet 3 (yaj 0 yaD (sVar 0) (yab (sVar 1) sNil)))
  (sSeq (sIf (yam (sOp2 fEq (sOp2 fIx (sVar 3) (sLit (.int 0))) (sLit (.str "leaf")))) (sRet (sVar 2)) yaw)
  (sRet (yaj 0 yah (sVar 0) (yab (sOp2 fIx (sVar 3) (sLit (.int 1))) (yab (yae G (yab (sVar 0) (yab (sOp2 fIx (sVar 3) (sLit (.int 2))) (yab (sVar 2) sNil)))) sNil))))))
def yba:Nat->Fn
 | 0=>mkFn 3 4 (λ_ _=>.bad)
 | d+1=>ydY (yba d)
def yaP:Fn:=mkFn 2 2
  (sSeq (yax (yaj 0 ya0 (sVar 0) (yab (sVar 1) sNil)))
  (sRet (sOp2 fIx (Sm.sFld 0 5 (sVar 0)) (sVar 1))))
def yaQ:Fn:=mkFn 3 7
  (sSeq (sIf (yam (sOp2 fLt (sOp2 fSub (yaj 0 yaP (sVar 0) (yab (sVar 2) sNil)) (yaj 0 yaP (sVar 0) (yab (sVar 1) sNil))) (sLit (.int 2)))) (sRet (yaj 0 yah (sVar 0) (yab (sVar 1) (yab (sVar 2) sNil)))) yaw)
  (sSeq (sSet 3 (yaj 0 yaD (sVar 0) (yab (sVar 2) sNil)))
  (sSeq (sSet 4 (sOp2 fIx (sVar 3) (sLit (.int 1))))
  (sSeq (sSet 5 (sOp2 fIx (sVar 3) (sLit (.int 2))))
  (sSeq (sIf (yam (sOp2 fLe (yaj 0 yaP (sVar 0) (yab (sVar 4) sNil)) (yaj 0 yaP (sVar 0) (yab (sVar 5) sNil)))) (sRet (yaj 0 yah (sVar 0) (yab (yaj 0 yah (sVar 0) (yab (sVar 1) (yab (sVar 4) sNil))) (yab (sVar 5) sNil)))) yaw)
  (sSeq (sSet 6 (yaj 0 yaD (sVar 0) (yab (sVar 4) sNil)))
  (sRet (yaj 0 yah (sVar 0) (yab (yaj 0 yah (sVar 0) (yab (sVar 1) (yab (sOp2 fIx (sVar 6) (sLit (.int 1))) sNil))) (yab (yaj 0 yah (sVar 0) (yab (sOp2 fIx (sVar 6) (sLit (.int 2))) (yab (sVar 5) sNil))) sNil))))))))))
def ycc (G:Fn):Fn:=mkFn 2 4
  (sSeq (sSet 2 (yaj 0 yaD (sVar 0) (yab (sVar 1) sNil)))
  (sSeq (sIf (yam (sOp2 fEq (sOp2 fIx (sVar 2) (sLit (.int 0))) (sLit (.str "leaf")))) (sRet (sLit (.int 0))) yaw)
  (sSeq (sSet 3 (yae G (yab (sVar 0) (yab (sOp2 fIx (sVar 2) (sLit (.int 1))) sNil))))
  (sSeq (sIf (yam (sOp2 fEq (sVar 3) (sLit (.int 0)))) (sRet (sOp2 fIx (sVar 2) (sLit (.int 2)))) yaw)
  (sRet (yae yaQ (yab (sVar 0) (yab (sVar 3) (yab (sOp2 fIx (sVar 2) (sLit (.int 2))) sNil)))))))))
def yaG:Nat->Fn
 | 0=>mkFn 2 4 (λ_ _=>.bad)
 | d+1=>ycc (yaG d)
def yaY:Fn:=mkFn 3 7
  (sSeq (sIf (yam (sOp2 fLt (sOp2 fSub (yaj 0 yaP (sVar 0) (yab (sVar 1) sNil)) (yaj 0 yaP (sVar 0) (yab (sVar 2) sNil))) (sLit (.int 2)))) (sRet (yaj 0 yah (sVar 0) (yab (sVar 1) (yab (sVar 2) sNil)))) yaw)
  (sSeq (sSet 3 (yaj 0 yaD (sVar 0) (yab (sVar 1) sNil)))
  (sSeq (sSet 4 (sOp2 fIx (sVar 3) (sLit (.int 1))))
  (sSeq (sSet 5 (sOp2 fIx (sVar 3) (sLit (.int 2))))
  (sSeq (sIf (yam (sOp2 fLe (yaj 0 yaP (sVar 0) (yab (sVar 5) sNil)) (yaj 0 yaP (sVar 0) (yab (sVar 4) sNil)))) (sRet (yaj 0 yah (sVar 0) (yab (sVar 4) (yab (yaj 0 yah (sVar 0) (yab (sVar 5) (yab (sVar 2) sNil))) sNil)))) yaw)
  (sSeq (sSet 6 (yaj 0 yaD (sVar 0) (yab (sVar 5) sNil)))
  (sRet (yaj 0 yah (sVar 0) (yab (yaj 0 yah (sVar 0) (yab (sVar 4) (yab (sOp2 fIx (sVar 6) (sLit (.int 1))) sNil))) (yab (yaj 0 yah (sVar 0) (yab (sOp2 fIx (sVar 6) (sLit (.int 2))) (yab (sVar 2) sNil))) sNil))))))))))
def yek (G:Fn):Fn:=mkFn 3 5
  (sSeq (sSet 3 (sOp2 fSub (yaj 0 yaP (sVar 0) (yab (sVar 1) sNil)) (yaj 0 yaP (sVar 0) (yab (sVar 2) sNil))))
  (sSeq (sIf (yam (sOp2 fGt (sVar 3) (sLit (.int 1)))) (sSeq (sSet 4 (yaj 0 yaD (sVar 0) (yab (sVar 1) sNil)))
  (sRet (yae yaQ (yab (sVar 0) (yab (sOp2 fIx (sVar 4) (sLit (.int 1))) (yab (yae G (yab (sVar 0) (yab (sOp2 fIx (sVar 4) (sLit (.int 2))) (yab (sVar 2) sNil)))) sNil)))))) yaw)
  (sSeq (sIf (yam (sOp2 fLt (sVar 3) (sOp1 fNeg (sLit (.int 1))))) (sSeq (sSet 4 (yaj 0 yaD (sVar 0) (yab (sVar 2) sNil)))
  (sRet (yae yaY (yab (sVar 0) (yab (yae G (yab (sVar 0) (yab (sVar 1) (yab (sOp2 fIx (sVar 4) (sLit (.int 1))) sNil)))) (yab (sOp2 fIx (sVar 4) (sLit (.int 2))) sNil)))))) yaw)
  (sRet (yaj 0 yah (sVar 0) (yab (sVar 1) (yab (sVar 2) sNil)))))))
def ya9:Nat->Fn
 | 0=>mkFn 3 5 (λ_ _=>.bad)
 | d+1=>yek (ya9 d)
def ycG:Fn:=mkFn 3 6
  (sSeq (sSet 3 (sOp2 fAdd (sOp2 fIx (yaj 0 yaD (sVar 0) (yab (yaj 0 ybw (sVar 0) (yab (sVar 1) sNil)) sNil)) (sLit (.int 1))) (sOp2 fIx (yaj 0 yaD (sVar 0) (yab (yaj 0 ybn (sVar 0) (yab (sVar 2) sNil)) sNil)) (sLit (.int 1)))))
  (sSeq (sSet 4 (yae (yba 90) (yab (sVar 0) (yab (sVar 1) (yab (yaj 0 yaH (sVar 0) (yab (sVar 3) sNil)) sNil)))))
  (sSeq (sSet 5 (yae (yaG 90) (yab (sVar 0) (yab (sVar 2) sNil))))
  (sSeq (sIf (yam (sOp2 fEq (sVar 5) (sLit (.int 0)))) (sRet (sVar 4)) yaw)
  (sRet (yae (ya9 90) (yab (sVar 0) (yab (sVar 4) (yab (sVar 5) sNil)))))))))
def yaB:Fn:=mkFn 3 3
  (sSeq (yax (yae ybE (yab (sOp2 fAdd (yaj 0 yay (sVar 0) (yab (sVar 1) sNil)) (yaj 0 yay (sVar 0) (yab (sVar 2) sNil))) sNil)))
  (sSeq (sIf (yam (sOp2 fEq (sVar 1) (sLit (.int 0)))) (sRet (sVar 2)) yaw)
  (sSeq (sIf (yam (sOp2 fEq (sVar 2) (sLit (.int 0)))) (sRet (sVar 1)) yaw)
  (sSeq (sIf (ycD (yae ydg (yab (sVar 0) (yab (sVar 1) (yab (sVar 2) sNil))))) (sRet (yae (ya9 90) (yab (sVar 0) (yab (sVar 1) (yab (sVar 2) sNil))))) yaw)
  (sRet (yae ycG (yab (sVar 0) (yab (sVar 1) (yab (sVar 2) sNil)))))))))
def ydV (G:Fn):Fn:=mkFn 3 5
  (sSeq (sIf (yam (sOp2 fEq (sVar 2) (sLit (.int 0)))) (sRet (sLit (.int 0))) yaw)
  (sSeq (sSet 3 (yae G (yab (sVar 0) (yab (sVar 1) (yab (sOp2 fDiv (sVar 2) (sLit (.int 2))) sNil)))))
  (sSeq (sSet 4 (yae yaB (yab (sVar 0) (yab (sVar 3) (yab (sVar 3) sNil)))))
  (sSeq (sIf (yam (sOp2 fEq (sOp2 fMod (sVar 2) (sLit (.int 2))) (sLit (.int 0)))) (sRet (sVar 4)) yaw)
  (sRet (yae yaB (yab (sVar 0) (yab (sVar 4) (yab (sVar 1) sNil)))))))))
def ya1:Nat->Fn
 | 0=>mkFn 3 5 (λ_ _=>.bad)
 | d+1=>ydV (ya1 d)
def yb4:Fn:=mkFn 3 4
  (sSeq (sSet 3 (yaj 0 yay (sVar 0) (yab (sVar 1) sNil)))
  (sSeq (sIf (yam (sOp2 fLt (sVar 2) (sLit (.int 0)))) (λ_ _=>.bad) yaw)
  (sSeq (yax (yae ybE (yab (sOp2 fMul (sVar 3) (sVar 2)) sNil)))
  (sSeq (sIf (yam (sOp2 fEq (sVar 1) (sLit (.int 0)))) (sRet (sLit (.int 0))) yaw)
  (sRet (yae (ya1 64) (yab (sVar 0) (yab (sVar 1) (yab (sVar 2) sNil)))))))))
def yaz:Fn:=mkFn 2 2
  (sSeq (sIf (sOr (sNot (ycD (yae ycL (yab (sVar 1) sNil)))) (yam (sOp2 ydG (sVar 1) (Sm.sFld 1 1 (sVar 0))))) (λ_ _=>.bad) yaw)
  (sRet (sOp2 fIx (Sm.sFld 1 1 (sVar 0)) (sVar 1))))
def ybZ:Fn:=mkFn 3 3
  (yax (yaj 1 ya2 (sVar 0) (yab (sVar 1) (yab (yae yb4 (yab (Sm.sFld 1 0 (sVar 0)) (yab (yaj 1 yaz (sVar 0) (yab (sVar 1) sNil)) (yab (sVar 2) sNil)))) sNil))))
def ybS:Fn:=mkFn 3 3
  (yax (yaj 1 ya2 (sVar 0) (yab (sVar 1) (yab (yae yaB (yab (Sm.sFld 1 0 (sVar 0)) (yab (yaj 1 yaz (sVar 0) (yab (sVar 1) sNil)) (yab (yaj 1 yaz (sVar 0) (yab (sVar 2) sNil)) sNil)))) sNil))))
def ydh:Fn:=mkFn 3 4
  (sSeq (sSet 3 (yaj 0 yay (sVar 0) (yab (sVar 1) sNil)))
  (sIf (sNot (yam (ybO fLe fLe (sLit (.int 0)) (sVar 2) (sVar 3)))) (λ_ _=>.bad) yaw))
def yb5 (G:Fn):Fn:=mkFn 3 5
  (sSeq (sIf (yam (sOp2 fEq (sVar 2) (sLit (.int 0)))) (sRet (sLit (.int 0))) yaw)
  (sSeq (sIf (yam (sOp2 fEq (sVar 2) (yaj 0 yay (sVar 0) (yab (sVar 1) sNil)))) (sRet (sVar 1)) yaw)
  (sSeq (sSet 3 (yaj 0 yaD (sVar 0) (yab (sVar 1) sNil)))
  (sSeq (sIf (yam (sOp2 fEq (sOp2 fIx (sVar 3) (sLit (.int 0))) (sLit (.str "leaf")))) (sRet (yaj 0 yaH (sVar 0) (yab (sCut (sOp2 fIx (sVar 3) (sLit (.int 1))) none (some (sVar 2))) sNil))) yaw)
  (sSeq (sSet 4 (yaj 0 yay (sVar 0) (yab (sOp2 fIx (sVar 3) (sLit (.int 1))) sNil)))
  (sSeq (sIf (yam (sOp2 fLe (sVar 2) (sVar 4))) (sRet (yae G (yab (sVar 0) (yab (sOp2 fIx (sVar 3) (sLit (.int 1))) (yab (sVar 2) sNil))))) yaw)
  (sRet (yae yaB (yab (sVar 0) (yab (sOp2 fIx (sVar 3) (sLit (.int 1))) (yab (yae G (yab (sVar 0) (yab (sOp2 fIx (sVar 3) (sLit (.int 2))) (yab (sOp2 fSub (sVar 2) (sVar 4)) sNil)))) sNil)))))))))))
def yaE:Nat->Fn
 | 0=>mkFn 3 5 (λ_ _=>.bad)
 | d+1=>yb5 (yaE d)
def ych (G:Fn):Fn:=mkFn 3 5
  (sSeq (sIf (yam (sOp2 fEq (sVar 2) (sLit (.int 0)))) (sRet (sVar 1)) yaw)
  (sSeq (sIf (yam (sOp2 fEq (sVar 2) (yaj 0 yay (sVar 0) (yab (sVar 1) sNil)))) (sRet (sLit (.int 0))) yaw)
  (sSeq (sSet 3 (yaj 0 yaD (sVar 0) (yab (sVar 1) sNil)))
  (sSeq (sIf (yam (sOp2 fEq (sOp2 fIx (sVar 3) (sLit (.int 0))) (sLit (.str "leaf")))) (sRet (yaj 0 yaH (sVar 0) (yab (sCut (sOp2 fIx (sVar 3) (sLit (.int 1))) (some (sVar 2)) none) sNil))) yaw)
  (sSeq (sSet 4 (yaj 0 yay (sVar 0) (yab (sOp2 fIx (sVar 3) (sLit (.int 1))) sNil)))
  (sSeq (sIf (yam (sOp2 fGe (sVar 2) (sVar 4))) (sRet (yae G (yab (sVar 0) (yab (sOp2 fIx (sVar 3) (sLit (.int 2))) (yab (sOp2 fSub (sVar 2) (sVar 4)) sNil))))) yaw)
  (sRet (yae yaB (yab (sVar 0) (yab (yae G (yab (sVar 0) (yab (sOp2 fIx (sVar 3) (sLit (.int 1))) (yab (sVar 2) sNil)))) (yab (sOp2 fIx (sVar 3) (sLit (.int 2))) sNil)))))))))))
def yaJ:Nat->Fn
 | 0=>mkFn 3 5 (λ_ _=>.bad)
 | d+1=>ych (yaJ d)
def ydI:Fn:=mkFn 4 6
  (sSeq (sSet 4 (sOp2 fAdd (yaj 0 yay (sVar 0) (yab (sVar 1) sNil)) (yaj 0 yay (sVar 0) (yab (sVar 3) sNil))))
  (sSeq (yax (yae ydh (yab (sVar 0) (yab (sVar 1) (yab (sVar 2) sNil)))))
  (sSeq (yax (yae ybE (yab (sVar 4) sNil)))
  (sSeq (sSet 5 (yae yaB (yab (sVar 0) (yab (yae (yaE 90) (yab (sVar 0) (yab (sVar 1) (yab (sVar 2) sNil)))) (yab (sVar 3) sNil)))))
  (sRet (yae yaB (yab (sVar 0) (yab (sVar 5) (yab (yae (yaJ 90) (yab (sVar 0) (yab (sVar 1) (yab (sVar 2) sNil)))) sNil)))))))))
def ybJ:Fn:=mkFn 4 4
  (yax (yaj 1 ya2 (sVar 0) (yab (sVar 1) (yab (yae ydI (yab (Sm.sFld 1 0 (sVar 0)) (yab (yaj 1 yaz (sVar 0) (yab (sVar 1) sNil)) (yab (sVar 2) (yab (yaj 1 yaz (sVar 0) (yab (sVar 3) sNil)) sNil))))) sNil))))
def ybT:Fn:=mkFn 4 5
  (sSeq (sSet 4 (yaj 0 yay (sVar 0) (yab (sVar 1) sNil)))
  (sIf (sNot (yam (yfh fLe fLe fLe (sLit (.int 0)) (sVar 2) (sVar 3) (sVar 4)))) (λ_ _=>.bad) yaw))
def ycz:Fn:=mkFn 4 4
  (sSeq (yax (yae ybT (yab (sVar 0) (yab (sVar 1) (yab (sVar 2) (yab (sVar 3) sNil))))))
  (sRet (yae yaB (yab (sVar 0) (yab (yae (yaE 90) (yab (sVar 0) (yab (sVar 1) (yab (sVar 2) sNil)))) (yab (yae (yaJ 90) (yab (sVar 0) (yab (sVar 1) (yab (sVar 3) sNil)))) sNil))))))
def ybx:Fn:=mkFn 4 4
  (yax (yaj 1 ya2 (sVar 0) (yab (sVar 1) (yab (yae ycz (yab (Sm.sFld 1 0 (sVar 0)) (yab (yaj 1 yaz (sVar 0) (yab (sVar 1) sNil)) (yab (sVar 2) (yab (sVar 3) sNil))))) sNil))))
def ybo:SS :=
  (sSeq (sSet 5 (yae ybQ (yab (sVar 4) (yab (sOp2 fDiv (sVar 1) (yae fLen (yab (sVar 3) sNil))) sNil))))
  (sSeq (sSet 1 (sOp2 fSub (sVar 1) (sOp2 fMul (sVar 5) (yae fLen (yab (sVar 3) sNil)))))
  (sSeq (sIf (sAnd (yam (sOp2 fLt (sVar 5) (sVar 4))) (yam (sOp2 fGt (sVar 1) (sLit (.int 0))))) (sSeq (yax (sBM yat yav (sVar 2) (yab (sTup (yab (sCut (sVar 3) (some (sVar 1)) none) (yab (sLit (.int 1)) sNil))) sNil)))
  (sSeq (sSet 5 (sOp2 fAdd (sVar 5) (sLit (.int 1))))
  (sSet 1 (sLit (.int 0))))) yaw)
  (yax (sBM yat yav (sVar 2) (yab (sTup (yab (sVar 3) (yab (sOp2 fSub (sVar 4) (sVar 5)) sNil))) sNil))))))
def ybc:Fn:=mkFn 2 6
  (sSeq (sSet 2 (ybL sNil))
  (sSeq (sFor (ybz (sVar 0)) (.tup [3,4]) ybo)
  (sRet (ybd [] (iVal (sVar 2)) (yam (sOp2 fGt (sOp2 fIx (sVar 0) (sLit (.int 1))) (sLit (.int 0)))) (sVar 0)))))
def ybj:SS :=
  (sIf (yam (sOp2 fGt (sVar 1) (sLit (.int 0)))) (sSeq (sSet 5 (yae ybQ (yab (sVar 4) (yab (sOp2 fDiv (sVar 1) (yae fLen (yab (sVar 3) sNil))) sNil))))
  (sSeq (yax (sBM yat yav (sVar 2) (yab (sTup (yab (sVar 3) (yab (sVar 5) sNil))) sNil)))
  (sSeq (sSet 1 (sOp2 fSub (sVar 1) (sOp2 fMul (sVar 5) (yae fLen (yab (sVar 3) sNil)))))
  (sIf (sAnd (yam (sOp2 fLt (sVar 5) (sVar 4))) (yam (sOp2 fGt (sVar 1) (sLit (.int 0))))) (sSeq (yax (sBM yat yav (sVar 2) (yab (sTup (yab (sCut (sVar 3) none (some (sVar 1))) (yab (sLit (.int 1)) sNil))) sNil)))
  (sSet 1 (sLit (.int 0)))) yaw)))) yaw)
def ya3:Fn:=mkFn 2 6
  (sSeq (sSet 2 (ybL sNil))
  (sSeq (sFor (ybz (sVar 0)) (.tup [3,4]) ybj)
  (sRet (ybd [] (iVal (sVar 2)) (yam (sOp2 fGt (sOp2 fIx (sVar 0) (sLit (.int 1))) (sLit (.int 0)))) (sVar 0)))))
def ycS:Fn:=mkFn 3 12
  (sSeq (sSet 3 (sOp2 fIx (sLit (.str "abc")) (yae yau (yab (sVar 1) (yab (sLit (.int 3)) sNil)))))
  (sSeq (sSet 4 (sOp2 fIx (sLit (.str "abc")) (yae yau (yab (sVar 1) (yab (sLit (.int 3)) sNil)))))
  (sSeq (sSet 5 (sOp2 fIx (sVar 2) (sVar 3)))
  (sSeq (sSet 6 (yae ya7 (yab (sVar 5) sNil)))
  (sSeq (sSet 7 (yae yau (yab (sVar 1) (yab (sOp2 fAdd (sVar 6) (sLit (.int 1))) sNil))))
  (sSeq (sSet 8 (sOp2 fAdd (sVar 7) (yae yau (yab (sVar 1) (yab (sOp2 fIx (sLst (yab (sOp2 fAdd (sOp2 fSub (sVar 6) (sVar 7)) (sLit (.int 1))) (yab (yae ybQ (yab (sLit (.int 40)) (yab (sOp2 fAdd (sOp2 fSub (sVar 6) (sVar 7)) (sLit (.int 1))) sNil))) sNil))) (yae yau (yab (sVar 1) (yab (sLit (.int 2)) sNil)))) sNil)))))
  (sSeq (sSet 9 (yae yau (yab (sVar 1) (yab (sLit (.int 5)) sNil))))
  (sSeq (sIf (yam (sOp2 fGt (sOp2 fAdd (yae fLen (yab (sVar 5) sNil)) (yae fLen (yab (sOp2 fIx (sVar 2) (sVar 4)) sNil))) (sLit (.int 40)))) (sSet 9 (sOp2 fAdd (sLit (.int 3)) (sOp2 fMod (sVar 9) (sLit (.int 2))))) yaw)
  (sSeq (sSet 10 (yae yau (yab (sVar 1) (yab (sOp2 fIx (sLst (yab (sLit (.int 4)) (yab (sLit (.int 1000)) (yab (sOp2 fPow (sLit (.int 10)) (sLit (.int 15))) sNil)))) (yae yau (yab (sVar 1) (yab (sLit (.int 3)) sNil)))) sNil))))
  (sSeq (sIf (sAnd (yam (sOp2 fEq (sVar 9) (sLit (.int 0)))) (sAnd (yam (sOp2 fLe (sOp2 fMul (sVar 6) (sVar 10)) (sOp2 fPow (sLit (.int 10)) (sLit (.int 17))))) (yam (sOp2 fLt (yae fLen (yab (sVar 5) sNil)) (sLit (.int 2)))))) (sSeq (yax (yaj 1 ybZ (sVar 0) (yab (sVar 3) (yab (sVar 10) sNil))))
  (sRet (sTup (yab (sVar 3) (yab (ydk [10] (ybz (sVar 5)) (yam (sOp2 fGt (sVar 2) (sLit (.int 0)))) (sTup (yab (sVar 0) (yab (sOp2 fMul (sVar 1) (sVar 2)) sNil)))) sNil))))) yaw)
  (sSeq (sIf (sAnd (yam (sOp2 fEq (sVar 9) (sLit (.int 1)))) (yam (sOp2 fLe (sOp2 fAdd (sVar 6) (yae ya7 (yab (sOp2 fIx (sVar 2) (sVar 4)) sNil))) (sOp2 fPow (sLit (.int 10)) (sLit (.int 17)))))) (sSeq (yax (yaj 1 ybS (sVar 0) (yab (sVar 3) (yab (sVar 4) sNil))))
  (sRet (sTup (yab (sVar 3) (yab (sOp2 fAdd (sVar 5) (sOp2 fIx (sVar 2) (sVar 4))) sNil))))) yaw)
  (sSeq (sIf (sAnd (yam (sOp2 fEq (sVar 9) (sLit (.int 2)))) (yam (sOp2 fLe (sOp2 fAdd (sVar 6) (yae ya7 (yab (sOp2 fIx (sVar 2) (sVar 4)) sNil))) (sOp2 fPow (sLit (.int 10)) (sLit (.int 17)))))) (sSeq (yax (yaj 1 ybJ (sVar 0) (yab (sVar 3) (yab (sVar 7) (yab (sVar 4) sNil)))))
  (sRet (sTup (yab (sVar 3) (yab (sOp2 fAdd (sOp2 fAdd (yae ya3 (yab (sVar 5) (yab (sVar 7) sNil))) (sOp2 fIx (sVar 2) (sVar 4))) (yae ybc (yab (sVar 5) (yab (sVar 7) sNil)))) sNil))))) yaw)
  (sSeq (sIf (yam (sOp2 fLt (sVar 9) (sLit (.int 4)))) (sSeq (yax (yaj 1 ybx (sVar 0) (yab (sVar 3) (yab (sVar 7) (yab (sVar 8) sNil)))))
  (sRet (sTup (yab (sVar 3) (yab (sOp2 fAdd (yae ya3 (yab (sVar 5) (yab (sVar 7) sNil))) (yae ybc (yab (sVar 5) (yab (sVar 8) sNil)))) sNil))))) yaw)
  (sSeq (sSet 11 (yae yb8 (yab (sVar 1) (yab (sLit (.int 30)) sNil))))
  (sSeq (yax (yaj 1 ybh (sVar 0) (yab (sVar 3) (yab (sVar 11) sNil))))
  (sRet (sTup (yab (sVar 3) (yab (sOp2 ye6 (sLst (yab (sTup (yab (sVar 11) (yab (sLit (.int 1)) sNil))) sNil)) (yae fInt (yab (sOp2 fNe (sVar 11) (sLit (.str ""))) sNil))) sNil)))))))))))))))))))
def yb0:Fn:=mkFn 1 2
  (sSeq (sIf (yam (sOp2 fEq (Sm.sFld 1 2 (sVar 0)) (sLst sNil))) (λ_ _=>.bad) yaw)
  (sSeq (sSet 1 (sBM0 yat mPop (Sm.sFld 1 2 (sVar 0))))
  (sSeq (yax (sBM yat yav (Sm.sFld 1 3 (sVar 0)) (yab (sVar 1) sNil)))
  (yax (yaj 1 ya8 (sVar 0) (yab (sOp2 fIx (sVar 1) (sLit (.int 0))) (yab (sOp2 fIx (sVar 1) (sLit (.int 1))) sNil)))))))
def ybN:Fn:=mkFn 1 2
  (sSeq (sIf (yam (sOp2 fEq (Sm.sFld 1 3 (sVar 0)) (sLst sNil))) (λ_ _=>.bad) yaw)
  (sSeq (sSet 1 (sBM0 yat mPop (Sm.sFld 1 3 (sVar 0))))
  (sSeq (yax (sBM yat yav (Sm.sFld 1 2 (sVar 0)) (yab (sVar 1) sNil)))
  (yax (yaj 1 ya8 (sVar 0) (yab (sOp2 fIx (sVar 1) (sLit (.int 0))) (yab (sOp2 fIx (sVar 1) (sLit (.int 2))) sNil)))))))
def yaL:SS :=
  (sSeq (sSet 6 (sBM0 yat mPop (sVar 5)))
  (sSeq (sSet 7 (sOp2 fIx (sVar 6) (sLit (.int 0))))
  (sSeq (sSet 8 (sOp2 fIx (sVar 6) (sLit (.int 1))))
  (sSeq (sIf (sOr (yam (sOp2 fGe (sVar 8) (sVar 3))) (yam (sOp2 fLe (sOp2 fAdd (sVar 8) (yaj 0 yay (sVar 0) (yab (sVar 7) sNil))) (sVar 2)))) ygF yaw)
  (sSeq (sSet 9 (yaj 0 yaD (sVar 0) (yab (sVar 7) sNil)))
  (sIf (yam (sOp2 fEq (sOp2 fIx (sVar 9) (sLit (.int 0))) (sLit (.str "leaf")))) (yax (sBM yat yav (sVar 4) (yab (sCut (sOp2 fIx (sVar 9) (sLit (.int 1))) (some (yae ycE (yab (sOp2 fSub (sVar 2) (sVar 8)) (yab (sLit (.int 0)) sNil)))) (some (sOp2 fSub (sVar 3) (sVar 8)))) sNil))) (sSeq (yax (sBM yat yav (sVar 5) (yab (sTup (yab (sOp2 fIx (sVar 9) (sLit (.int 2))) (yab (sOp2 fAdd (sVar 8) (yaj 0 yay (sVar 0) (yab (sOp2 fIx (sVar 9) (sLit (.int 1))) sNil))) sNil))) sNil)))
  (yax (sBM yat yav (sVar 5) (yab (sTup (yab (sOp2 fIx (sVar 9) (sLit (.int 1))) (yab (sVar 8) sNil))) sNil))))))))))
def ycd:Fn:=mkFn 4 10
  (sSeq (sSet 4 (ybL sNil))
  (sSeq (sSet 5 (ybL (yab (sTup (yab (sVar 1) (yab (sLit (.int 0)) sNil))) sNil)))
  (sSeq (ybX (yam (sOp2 fNe (sVar 5) (sLst sNil))) yaL ye5)
  (sRet (sBM yfm yeJ (sLit (.str "")) (yab (sVar 4) sNil))))))
def yci:Fn:=mkFn 4 4
  (sSeq (yax (yae ybT (yab (sVar 0) (yab (sVar 1) (yab (sVar 2) (yab (sVar 3) sNil))))))
  (sSeq (sIf (yam (sOp2 fGt (sOp2 fSub (sVar 3) (sVar 2)) (sLit (.int 10000)))) (λ_ _=>.bad) yaw)
  (sRet (yae ycd (yab (sVar 0) (yab (sVar 1) (yab (sVar 2) (yab (sVar 3) sNil))))))))
def ybr:SS :=
  (sSet 3 (sOp2 fAdd (sVar 3) (sOp2 yeK (sVar 4) (sVar 5))))
def ycA:Fn:=mkFn 3 6
  (sSeq (sSet 3 (sLit (.str "")))
  (sSeq (sFor (ybz (yae ya3 (yab (yae ybc (yab (sVar 0) (yab (sVar 1) sNil))) (yab (sOp2 fSub (sVar 2) (sVar 1)) sNil)))) (.tup [4,5]) ybr)
  (sRet (sVar 3))))
def ybs:Fn:=mkFn 1 1
  (sRet (Sm.sFld 1 0 (sVar 0)))
def ybK:SS :=
  (sSeq (sSet 6 (yae ybQ (yab (sVar 4) (yab (sOp2 fAdd (sVar 5) (sLit (.int 40))) sNil))))
  (sIf (yam (sOp2 fNe (yae yci (yab (yaj 1 ybs (sVar 0) sNil) (yab (sVar 2) (yab (sVar 5) (yab (sVar 6) sNil))))) (yae ycA (yab (sVar 1) (yab (sVar 5) (yab (sVar 6) sNil)))))) (sRet (sLit (.bl false))) yaw))
def yaS:Fn:=mkFn 4 7
  (sSeq (sSet 4 (yae ya7 (yab (sVar 1) sNil)))
  (sSeq (sIf (yam (sOp2 fNe (yaj 0 yay (yaj 1 ybs (sVar 0) sNil) (yab (sVar 2) sNil)) (sVar 4))) (sRet (sLit (.bl false))) yaw)
  (sSeq (sFor (iVal (sLst (yab (sLit (.int 0)) (yab (yae ycE (yab (sLit (.int 0)) (yab (sOp2 fSub (sVar 4) (sLit (.int 40))) sNil))) (yab (yae yau (yab (sVar 3) (yab (sOp2 fAdd (sVar 4) (sLit (.int 1))) sNil))) (yab (yae yau (yab (sVar 3) (yab (sOp2 fAdd (sVar 4) (sLit (.int 1))) sNil))) sNil)))))) (.nm 5) ybK)
  (sRet (sLit (.bl true))))))
def yc5:SS :=
  (sSeq (yax (yaj 1 ybh (sVar 1) (yab (sVar 3) (yab (sLit (.str "")) sNil))))
  (ybv (sVar 2) (sVar 3) (sLst sNil)))
def ydB:SS :=
  (sSeq (sSet 8 (yae ybg (yab (sLst (yab (sVar 7) (yab (sVar 6) sNil))) (yab (sLit (.int 0)) sNil))))
  (sSeq (ygG (.tup [3,9]) (yae ycS (yab (sVar 1) (yab (sVar 8) (yab (sVar 2) sNil)))))
  (sSeq (sSet 2 (yae yee (yab (sVar 2) sNil)))
  (sSeq (ybv (sVar 2) (sVar 3) (sVar 9))
  (sSeq (yax (sBM yat yav (sVar 4) (yab (sVar 2) sNil)))
  (sSeq (yax (sBM yat yav (sVar 5) (yab (sTup (yab (sVar 9) (yab (yaj 1 yaz (sVar 1) (yab (sVar 3) sNil)) sNil))) sNil)))
  (sIf (sNot (ycD (yae yaS (yab (sVar 1) (yab (sVar 9) (yab (yaj 1 yaz (sVar 1) (yab (sVar 3) sNil)) (yab (sVar 8) sNil))))))) (sRet (sLit (.bl false))) yaw)))))))
def yc6:SS :=
  (yax (yaj 1 yb0 (sVar 1) sNil))
def ydC:SS :=
  (sIf (sNot (ycD (yae yaS (yab (sVar 1) (yab (sOp2 fIx (sOp2 fIx (sVar 4) (sOp2 fSub (sOp2 fSub (yae fLen (yab (sVar 4) sNil)) (sLit (.int 1))) (sVar 10))) (sVar 3)) (yab (yaj 1 yaz (sVar 1) (yab (sVar 3) sNil)) (yab (sVar 8) sNil))))))) (sRet (sLit (.bl false))) yaw)
def yc7:SS :=
  (yax (yaj 1 ybN (sVar 1) sNil))
def ydD:SS :=
  (sIf (sNot (ycD (yae yaS (yab (sVar 1) (yab (sVar 9) (yab (sVar 12) (yab (sVar 8) sNil))))))) (sRet (sLit (.bl false))) yaw)
def yfQ:Fn:=mkFn 1 13
  (sSeq (sSet 1 (yeI 1 4 ybY sNil))
  (sSeq (sSet 2 (yeW false))
  (sSeq (sFor (iVal (sLit (.str "abc"))) (.nm 3) yc5)
  (sSeq (sSet 4 (ybL (yab (sVar 2) sNil)))
  (sSeq (sSet 5 (ybL sNil))
  (sSeq (sFor (Sm.iEnum (sOp2 fAdd (sCut (sVar 0) none (some (sLit (.int 20)))) (sLst (yab (sLit (.int 0)) (yab (sLit (.int 1)) (yab (sLit (.int 2)) (yab (sLit (.int 3)) (yab (sLit (.int 4)) sNil)))))))) (.tup [6,7]) ydB)
  (sSeq (sSet 8 (yae ybg (yab (sVar 0) (yab (sLit (.int 1)) sNil))))
  (sSeq (sSet 10 (yae yau (yab (sVar 8) (yab (yae fLen (yab (sVar 4) sNil)) sNil))))
  (sSeq (sFor (ycq (sVar 10)) (.nm 11) yc6)
  (sSeq (sFor (iVal (sLit (.str "abc"))) (.nm 3) ydC)
  (sSeq (sFor (ycq (sVar 10)) (.nm 11) yc7)
  (sSeq (sFor (ybz (sCut (sVar 5) (some (sOp1 fNeg (sLit (.int 6)))) none)) (.tup [9,12]) ydD)
  (sRet (yae fAll (yab (ybd [1,4,8] (iVal (sLit (.str "abc"))) sYes (yae yaS (yab (sVar 1) (yab (sOp2 fIx (sOp2 fIx (sVar 2) (sOp1 fNeg (sLit (.int 1)))) (sVar 0)) (yab (yaj 1 yaz (sVar 1) (yab (sVar 0) sNil)) (yab (sVar 3) sNil)))))) sNil)))))))))))))))
end Sk
set_option exponentiation.threshold 2000
namespace Sk
open PySem PySem.Spec L2 Sm
theorem zgd {w:Option Nat} {all:List AV} {t:Tg} {b:SS} (P:Nat->En->AH->Prop):∀ (xs:List AV) (i:Nat) (en:En) (h:AH),P i en h ->
  (∀ i en h,P i en h->ybV w all h=true) ->
  (∀ (j:Nat) (x:AV) (en:En) (h:AH),xs[j]? = some x->P (i+j) en h->∃ e1 e2 h2,setT t x en=some e1/\(b e1 h = .nx e2 h2\/b e1 h = .ct e2 h2)/\P (i+j+1) e2 h2) ->
  ∃ e' h',ybu w all t b xs en h = .nx e' h'/\P (i+xs.length) e' h'
 | [],i,en,h,p,lv,_=>⟨en,h,by unfold ybu;rw [if_pos (lv _ _ _ p)],p⟩
 | x::xs,i,en,h,p,lv,s=>by
  obtain ⟨e1,e2,h2,q1,q2,q3⟩:=s 0 x en h rfl p
  obtain ⟨e',h',r1,r2⟩:=zgd P xs (i+1) e2 h2 q3 lv λj y en h e q=>by
   have:=s (j+1) y en h (by simpa using e) (by rw [show i+(j+1)=i+1+j by lia];exact q)
   rw [show i+(j+1)+1=i+1+j+1 by lia] at this
   exact this
  refine ⟨e',h',?_,by rw [List.length_cons,show i+(xs.length+1)=i+1+xs.length by lia];exact r2⟩
  unfold ybu
  rw [if_pos (lv _ _ _ p)]
  simp only [q1]
  rcases q2 with q2 | q2
  ·rw [q2];exact r1
  ·rw [q2];exact r1
theorem zaS {α:Type} {js:List Nat} {en:En} {w:Option Nat} {all:List AV} {c:SB} {e:SE} {g f:α->AV} {p:α->Bool} {h:AH} (lv:ybV w all h=true):∀ (cs:List α) (ys:List AV),(∀ x∈cs,c (some (g x)::js.map λj=>(en[j]?).join) h = .ok (p x) h)->(∀ x∈cs,p x=true->e (some (g x)::js.map λj=>(en[j]?).join) h = .ok (f x) h)->ys.length+cs.length<=sizeLine ->
  ybb js en w all c e (cs.map g) ys h = .ok (ys++(cs.filter p).map f) h
 | [],ys,_,_,_=>by rw [List.map_nil];unfold ybb;rw [if_pos lv];simp
 | x::xs,ys,hc,he,hl=>by
  have hl':ys.length<sizeLine:=by simp at hl;lia
  rw [List.map_cons]
  unfold ybb
  rw [if_pos ⟨lv,hl'⟩,hc x (by simp)]
  cases hp:p x with
  | false =>
   dsimp only
   rw [zaS lv xs ys (λy hy=>hc y (by simp [hy])) (λy hy=>he y (by simp [hy])) (by simp at hl ⊢;lia)]
   simp [List.filter_cons,hp]
  | true =>
   dsimp only
   rw [he x (by simp) hp]
   dsimp only
   rw [zaS lv xs (ys++[f x]) (λy hy=>hc y (by simp [hy])) (λy hy=>he y (by simp [hy])) (by simp at hl ⊢;lia)]
   simp [List.filter_cons,hp]
variable {α:Type} {en:En} {h h1 h' h2 hh H0:AH}
theorem ziU {js:List Nat} {w:Option Nat} {all:List AV} {e:SE} {g f:α->AV} (lv:ybV w all h=true) (cs:List α) (ys:List AV) (he:∀ x∈cs,e (some (g x)::js.map λj=>(en[j]?).join) h = .ok (f x) h) (hl:ys.length+cs.length<=sizeLine) :
  ybb js en w all sYes e (cs.map g) ys h = .ok (ys++cs.map f) h:=by
 rw [zaS (p:=λ_=>true) lv cs ys (λ_ _=>rfl) (λx hx _=>he x hx) hl,List.filter_eq_self.mpr (λ_ _=>rfl)]
theorem zd8 {c:SB} {b:SS} (P:Nat->En->AH->Prop) (Q:En->AH->Prop):∀ (fuel n:Nat) (en:En) (h:AH),P n en h->n<fuel ->
  (∀ n en h,P n en h->(∃ h1,c en h = .ok false h1/\Q en h1)\/(∃ n' h1 e2 h2,n'<n/\c en h = .ok true h1/\(b en h1 = .nx e2 h2\/b en h1 = .ct e2 h2)/\P n' e2 h2)) ->
  ∃ e' h',ybX c b fuel en h = .nx e' h'/\Q e' h'
 | 0,n,en,h,_,l,_=>absurd l (Nat.not_lt_zero _)
 | fuel+1,n,en,h,p,l,s=>by
  rcases s n en h p with ⟨h1,q1,q2⟩ | ⟨n',h1,e2,h2,q0,q1,q2,q3⟩
  ·refine ⟨en,h1,?_,q2⟩
   unfold ybX;rw [q1]
  ·obtain ⟨e',h',r1,r2⟩:=zd8 P Q fuel n' e2 h2 q3 (by lia) s
   refine ⟨e',h',?_,r2⟩
   unfold ybX;rw [q1]
   rcases q2 with q2 | q2
   ·simp only [q2];exact r1
   ·simp only [q2];exact r1
@[simp] def thn (o:OutS) (Q:En->AH->Prop):Prop:=match o with
 | .nx e h=>Q e h
 | .ct e h=>Q e h
 | _=>False
theorem ygk {o:OutS} {Q:En->AH->Prop} (t:thn o Q):∃ e h,(o = .nx e h\/o = .ct e h)/\Q e h:=by
 cases o with
 | nx e h=>exact ⟨e,h,.inl rfl,t⟩
 | ct e h=>exact ⟨e,h,.inr rfl,t⟩
 | _=>exact t.elim
@[simp] def yhV (o:Option En) (Q:En->Prop):Prop:=match o with
 | some e=>Q e
 | none=>False
variable {xs ys:List AV}
theorem yct {w:Option Nat} {all:List AV} {t:Tg} {b:SS} (P:Nat->En->AH->Prop) (p0:P 0 en h) (lv:∀ i en h,P i en h->ybV w all h=true) (st:∀ (j:Nat) (x:AV) (en:En) (h:AH),xs[j]? = some x->P j en h->yhV (setT t x en) λe1=>thn (b e1 h) (P (j+1))) :
  ∃ e' h',ybu w all t b xs en h = .nx e' h'/\P xs.length e' h' := by
 have:=zgd (w:=w) (all:=all) (t:=t) (b:=b) P xs 0 en h p0 lv λj x en h hx hp=>by
  have q:=st j x en h hx (by simpa using hp)
  cases z:setT t x en with
  | none=>rw [z] at q;exact q.elim
  | some e1 =>
   rw [z] at q
   obtain ⟨e,h2,a,c⟩:=ygk q
   exact ⟨e1,e,h2,rfl,a,by simpa using c⟩
 simpa using this
variable {n e b c a i j p d r s k2 k1 n1 L hb H L1 L2 R:Nat}
theorem zj8 {c:SB} {b:SS} {fuel:Nat} (P:Nat->En->AH->Prop) (Q:En->AH->Prop) (p0:P n en h) (hn:n<fuel) (st:∀ n en h,P n en h->match c en h with
   | .ok true h1=>thn (b en h1) λe2 h2=>∃ n',n'<n/\P n' e2 h2
   | .ok false h1=>Q en h1
   | _=>False) :
  ∃ e' h',ybX c b fuel en h = .nx e' h'/\Q e' h' := by
 refine zd8 P Q fuel n en h p0 hn λn en h p=>?_
 have q:=st n en h p
 cases z:c en h with
 | ok x h1 =>
  rw [z] at q
  cases x with
  | true =>
   obtain ⟨e,h2,a,n',l,c⟩:=ygk q
   exact .inr ⟨n',h1,e,h2,l,rfl,a,c⟩
  | false=>exact .inl ⟨h1,rfl,q⟩
 | ex _ _=>rw [z] at q;exact q.elim
 | bad=>rw [z] at q;exact q.elim
@[simp] def ygP (o:Out AV) (Q:AV->AH->Prop):Prop:=match o with
 | .ok v h=>Q v h
 | _=>False
theorem zge {js:List Nat} {en:En} {all:List AV} {e:SE} (P:Nat->List AV->AH->Prop):∀ (xs ys:List AV) (i:Nat) (h:AH),P i ys h ->
  (∀ j x ys h,xs[j]? = some x->P (i+j) ys h->∃ v h2,e (some x::js.map λj=>(en[j]?).join) h = .ok v h2/\P (i+j+1) (ys++[v]) h2)->ys.length+xs.length<=sizeLine ->
  ∃ zs h',ybb js en none all sYes e xs ys h = .ok zs h'/\P (i+xs.length) zs h'
 | [],ys,i,h,p,_,_=>⟨ys,h,by simp [ybb],p⟩
 | x::xs,ys,i,h,p,s,hl=>by
  obtain ⟨v,h2,q1,q2⟩:=s 0 x ys h rfl p
  obtain ⟨zs,h',r1,r2⟩:=zge P xs (ys++[v]) (i+1) h2 q2 (λj y ys h hy hp=>by
   have:=s (j+1) y ys h (by simpa using hy) (by rw [show i+(j+1)=i+1+j by lia];exact hp)
   rw [show i+(j+1)+1=i+1+j+1 by lia] at this
   exact this) (by simp at hl ⊢;lia)
  refine ⟨zs,h',?_,by rw [List.length_cons,show i+(xs.length+1)=i+1+xs.length by lia];exact r2⟩
  unfold ybb
  rw [if_pos ⟨rfl,by simp at hl;lia⟩]
  simp only [sYes]
  rw [q1]
  exact r1
theorem ygl {js:List Nat} {all:List AV} {e:SE} (P:Nat->List AV->AH->Prop) (p0:P 0 [] h) (st:∀ j x ys h,xs[j]? = some x->P j ys h->ygP (e (some x::js.map λj=>(en[j]?).join) h) λv h2=>P (j+1) (ys++[v]) h2) (hl:xs.length<=sizeLine) :
  ∃ zs h',ybb js en none all sYes e xs [] h = .ok zs h'/\P xs.length zs h' := by
 have:=zge (js:=js) (en:=en) (all:=all) (e:=e) P xs [] 0 h p0 (λj x ys h hx p=>by
  have q:=st j x ys h hx (by simpa using p)
  cases z:e (some x::js.map λj=>(en[j]?).join) h with
  | ok v h2=>rw [z] at q;exact ⟨v,h2,rfl,by simpa using q⟩
  | ex _ _=>rw [z] at q;exact q.elim
  | bad=>rw [z] at q;exact q.elim) (by simpa using hl)
 simpa using this
theorem zd9:∀ (n:Nat) (lo:Int) (i:Nat),(yaX lo n)[i]? = if i<n then some (.int (lo+i)) else none
 | 0,lo,i=>by simp [yaX]
 | n+1,lo,0=>by simp [yaX]
 | n+1,lo,i+1=>by
  unfold yaX
  rw [List.getElem?_cons_succ,zd9 n (lo+1) i]
  by_cases q:i<n
  ·rw [if_pos q,if_pos (by lia)];congr 2;lia
  ·rw [if_neg q,if_neg (by lia)]
theorem zaL:∀ (n:Nat) (lo:Int),(yaX lo n).length=n
 | 0,_=>rfl
 | n+1,lo=>by unfold yaX;rw [List.length_cons,zaL n]
theorem zbq {a:SE} (e:a en h = .ok (.int n) h1) (hn:n<=10000000):ycq a en h = .ok (yaX 0 n,none) h1:=by
 have h1':(n:Int).natAbs<2 ^ 62:=by lia
 simp only [ycq,e,Out.bind]
 rw [if_pos h1'];rfl
theorem yb1 {it:SI} {t:Tg} {b:SS} {w:Option Nat} (e:it en h = .ok (xs,w) h1):sFor it t b en h=ybu w xs t b xs en h1:=by simp only [sFor,e]
theorem ygm {i j:Int} (hi:i.natAbs<2 ^ 64):fMul (.int i) (.int j) h = .ok (.int (i*j)) h:=if_pos (.inl (.inl hi))
theorem yfC {i j:Int} (hj:j.natAbs<2 ^ 64):fMul (.int i) (.int j) h = .ok (.int (i*j)) h:=if_pos (.inl (.inr hj))
theorem ziV {f:α->AV} {l:List α} {q:α} (e:l[j]? = some q):atI (l.map f) (j:Int)=some (f q):=zck (by simp [e])
end Sk
set_option exponentiation.threshold 5000
namespace Sk
open PySem PySem.Spec L2 Sm
def yef (c:Nat):Bool:=decide (c=10) || (decide (32<=c) && decide (c<=126))
theorem lt1 (a b:Nat):([a]<[b]) ↔ a<b:=by
 simp [List.cons_lt_cons_iff]
theorem ygn:(Str.ofString "\n")=⟨#[10]⟩:=by decide +kernel
theorem yhW:(Str.ofString " ")=⟨#[32]⟩:=by decide +kernel
theorem yhX:(Str.ofString "~")=⟨#[126]⟩:=by decide +kernel
theorem yhY (c:Nat) (h:AH):ybR [.str ⟨#[c]⟩] h = .ok (.bl (yef c)) h:=by
 simp [ybR,ygn,yhW,yhX,lt1,yef]
 by_cases h1:c=10
 ·simp [h1]
 ·by_cases h2:c<32
  ·have : ¬ 32<=c:=by lia
   simp [h1,h2,this]
  ·have h3:32<=c:=by lia
   by_cases h4:c<=126
   ·have : ¬ 126<c:=by lia
    simp [h1,h2,h3,h4,this]
   ·have:126<c:=by lia
    simp [h1,h2,h3,h4,this]
theorem zcO {α:Type} {js:List Nat} {en:En} {all:List AV} {e:SE} {g f:α->AV} {h:AH}:∀ (cs:List α) (ys:List AV),(∀ c∈cs,e (some (g c)::js.map λj=>(en[j]?).join) h = .ok (f c) h)->ys.length+cs.length<=sizeLine->ybb js en none all sYes e (cs.map g) ys h = .ok (ys++cs.map f) h
 | [],ys,_,_=>by simp [ybb]
 | x::xs,ys,he,hl=>by
  have hl':ys.length<sizeLine:=by simp at hl;lia
  rw [List.map_cons]
  unfold ybb
  rw [if_pos ⟨rfl,hl'⟩]
  simp only [sYes]
  rw [he x (by simp)]
  dsimp only
  rw [zcO xs (ys++[f x]) (λy hy=>he y (by simp [hy])) (by simp at hl ⊢;lia)]
  simp
theorem zb7 (f:Nat->Bool):∀ cs:List Nat,yd9 (cs.map λc=>.bl (f c))=some (cs.map f)
 | []=>rfl
 | c::cs=>by simp [zb7 f cs]
def yaK (x:Str):Bool:=x.cps.toList.all yef
theorem zgf (x:Str) (h:AH) (hl:x.length<=sizeLine):ycR [.str x] h = .ok (.bl (yaK x)) h:=by
 have e:=zcO (js:=[]) (en:=[some (.str x)]) (all:=x.cps.toList.map λc=>AV.str ⟨#[c]⟩) (e:=yae ybR (yab (sVar 0) sNil)) (g:=λc=>AV.str ⟨#[c]⟩) (f:=λc=>AV.bl (yef c)) (h:=h) x.cps.toList [] (by
  intro c hc
  simp [yhY]) (by simp;exact hl)
 simp only [List.nil_append] at e
 simp [ycR]
 rw [e]
 simp [zb7,yaK]
def yby (x:Str):Bool:=yaK x && (decide (1<=x.length) && decide (x.length<=8))
theorem zgg (x:Str) (h:AH) (hl:x.length<=sizeLine):ydt [.str x] h = .ok (.bl (yby x)) h:=by
 simp [ydt,zgf x h hl,yby]
 by_cases h1:yaK x=true
 ·by_cases h2:1<=x.length
  ·have:(1:Int)<=x.length:=by lia
   by_cases h3:x.length<=8
   ·have:(x.length:Int)<=8:=by lia
    simp [*]
   ·have : ¬ (x.length:Int)<=8:=by lia
    simp [*]
  ·have : ¬ (1:Int)<=x.length:=by lia
   simp [*]
 ·simp [h1]
def ydu (x:Str):Nat:=(Builtin.Str.occurrences x ⟨#[10]⟩ 0 x.length (x.length+1)).length
theorem yhZ (x:Str) (h:AH):ydU [.str x] h = .ok (.int (ydu x)) h:=by
 simp [ydU,ygn,ydu]
theorem zj9 (i:Int) (h:AH):yds [.int i] h = .ok (.bl true) h:=by
 simp [yds]
inductive Pc where
 | leaf (x:Str)
 | fork (a b:Nat)
 deriving DecidableEq
def Pc.av:Pc->AV
 | .leaf x=>.tup [.str "leaf",.str x]
 | .fork a b=>.tup [.str "fork",.int a,.int b]
theorem Pc.av_inj:∀ {p q:Pc},p.av=q.av->p=q
 | .leaf x,.leaf y,e=>by simp [Pc.av] at e;rw [e]
 | .leaf x,.fork a b,e=>by simp [Pc.av] at e
 | .fork a b,.leaf x,e=>by simp [Pc.av] at e
 | .fork a b,.fork c d,e=>by simp [Pc.av] at e;rw [Int.ofNat.inj e.1,Int.ofNat.inj e.2]
structure Ms where
 sg:Nat
 en:Nat
 lv:Nat
 ht:Int
 fl:Nat
 ll:Nat
def ms0:Ms:=⟨0,0,0,-1,0,0⟩
def ycT (ms:List Ms):Pc->Ms
 | .leaf x=>⟨x.length,ydu x,1,0,ms.length,ms.length⟩
 | .fork a b=>⟨(ms.getD a ms0).sg+(ms.getD b ms0).sg,(ms.getD a ms0).en+(ms.getD b ms0).en,(ms.getD a ms0).lv+(ms.getD b ms0).lv,max (ms.getD a ms0).ht (ms.getD b ms0).ht+1,(ms.getD a ms0).fl,(ms.getD b ms0).ll⟩
def meas (ps:List Pc):List Ms:=ps.foldl (λms q=>ms++[ycT ms q]) [ms0]
theorem zb8 (ps:List Pc) (q:Pc):meas (ps++[q])=meas ps++[ycT (meas ps) q]:=by simp [meas]
theorem zar:∀ ps:List Pc,(meas ps).length=ps.length+1:=by
 have all:∀ (ps:List Pc) (ms:List Ms),(ps.foldl (λms q=>ms++[ycT ms q]) ms).length=ms.length+ps.length:=by
  intro ps
  induction ps with
  | nil=>intro ms;rfl
  | cons q r ih=>intro ms;rw [List.foldl_cons,ih];simp;lia
 intro ps
 rw [meas,all];simp;lia
def ybk (k:Nat):List Pc->List (AV×AV)
 | []=>[]
 | q::r=>(q.av,.int k)::ybk (k+1) r
def tab (ps:List Pc):List (AV×AV):=ybk 1 ps
theorem zaV (q:Pc):∀ (ps:List Pc) (k:Nat),ybk k (ps++[q])=ybk k ps++[(q.av,.int ((k+ps.length:Nat):Int))]
 | [],k=>by simp [ybk]
 | p::r,k=>by
  simp only [List.cons_append,ybk,zaV q r (k+1)]
  rw [show k+1+r.length=k+(p::r).length by simp;lia]
theorem zgh:∀ (ps:List Pc) (k:Nat),(ybk k ps).length=ps.length
 | [],_=>rfl
 | p::r,k=>by simp [ybk,zgh r]
theorem zbO {q:Pc}:∀ {ps:List Pc} {k:Nat},q∉ps->valA (ybk k ps) q.av=none
 | [],k,_=>rfl
 | p::r,k,h=>by
  have h1 : ¬ p.av=q.av:=λe=>h (by rw [Pc.av_inj e];simp)
  have h2:=zbO (q:=q) (ps:=r) (k:=k+1) λz=>h (by simp [z])
  unfold valA at h2 ⊢
  simp only [ybk,List.find?_cons,decide_eq_false h1]
  exact h2
theorem zcP {q:Pc}:∀ {ps:List Pc} {k i:Nat},ps.Nodup->ps[i]? = some q->valA (ybk k ps) q.av=some (.int ((k+i:Nat):Int))
 | [],k,i,_,e=>by simp at e
 | p::r,k,0,n,e=>by simp at e;subst e;simp [valA,ybk]
 | p::r,k,i+1,n,e=>by
  simp at e
  have h1 : ¬ p.av=q.av:=λz=>(List.nodup_cons.mp n).1 (by rw [Pc.av_inj z];exact List.mem_of_getElem? e)
  have h2:=zcP (q:=q) (k:=k+1) (List.nodup_cons.mp n).2 e
  unfold valA at h2 ⊢
  simp only [ybk,List.find?_cons,decide_eq_false h1]
  rw [h2]
  congr 3
  lia
variable {ps ps' ps1:List Pc}
theorem zka {q:Pc} (h:q∉ps):putA (tab ps) q.av (.int ((ps.length+1:Nat):Int))=tab (ps++[q]):=by
 unfold putA
 rw [zdy,tab,zbO h,tab,zaV]
 simp [Nat.add_comm]
structure ShelfAt (h:AH) (p:Nat) (ps:List Pc):Prop where
 ob:h[p]? = some (.ins 0 [some (.ref (p+1)),some (.ref (p+2)),some (.ref (p+3)),some (.ref (p+4)),some (.ref (p+5)),some (.ref (p+6)),some (.ref (p+7)),some (.ref (p+8))])
 h1:h[p+1]? = some (.lst (ps.map Pc.av))
 h2:h[p+2]? = some (.dct true (tab ps))
 h3:h[p+3]? = some (.lst ((meas ps).map λm=>.int m.sg))
 h4:h[p+4]? = some (.lst ((meas ps).map λm=>.int m.en))
 h5:h[p+5]? = some (.lst ((meas ps).map λm=>.int m.lv))
 h6:h[p+6]? = some (.lst ((meas ps).map λm=>.int m.ht))
 h7:h[p+7]? = some (.lst ((meas ps).map λm=>.int m.fl))
 h8:h[p+8]? = some (.lst ((meas ps).map λm=>.int m.ll))
def yce (h:AH) (p:Nat) (ps:List Pc):AH :=
 (((((((h.set (p+1) (.lst (ps.map Pc.av))).set (p+2) (.dct true (tab ps))).set (p+3) (.lst ((meas ps).map λm=>.int m.sg))).set (p+4) (.lst ((meas ps).map λm=>.int m.en))).set (p+5) (.lst ((meas ps).map λm=>.int m.lv))).set
  (p+6) (.lst ((meas ps).map λm=>.int m.ht))).set (p+7) (.lst ((meas ps).map λm=>.int m.fl))).set (p+8) (.lst ((meas ps).map λm=>.int m.ll))
variable {h h1 h' h2 hh H0:AH} {i e b c n a j p d r s k2 k1 n1 L hb H L1 L2 R:Nat} {o:AO}
theorem yaW (e:h[i]? = some o):i<h.length:=(List.getElem?_eq_some_iff.mp e).1
theorem zea (h:AH) (p:Nat) (ps:List Pc):(yce h p ps).length=h.length:=by simp [yce]
theorem zeS {q:Nat} (hq:q<=p\/p+8<q):(yce h p ps)[q]? = h[q]? := by
 unfold yce
 repeat rw [List.getElem?_set_ne (by lia)]
theorem zbP (S:ShelfAt h p ps):ShelfAt (yce h p ps') p ps' := by
 have b:=yaW S.h8
 have l1:p+1<h.length:=Nat.lt_of_le_of_lt (Nat.add_le_add_left (by decide) p) b
 have l2:p+2<h.length:=Nat.lt_of_le_of_lt (Nat.add_le_add_left (by decide) p) b
 have l3:p+3<h.length:=Nat.lt_of_le_of_lt (Nat.add_le_add_left (by decide) p) b
 have l4:p+4<h.length:=Nat.lt_of_le_of_lt (Nat.add_le_add_left (by decide) p) b
 have l5:p+5<h.length:=Nat.lt_of_le_of_lt (Nat.add_le_add_left (by decide) p) b
 have l6:p+6<h.length:=Nat.lt_of_le_of_lt (Nat.add_le_add_left (by decide) p) b
 have l7:p+7<h.length:=Nat.lt_of_le_of_lt (Nat.add_le_add_left (by decide) p) b
 have ob:=S.ob
 constructor<;>simp [yce,List.getElem?_set,l1,l2,l3,l4,l5,l6,l7,b,ob,-List.getElem?_eq_getElem]
variable {α:Type}
theorem lenA (l:List α) (f:α->AV):(l.map f).length=l.length:=by simp
theorem yi2 {i:Int} (S:ShelfAt h p ps):ybW [.ref p,.int i] h = .ok (.bl (decide (1<=i/\i<=ps.length))) h:=by
 simp [ybW,zj9,S.ob,S.h1]
 by_cases h1:1<=i<;>simp [h1]
theorem zbQ {i:Int} (S:ShelfAt h p ps) (hi:1<=i/\i<=ps.length):ya4 [.ref p,.int i] h = .ok .non h:=by
 simp [ya4,yi2 S,S.ob,hi.1,hi.2]
theorem zaD {f:α->AV} {l:List α} {q:α} (e:l[j]? = some q):atI (l.map f) (j:Int)=some (f q):=zck (by simp [e])
theorem zkb {q:Pc} (S:ShelfAt h p ps) (e:ps[j]? = some q):yaD [.ref p,.int ((j:Int)+1)] h = .ok q.av h:=by
 have hj:=(List.getElem?_eq_some_iff.mp e).1
 have h1:=zbQ S (i:=(j:Int)+1) ⟨by lia,by lia⟩
 simp [yaD,h1,S.ob,S.h1,zaD e]
theorem ygQ {q:Pc} (S:ShelfAt h p ps) (hq:q∉ps) (hl:ps.length<16000000) :
  ycy [.ref p,q.av] h = .ok (.int ((ps.length+1:Nat):Int)) ((h.set (p+1) (.lst ((ps++[q]).map Pc.av))).set (p+2) (.dct true (tab (ps++[q])))):=by
 have b:=yaW S.h8
 have hs:ps.length<sizeLine:=Nat.lt_trans hl (by decide)
 have ht:(tab ps).length<sizeLine:=by rw [tab,zgh];exact hs
 have hk:ybP true q.av=true:=by cases q<;>simp [Pc.av]
 have e1:(h.set (p+1) (.lst (ps.map Pc.av++[q.av])))[p]? = h[p]? := List.getElem?_set_ne (by lia)
 have e2:(h.set (p+1) (.lst (ps.map Pc.av++[q.av])))[p+1]? = some (.lst (ps.map Pc.av++[q.av])):=List.getElem?_set_self (by lia)
 have e3:(h.set (p+1) (.lst (ps.map Pc.av++[q.av])))[p+2]? = h[p+2]? := List.getElem?_set_ne (by lia)
 have tp:=zka hq
 simp [ycy,S.ob,S.h1,hs,e1,e2,e3,S.h2,hk,ht,-ybP]
 rw [show ((ps.length:Int)+1)=((ps.length+1:Nat):Int) by simp,tp]
variable {x w y:Str}
theorem zhW (S:ShelfAt h p ps) (hq:Pc.leaf x∉ps) (hl:ps.length<16000000) :
  ybI [.ref p,(Pc.leaf x).av] h = .ok .non (yce h p (ps++[.leaf x])):=by
 have b:=yaW S.h8
 have hs:ps.length+1<sizeLine:=Nat.lt_of_lt_of_le (Nat.succ_lt_succ hl) (by decide)
 have hm:(meas ps).length<sizeLine:=by rw [zar];exact hs
 have e:=ygQ S hq hl
 have b2:((meas ps).length:Int)=(ps.length:Int)+1:=by rw [zar];simp
 have e2:fIx (Pc.leaf x).av (.int 1)=λh=>Out.ok (.str x) h:=by funext h;rfl
 have l1:p+1<h.length:=by lia
 have l2:p+2<h.length:=by lia
 have l3:p+3<h.length:=by lia
 have l4:p+4<h.length:=by lia
 have l5:p+5<h.length:=by lia
 have l6:p+6<h.length:=by lia
 have l7:p+7<h.length:=by lia
 simp [ybI,e,S.ob,S.h3,S.h4,S.h5,S.h6,S.h7,S.h8,hm,yhZ,List.getElem?_set,zb8,ycT,yce,e2,zar,hs,-fIx,-List.getElem?_eq_getElem]
theorem zgi {l:List α} {d x:α} (e:l[i]? = some x):l.getD i d=x:=by simp [List.getD,e]
variable {ma mb f l la fb fa lb mc md:Ms}
theorem zhX (S:ShelfAt h p ps) (hq:Pc.fork a b∉ps) (hl:ps.length<16000000) (ha:(meas ps)[a]? = some ma) (hb:(meas ps)[b]? = some mb) :
  ybG [.ref p,(Pc.fork a b).av] h = .ok .non (yce h p (ps++[.fork a b])):=by
 have bb:=yaW S.h8
 have hs:ps.length+1<sizeLine:=Nat.lt_of_lt_of_le (Nat.succ_lt_succ hl) (by decide)
 have hm:(meas ps).length<sizeLine:=by rw [zar];exact hs
 have e:=ygQ S hq hl
 have e2:fIx (Pc.fork a b).av (.int 1)=λh=>Out.ok (.int a) h:=by funext h;rfl
 have e3:fIx (Pc.fork a b).av (.int 2)=λh=>Out.ok (.int b) h:=by funext h;rfl
 have l1:p+1<h.length:=by lia
 have l2:p+2<h.length:=by lia
 have l3:p+3<h.length:=by lia
 have l4:p+4<h.length:=by lia
 have l5:p+5<h.length:=by lia
 have l6:p+6<h.length:=by lia
 have l7:p+7<h.length:=by lia
 have fx:∀ (n:Nat) (g:Ms->AV) (h':AH),h'[n]? = some (.lst ((meas ps).map g))->fIx (.ref n) (.int a) h' = .ok (g ma) h'/\fIx (.ref n) (.int b) h' = .ok (g mb) h' := λn g h' e=>by
  simp [fIx,e,zaD ha,zaD hb]
 have f3:=λ(h':AH) (e:h'[p+3]? = some (.lst ((meas ps).map λm=>.int m.sg)))=>fx _ _ h' e
 have f4:=λ(h':AH) (e:h'[p+4]? = some (.lst ((meas ps).map λm=>.int m.en)))=>fx _ _ h' e
 have f5:=λ(h':AH) (e:h'[p+5]? = some (.lst ((meas ps).map λm=>.int m.lv)))=>fx _ _ h' e
 have f6:=λ(h':AH) (e:h'[p+6]? = some (.lst ((meas ps).map λm=>.int m.ht)))=>fx _ _ h' e
 have f7:=λ(h':AH) (e:h'[p+7]? = some (.lst ((meas ps).map λm=>.int m.fl)))=>fx _ _ h' e
 have f8:=λ(h':AH) (e:h'[p+8]? = some (.lst ((meas ps).map λm=>.int m.ll)))=>fx _ _ h' e
 have hmax:∀ i j:Int,(if j > i then j else i)=max i j:=λi j=>by split<;>lia
 simp [ybG,e,S.ob,S.h3,S.h4,S.h5,S.h6,S.h7,S.h8,hm,List.getElem?_set,zb8,ycT,yce,e2,e3,zar,hs,zaD ha,zaD hb,zgi ha,zgi hb,-fIx,-List.getElem?_eq_getElem,-List.getD_eq_getElem?_getD,f3,f4,f5,f6,f7,f8,hmax]
theorem zbR (S:ShelfAt h p ps) (nd:ps.Nodup) (hx:yby x=true) (hl:x.length<=sizeLine) (e:ps[i]? = some (.leaf x)):yaH [.ref p,.str x] h = .ok (.int ((i+1:Nat):Int)) h:=by
 have t:=zcP (k:=1) nd e
 have t':valA (tab ps) (.tup [.str "leaf",.str x])=some (.int ((i+1:Nat):Int)):=by rw [Nat.add_comm];exact t
 simp [yaH,zgg x h hl,hx,S.ob,S.h2,t']
theorem zgZ (S:ShelfAt h p ps) (hx:yby x=true) (hl:x.length<=sizeLine) (hq:Pc.leaf x∉ps) (hz:ps.length<16000000):yaH [.ref p,.str x] h = .ok (.int ((ps.length+1:Nat):Int)) (yce h p (ps++[.leaf x])):=by
 have t:valA (tab ps) (.tup [.str "leaf",.str x])=none:=zbO (q:=.leaf x) (k:=1) hq
 have S2:=zbP (ps' := ps++[.leaf x]) S
 have e:=zhW S hq hz
 have t2:valA (tab (ps++[.leaf x])) (.tup [.str "leaf",.str x])=some (.int ((ps.length+1:Nat):Int)):=by
  unfold tab
  rw [zaV]
  unfold valA at t ⊢
  rw [List.find?_append]
  have t3:(ybk 1 ps).find? (λp=>decide (p.1 = .tup [.str "leaf",.str x]))=none:=by simpa [tab] using t
  rw [t3]
  simp [Pc.av,Nat.add_comm]
 have e':ybI [.ref p,.tup [.str "leaf",.str x]] h = .ok .non (yce h p (ps++[.leaf x])):=e
 simp [yaH,zgg x h hl,hx,S.ob,S.h2,t,e',S2.ob,S2.h2,t2]
theorem zhY (S:ShelfAt h p ps) (ha:(meas ps)[a]? = some ma) (hb:(meas ps)[b]? = some mb) (pa:1<=a) (pb:1<=b) (hla:(meas ps)[ma.ll]? = some la) (hfb:(meas ps)[mb.fl]? = some fb) (d1 : ¬ la.sg+fb.sg<=8) (d2 : ¬ 1<(ma.ht-mb.ht).natAbs) (d3 : ¬ 1000000000000000000<ma.sg+mb.sg) :
  ybm [.ref p,.int a,.int b] h = .ok .non h:=by
 have la_:=(List.getElem?_eq_some_iff.mp ha).1
 have lb_:=(List.getElem?_eq_some_iff.mp hb).1
 rw [zar] at la_ lb_
 have c1:=zbQ S (i:=(a:Int)) ⟨by lia,by lia⟩
 have c2:=zbQ S (i:=(b:Int)) ⟨by lia,by lia⟩
 have d1' : ¬ ((la.sg:Int)+fb.sg)<=8:=by lia
 have d2' : ¬ (1:Int)<(if ma.ht-mb.ht<0 then -(ma.ht-mb.ht) else ma.ht-mb.ht):=by split<;>lia
 have d3' : ¬ (1000000000000000000:Int)<(ma.sg:Int)+mb.sg:=by lia
 simp [ybm,c1,c2,S.ob,S.h3,S.h5,S.h6,S.h7,S.h8,zaD ha,zaD hb,zaD hla,zaD hfb,d1',d2',d3',-Int.neg_sub]
structure ForkOk (ps:List Pc) (a b:Nat):Prop where
 pa:1<=a
 pb:1<=b
 ex:∃ ma mb la fb,(meas ps)[a]? = some ma/\(meas ps)[b]? = some mb/\(meas ps)[ma.ll]? = some la/\(meas ps)[mb.fl]? = some fb/\8<la.sg+fb.sg/\(ma.ht-mb.ht).natAbs<=1/\ma.sg+mb.sg<=1000000000000000000
theorem zcD (S:ShelfAt h p ps) (F:ForkOk ps a b):ybm [.ref p,.int a,.int b] h = .ok .non h:=by
 obtain ⟨ma,mb,la,fb,h1,h2,h3,h4,h5,h6,h7⟩:=F.ex
 exact zhY S h1 h2 F.pa F.pb h3 h4 (by lia) (by lia) (by lia)
theorem zbS (S:ShelfAt h p ps) (nd:ps.Nodup) (F:ForkOk ps a b) (e:ps[i]? = some (.fork a b)):yah [.ref p,.int a,.int b] h = .ok (.int ((i+1:Nat):Int)) h:=by
 have t:=zcP (k:=1) nd e
 have t':valA (tab ps) (.tup [.str "fork",.int a,.int b])=some (.int ((i+1:Nat):Int)):=by rw [Nat.add_comm];exact t
 simp [yah,zcD S F,S.ob,S.h2,t']
theorem zg0 (S:ShelfAt h p ps) (F:ForkOk ps a b) (hq:Pc.fork a b∉ps) (hz:ps.length<16000000):yah [.ref p,.int a,.int b] h = .ok (.int ((ps.length+1:Nat):Int)) (yce h p (ps++[.fork a b])):=by
 have t:valA (tab ps) (.tup [.str "fork",.int a,.int b])=none:=zbO (q:=.fork a b) (k:=1) hq
 have S2:=zbP (ps' := ps++[.fork a b]) S
 obtain ⟨ma,mb,la,fb,h1,h2,_⟩:=F.ex
 have e:=zhX S hq hz h1 h2
 have t2:valA (tab (ps++[.fork a b])) (.tup [.str "fork",.int a,.int b])=some (.int ((ps.length+1:Nat):Int)):=by
  unfold tab
  rw [zaV]
  unfold valA at t ⊢
  rw [List.find?_append]
  have t3:(ybk 1 ps).find? (λp=>decide (p.1 = .tup [.str "fork",.int a,.int b]))=none:=by simpa [tab] using t
  rw [t3]
  simp [Pc.av,Nat.add_comm]
 have e':ybG [.ref p,.tup [.str "fork",.int a,.int b]] h = .ok .non (yce h p (ps++[.fork a b])):=e
 simp [yah,zcD S F,S.ob,S.h2,t,e',S2.ob,S2.h2,t2]
def yfu (n:Nat):List AO:=[.ins 0 [some (.ref (n+1)),some (.ref (n+2)),some (.ref (n+3)),some (.ref (n+4)),some (.ref (n+5)),some (.ref (n+6)),some (.ref (n+7)),some (.ref (n+8))],.lst [],.dct true [],.lst [.int 0],.lst [.int 0],.lst [.int 0],.lst [.int (-1)],.lst [.int 0],.lst [.int 0]]
theorem zkc {o':AO} {r:AH}:(h++o::r).set h.length o'=h++o'::r:=by
 induction h with
 | nil=>rfl
 | cons x t ih=>simp [ih]
theorem ygo {r:AH} {k:Nat}:(h++r)[h.length+k]? = r[k]? := by
 rw [List.getElem?_append_right (by lia)];simp
theorem yh0 (h r:AH):ShelfAt (h++(yfu h.length++r)) h.length []:=by
 refine ⟨?_,?_,?_,?_,?_,?_,?_,?_,?_⟩
 ·rw [show h.length=h.length+0 from rfl,ygo];rfl
 all_goals (rw [ygo];rfl)
theorem zgj (x:Str) (c i:Nat) (hi:i<x.length):Builtin.Str.subAt x ⟨#[c]⟩ i=decide (x.cps.toList[i]? = some c):=by
 have hi':i<x.cps.size:=hi
 unfold Builtin.Str.subAt
 have e:x.cps.extract i (i+1) = #[x.cps[i]]:=by
  apply Array.ext
  ·simp;lia
  ·intro j h1 h2
   have:j=0:=by simp at h2;lia
   subst this
   simp
 show (x.cps.extract i (i+1) == #[c])=_
 rw [e]
 have:x.cps.toList[i]? = some x.cps[i]:=by simp [hi']
 rw [this]
 by_cases q:x.cps[i]=c
 ·simp [q]
 ·simp [q]
theorem ye8 (x:Str) (c:Nat):∀ (n i:Nat) (st:Array Nat×Nat),i+n=x.length+1->st.2<=i->st.1.size<=i->(forIn (List.range' i n) st (StrLaws.occBody x ⟨#[c]⟩ x.length (x.length+1))).run.fst.size=st.1.size+(x.cps.toList.drop i).count c
 | 0,i,st,hn,_,_=>by
  rw [List.drop_of_length_le (by simp;simp only [Str.length] at hn;lia)]
  simp
 | n+1,i,st,hn,h2,h3=>by
  rw [List.range'_succ,List.forIn_cons]
  unfold StrLaws.occBody
  by_cases hi:i<x.length
  ·have hi':i<x.cps.size:=hi
   have hd:x.cps.toList.drop i=x.cps[i]'hi'::x.cps.toList.drop (i+1):=by
    rw [List.drop_eq_getElem_cons (show i<x.cps.toList.length by simpa using hi')];simp
   have hg:x.cps.toList[i]? = some (x.cps[i]'hi'):=by
    simp [hi']
   by_cases q:x.cps[i]'hi'=c
   ·have hs:Builtin.Str.subAt x ⟨#[c]⟩ i=true:=by rw [zgj x c i hi,hg,q];simp
    rw [if_pos ⟨⟨⟨by lia,h2⟩,hi⟩,hs⟩]
    show (forIn (List.range' (i+1) n) (st.1.push i,i+1) (StrLaws.occBody x ⟨#[c]⟩ x.length (x.length+1))).run.fst.size=_
    rw [ye8 x c n (i+1) _ (by lia) (Nat.le_refl _) (by simp;lia),hd,q]
    simp;lia
   ·have hs:Builtin.Str.subAt x ⟨#[c]⟩ i=false:=by rw [zgj x c i hi,hg];simp [q]
    rw [if_neg (by simp [hs])]
    show (forIn (List.range' (i+1) n) (st.1,st.2) (StrLaws.occBody x ⟨#[c]⟩ x.length (x.length+1))).run.fst.size=_
    rw [ye8 x c n (i+1) _ (by lia) (by show st.2<=i+1;lia) (by show st.1.size<=i+1;lia),hd]
    simp [q]
  ·rw [if_neg (by rintro ⟨⟨_,z⟩,_⟩;exact hi z)]
   show (forIn (List.range' (i+1) n) (st.1,st.2) (StrLaws.occBody x ⟨#[c]⟩ x.length (x.length+1))).run.fst.size=_
   rw [ye8 x c n (i+1) _ (by lia) (by show st.2<=i+1;lia) (by show st.1.size<=i+1;lia)]
   rw [List.drop_of_length_le (by simp;simp only [Str.length] at hi;lia),List.drop_of_length_le (by simp;simp only [Str.length] at hi;lia)]
theorem zhZ (x:Str) (c:Nat):(Builtin.Str.occurrences x ⟨#[c]⟩ 0 x.length (x.length+1)).length=x.cps.toList.count c:=by
 rw [StrLaws.occ_eq,Array.length_toList]
 rw [show x.length+1-0=x.length+1 from rfl,ye8 x c (x.length+1) 0 _ (by lia) (Nat.le_refl _) (by simp)]
 simp
theorem zbT (x:Str):ydu x=x.cps.toList.count 10:=zhZ x 10
theorem zae (x y:Str):(x++y).cps.toList=x.cps.toList++y.cps.toList:=by
 show (x.cps++y.cps).toList=_
 simp
theorem ziW (x y:Str):ydu (x++y)=ydu x+ydu y:=by
 rw [zbT,zbT,zbT,zae,List.count_append]
theorem zad (x:Str):x.length=x.cps.toList.length:=by simp [Str.length]
theorem zat (x y:Str):(x++y).length=x.length+y.length:=by
 rw [zad,zad,zad,zae,List.length_append]
def yel (rs:List Str):Pc->Str
 | .leaf x=>x
 | .fork a b=>rs.getD a "" ++ rs.getD b ""
def reads (ps:List Pc):List Str:=ps.foldl (λrs q=>rs++[yel rs q]) [""]
theorem zg1 (ps:List Pc) (q:Pc):reads (ps++[q])=reads ps++[yel (reads ps) q]:=by simp [reads]
theorem zbj {α β:Type} (g:List β->α->β):∀ (qs:List α) (ms:List β),∃ r,qs.foldl (λms q=>ms++[g ms q]) ms=ms++r/\r.length=qs.length
 | [],ms=>⟨[],by simp,rfl⟩
 | q::qs,ms=>by
  obtain ⟨r,e,l⟩:=zbj g qs (ms++[g ms q])
  exact ⟨g ms q::r,by rw [List.foldl_cons,e];simp,by simp [l]⟩
theorem zbr (ps:List Pc):(reads ps).length=ps.length+1:=by
 obtain ⟨r,e,l⟩:=zbj yel ps [""]
 rw [reads,e];simp [l,Nat.add_comm]
theorem ziX (ps qs:List Pc):∃ r,meas (ps++qs)=meas ps++r:=by
 unfold meas
 rw [List.foldl_append]
 obtain ⟨r,e,_⟩:=zbj ycT qs (ps.foldl (λms q=>ms++[ycT ms q]) [ms0])
 exact ⟨r,e⟩
theorem zh0 (ps qs:List Pc):∃ r,reads (ps++qs)=reads ps++r:=by
 unfold reads
 rw [List.foldl_append]
 obtain ⟨r,e,_⟩:=zbj yel qs (ps.foldl (λms q=>ms++[yel ms q]) [""])
 exact ⟨r,e⟩
theorem zac (h:ps <+: ps') {m:Ms} (e:(meas ps)[n]? = some m):(meas ps')[n]? = some m:=by
 obtain ⟨qs,rfl⟩:=h
 obtain ⟨r,q⟩:=ziX ps qs
 rw [q,List.getElem?_append_left (List.getElem?_eq_some_iff.mp e).1];exact e
theorem zbs (h:ps <+: ps') {m:Str} (e:(reads ps)[n]? = some m):(reads ps')[n]? = some m:=by
 obtain ⟨qs,rfl⟩:=h
 obtain ⟨r,q⟩:=zh0 ps qs
 rw [q,List.getElem?_append_left (List.getElem?_eq_some_iff.mp e).1];exact e
theorem zbU (ps:List Pc) (i:Nat):ps.take i <+: ps:=List.take_prefix i ps
theorem zcQ {q:Pc} (e:ps[i]? = some q):(ps.take i++[q]) <+: ps/\(ps.take i).length=i:=by
 have hi:=(List.getElem?_eq_some_iff.mp e).1
 have:ps.take (i+1)=ps.take i++[q]:=by
  rw [List.take_succ,e];rfl
 exact ⟨this▸List.take_prefix _ _,by simp;lia⟩
theorem zgk {q:Pc} (e:ps[i]? = some q):(meas ps)[i+1]? = some (ycT (meas (ps.take i)) q):=by
 obtain ⟨h,l⟩:=zcQ e
 refine zac h ?_
 rw [zb8,List.getElem?_append_right (by rw [zar,l];lia),zar,l]
 simp
theorem zeT {q:Pc} (e:ps[i]? = some q):(reads ps)[i+1]? = some (yel (reads (ps.take i)) q):=by
 obtain ⟨h,l⟩:=zcQ e
 refine zbs h ?_
 rw [zg1,List.getElem?_append_right (by rw [zbr,l];lia),zbr,l]
 simp
def PcOk (ps:List Pc):Pc->Prop
 | .leaf x=>yby x=true
 | .fork a b=>ForkOk ps a b
inductive Good:List Pc->Prop
 | nil:Good []
 | snoc {ps:List Pc} {q:Pc}:Good ps->q∉ps->PcOk ps q->Good (ps++[q])
theorem Good.nodup (g:Good ps):ps.Nodup:=by
 induction g with
 | nil=>exact List.nodup_nil
 | snoc g n ok ih=>exact List.nodup_append.mpr ⟨ih,by simp,λa ha b hb=>by simp at hb;subst hb;exact λe=>n (e▸ha)⟩
theorem Good.get (g:Good ps):∀ {i:Nat} {q:Pc},ps[i]? = some q->PcOk (ps.take i) q:=by
 induction g with
 | nil=>intro i q e;simp at e
 | @snoc ps q' g n ok ih =>
  intro i q e
  by_cases hi:i<ps.length
  ·rw [List.getElem?_append_left hi] at e
   rw [List.take_append_of_le_length (by lia)]
   exact ih e
  ·have hi2:i=ps.length:=by
    have:=(List.getElem?_eq_some_iff.mp e).1
    simp at this;lia
   subst hi2
   simp at e
   subst e
   simpa using ok
theorem ForkOk.pre (F:ForkOk ps a b) (h:ps <+: ps'):ForkOk ps' a b:=by
 obtain ⟨ma,mb,la,fb,h1,h2,h3,h4,h5⟩:=F.ex
 exact ⟨F.pa,F.pb,ma,mb,la,fb,zac h h1,zac h h2,zac h h3,zac h h4,h5⟩
structure Ky (ps:List Pc) (m:Ms) (x:Str) (f l:Ms):Prop where
 fl:(meas ps)[m.fl]? = some f
 ll:(meas ps)[m.ll]? = some l
 sg:m.sg=x.length
 en:m.en=ydu x
 f1:1<=f.sg
 f8:f.sg<=8
 l1:1<=l.sg
 l8:l.sg<=8
 lv:1<=m.lv
 ht:0<=m.ht
 most:m.sg<=1000000000000000000
 cnt:∃ k,(m.lv=2*k+1/\9*k+f.sg<=m.sg/\9*k+l.sg<=m.sg)\/(m.lv=2*k+2/\9*k+9<=m.sg/\9*k+f.sg+l.sg<=m.sg)
 pl:yaK x=true
structure Tx (ps:List Pc) (n:Nat) (m:Ms) (x:Str) (f l:Ms):Prop where
 n1:1<=n
 ms:(meas ps)[n]? = some m
 rd:(reads ps)[n]? = some x
 ky:Ky ps m x f l
theorem Ky.pre {m:Ms} (k:Ky ps m x f l) (h:ps <+: ps'):Ky ps' m x f l :=
 { k with fl:=zac h k.fl,ll:=zac h k.ll }
theorem Tx.pre {ps ps':List Pc} {n:Nat} {m:Ms} {x:Str} {f l:Ms} (k:Tx ps n m x f l) (h:ps <+: ps'):Tx ps' n m x f l :=
 ⟨k.n1,zac h k.ms,zbs h k.rd,k.ky.pre h⟩
theorem Tx.le {m:Ms} (k:Tx ps n m x f l):n<=ps.length:=by
 have:=(List.getElem?_eq_some_iff.mp k.ms).1
 rw [zar] at this;lia
def ydJ (ma mb:Ms):Ms:=⟨ma.sg+mb.sg,ma.en+mb.en,ma.lv+mb.lv,max ma.ht mb.ht+1,ma.fl,mb.ll⟩
theorem za5 (x y:Str):yaK (x++y)=(yaK x && yaK y):=by unfold yaK;rw [zae,List.all_append]
theorem kf1 {n' s' f l f' l':Nat} (a:∃ k,(n=2*k+1/\9*k+f<=s/\9*k+l<=s)\/(n=2*k+2/\9*k+9<=s/\9*k+f+l<=s)) (b:∃ k,(n'=2*k+1/\9*k+f'<=s'/\9*k+l'<=s')\/(n'=2*k+2/\9*k+9<=s'/\9*k+f'+l'<=s')) (hs:8<l+f') :
  ∃ k,(n+n'=2*k+1/\9*k+f<=s+s'/\9*k+l'<=s+s')\/(n+n'=2*k+2/\9*k+9<=s+s'/\9*k+f+l'<=s+s'):=by
 obtain ⟨k,⟨rfl,a1,a2⟩ | ⟨rfl,a1,a2⟩⟩:=a<;>obtain ⟨k',⟨rfl,b1,b2⟩ | ⟨rfl,b1,b2⟩⟩:=b
 ·exact ⟨k+k',.inr ⟨by lia,by lia,by lia⟩⟩
 ·exact ⟨k+k'+1,.inl ⟨by lia,by lia,by lia⟩⟩
 ·exact ⟨k+k'+1,.inl ⟨by lia,by lia,by lia⟩⟩
 ·exact ⟨k+k'+1,.inr ⟨by lia,by lia,by lia⟩⟩
theorem Ky.sg1 {m:Ms} (k:Ky ps m x f l):1<=m.sg:=by
 have f1:=k.f1
 obtain ⟨k,⟨_,a,_⟩ | ⟨_,a,_⟩⟩:=k.cnt
 ·exact Nat.le_trans f1 (Nat.le_trans (Nat.le_add_left _ _) a)
 ·exact Nat.le_trans (Nat.le_add_left 1 (9*k+8)) a
theorem Ky.fork (A:Ky ps ma x fa la) (B:Ky ps mb y fb lb) (hs:8<la.sg+fb.sg) (hm:ma.sg+mb.sg<=1000000000000000000):Ky ps (ydJ ma mb) (x++y) fa lb:=by
 have k:=kf1 A.cnt B.cnt hs
 refine ⟨A.fl,B.ll,?_,?_,A.f1,A.f8,B.l1,B.l8,Nat.le_trans A.lv (Nat.le_add_right _ _),?_,hm,k,?_⟩
 ·show ma.sg+mb.sg=_;rw [zat,A.sg,B.sg]
 ·show ma.en+mb.en=_;rw [ziW,A.en,B.en]
 ·have a4:=A.ht
  show 0<=max ma.ht mb.ht+1
  clear k hs hm;lia
 ·rw [za5,A.pl,B.pl];rfl
theorem zb9 (h:yby x=true):1<=x.length/\x.length<=8/\yaK x=true:=by
 simp [yby] at h;exact ⟨h.2.1,h.2.2,h.1⟩
theorem zaT {l:List α} {d x:α} (e:l[i]? = some x):l.getD i d=x:=by simp [List.getD,e]
def lfMs (x:Str) (n:Nat):Ms:=⟨x.length,ydu x,1,0,n,n⟩
theorem zbD (g:Good ps) (e:ps[i]? = some (.leaf x)):Tx ps (i+1) (lfMs x (i+1)) x (lfMs x (i+1)) (lfMs x (i+1)):=by
 have hi:=(List.getElem?_eq_some_iff.mp e).1
 have ok:yby x=true:=g.get e
 obtain ⟨s1,s2,s3⟩:=zb9 ok
 have li:(ps.take i).length=i:=by simp;lia
 have ml:(meas (ps.take i)).length=i+1:=by rw [zar,li]
 have e1':(meas ps)[i+1]? = some (lfMs x (i+1)):=by rw [zgk e];simp only [ycT,lfMs];rw [ml]
 exact ⟨by lia,e1',zeT e,⟨e1',e1',rfl,rfl,s1,s2,s1,s2,Nat.le_refl 1,Int.le_refl 0,by show x.length<=_;lia,⟨0,.inl ⟨rfl,Nat.le_of_eq (Nat.zero_add _),Nat.le_of_eq (Nat.zero_add _)⟩⟩,s3⟩⟩
theorem zbE (g:Good ps) (e:ps[i]? = some (.fork a b)) (A:Tx ps a ma x fa la) (B:Tx ps b mb y fb lb):Tx ps (i+1) (ydJ ma mb) (x++y) fa lb:=by
 have hi:=(List.getElem?_eq_some_iff.mp e).1
 have ok':ForkOk (ps.take i) a b:=g.get e
 have li:(ps.take i).length=i:=by simp;lia
 have tp:=zbU ps i
 obtain ⟨ma',mb',la',fb',q1,q2,q3,q4,q5,q6,q7⟩:=ok'.ex
 have ba:=(List.getElem?_eq_some_iff.mp q1).1
 have bb:=(List.getElem?_eq_some_iff.mp q2).1
 rw [zar,li] at ba bb
 have z1:=A.ms.symm.trans (zac tp q1);cases z1
 have z2:=B.ms.symm.trans (zac tp q2);cases z2
 have z3:=A.ky.ll.symm.trans (zac tp q3);cases z3
 have z4:=B.ky.fl.symm.trans (zac tp q4);cases z4
 have r1:(reads (ps.take i))[a]? = some x:=by
  obtain ⟨w,ew⟩:∃ w,(reads (ps.take i))[a]? = some w:=⟨(reads (ps.take i))[a]'(by rw [zbr,li];lia),by simp⟩
  have:=(zbs tp ew).symm.trans A.rd;cases this;exact ew
 have r2:(reads (ps.take i))[b]? = some y:=by
  obtain ⟨w,ew⟩:∃ w,(reads (ps.take i))[b]? = some w:=⟨(reads (ps.take i))[b]'(by rw [zbr,li];lia),by simp⟩
  have:=(zbs tp ew).symm.trans B.rd;cases this;exact ew
 refine ⟨by lia,?_,?_,A.ky.fork B.ky q5 q7⟩
 ·rw [zgk e];simp only [ycT,zaT q1,zaT q2];rfl
 ·rw [zeT e];simp only [yel,zaT r1,zaT r2]
theorem Good.tx (g:Good ps):∀ n,1<=n->n<=ps.length->∃ m x f l,Tx ps n m x f l:=by
 intro n
 induction n using Nat.strongRecOn with
 | ind n ih =>
  intro h1 h2
  obtain ⟨i,rfl⟩:∃ i,n=i+1:=⟨n-1,(Nat.sub_add_cancel h1).symm⟩
  obtain ⟨q,eq⟩:∃ q,ps[i]? = some q:=⟨ps[i],by simp⟩
  have ok:=g.get eq
  have li:(ps.take i).length=i:=(zcQ eq).2
  cases q with
  | leaf x=>exact ⟨_,_,_,_,zbD g eq⟩
  | fork a b =>
   have ok':ForkOk (ps.take i) a b:=ok
   obtain ⟨ma,mb,la,fb,q1,q2,_⟩:=ok'.ex
   have ba:=(List.getElem?_eq_some_iff.mp q1).1
   have bb:=(List.getElem?_eq_some_iff.mp q2).1
   rw [zar,li] at ba bb
   obtain ⟨_,_,_,_,A⟩:=ih a ba ok'.pa (Nat.le_trans (Nat.le_of_lt ba) h2)
   obtain ⟨_,_,_,_,B⟩:=ih b bb ok'.pb (Nat.le_trans (Nat.le_of_lt bb) h2)
   exact ⟨_,_,_,_,zbE g eq A B⟩
structure Dd (p:Nat) (h h':AH) (ps ps':List Pc) (k:Nat):Prop where
 sh:ShelfAt h' p ps'
 gd:Good ps'
 pre:ps <+: ps'
 len:ps'.length<=ps.length+k
 fr:∀ i,i<=p\/p+8<i->h'[i]? = h[i]?
 hl:h'.length=h.length
theorem ShelfAt.keep (S:ShelfAt h p ps) (e:∀ i,p<=i->i<=p+8->h'[i]? = h[i]?):ShelfAt h' p ps:=by
 have k:∀ j,j<=8->h'[p+j]? = h[p+j]? := λj hj=>e _ (Nat.le_add_right p j) (Nat.add_le_add_left hj p)
 exact ⟨(k 0 (by decide)).trans S.ob,(k 1 (by decide)).trans S.h1,(k 2 (by decide)).trans S.h2,(k 3 (by decide)).trans S.h3,(k 4 (by decide)).trans S.h4,(k 5 (by decide)).trans S.h5,(k 6 (by decide)).trans S.h6,(k 7 (by decide)).trans S.h7,(k 8 (by decide)).trans S.h8⟩
theorem ShelfAt.app (S:ShelfAt h p ps) (r:AH):ShelfAt (h++r) p ps:=by
 have:=yaW S.h8
 exact S.keep λi _ b=>List.getElem?_append_left (Nat.lt_of_le_of_lt b this)
theorem zbV (S:ShelfAt h p ps) (hi:i<=ps.length):ya0 [.ref p,.int i] h = .ok .non h:=by
 by_cases z:i=0
 ·subst z;simp [ya0]
 ·have c:=zbQ S (i:=(i:Int)) ⟨by lia,by lia⟩
  simp [ya0,z,S.ob,c]
theorem zah {m:Ms} (S:ShelfAt h p ps) (e:(meas ps)[i]? = some m):yay [.ref p,.int i] h = .ok (.int m.sg) h:=by
 have hi:=(List.getElem?_eq_some_iff.mp e).1
 rw [zar] at hi
 simp [yay,zbV S (show i<=ps.length by lia),S.ob,S.h3,zaD e]
theorem zai {m:Ms} (S:ShelfAt h p ps) (e:(meas ps)[i]? = some m):yaP [.ref p,.int i] h = .ok (.int m.ht) h:=by
 have hi:=(List.getElem?_eq_some_iff.mp e).1
 rw [zar] at hi
 simp [yaP,zbV S (show i<=ps.length by lia),S.ob,S.h6,zaD e]
theorem zgl {m:Ms} (S:ShelfAt h p ps) (e:(meas ps)[i]? = some m):ybn [.ref p,.int i] h = .ok (.int m.fl) h:=by
 have hi:=(List.getElem?_eq_some_iff.mp e).1
 rw [zar] at hi
 simp [ybn,zbV S (show i<=ps.length by lia),S.ob,S.h7,zaD e]
theorem ygp {m:Ms} (S:ShelfAt h p ps) (e:(meas ps)[i]? = some m):ybw [.ref p,.int i] h = .ok (.int m.ll) h:=by
 have hi:=(List.getElem?_eq_some_iff.mp e).1
 rw [zar] at hi
 simp [ybw,zbV S (show i<=ps.length by lia),S.ob,S.h8,zaD e]
def lp:Nat->Nat×Nat
 | 0=>(1,2)
 | n+1=>((lp n).2,(lp n).1+(lp n).2)
def ll (n:Nat):Nat:=(lp n).1
def ls (n:Nat):Nat:=9*(ll n / 2)+ll n % 2
theorem ll_2 (n:Nat):ll (n+2)=ll n+ll (n+1):=rfl
theorem zeU:∀ n,ll n<=ll (n+1)
 | 0=>by decide
 | n+1=>by rw [show n+1+1=n+2 from rfl,ll_2];lia
theorem zkd (h:a<=b):ll a<=ll b:=by
 induction h with
 | refl=>exact Nat.le_refl _
 | step h ih=>exact Nat.le_trans ih (zeU _)
theorem zgm (h:a<=b):ls a<=ls b:=by
 have:=zkd h
 unfold ls;lia
theorem yh1 (h1:i<=j+1) (h2:j<=i+1) (u1:ll i<=a) (u2:ll j<=b):ll (max i j+1)<=a+b:=by
 rcases Nat.lt_trichotomy i j with c | c | c
 ·have e':j=i+1:=Nat.le_antisymm h2 c
  subst e'
  rw [Nat.max_eq_right (Nat.le_succ i),ll_2];exact Nat.add_le_add u1 u2
 ·subst c
  rw [Nat.max_self]
  refine Nat.le_trans ?_ (Nat.add_le_add u1 u2)
  cases i with
  | zero=>exact Nat.le_refl 2
  | succ k=>rw [show k+1+1=k+2 from rfl,ll_2];exact Nat.add_le_add_right (zeU k) _
 ·have e':i=j+1:=Nat.le_antisymm h1 c
  subst e'
  rw [Nat.max_eq_left (Nat.le_succ j),ll_2,Nat.add_comm];exact Nat.add_le_add u1 u2
theorem yh2 {x y:Int} (hx:0<=x) (hy:0<=y) (q:(x-y).natAbs<=1) (u1:ll x.toNat<=a) (u2:ll y.toNat<=b):ll (max x y+1).toNat<=a+b:=by
 obtain ⟨i,rfl⟩:=Int.eq_ofNat_of_zero_le hx
 obtain ⟨j,rfl⟩:=Int.eq_ofNat_of_zero_le hy
 have e:(max (i:Int) j+1).toNat=max i j+1:=by clear u1 u2 q;lia
 rw [e]
 exact yh1 (by clear u1 u2 e;lia) (by clear u1 u2 e;lia) u1 u2
theorem Good.lv {ps:List Pc} (g:Good ps):∀ n m x f l,Tx ps n m x f l->ll m.ht.toNat<=m.lv:=by
 intro n
 induction n using Nat.strongRecOn with
 | ind n ih =>
  intro m x f l T
  have hn:=T.n1
  have hle:=T.le
  obtain ⟨i,rfl⟩:∃ i,n=i+1:=⟨n-1,by lia⟩
  obtain ⟨q,eq⟩:∃ q,ps[i]? = some q:=⟨ps[i],by simp⟩
  cases q with
  | leaf y =>
   have z:=(zbD g eq).ms.symm.trans T.ms;cases z
   exact Nat.le_refl 1
  | fork a b =>
   have ok':ForkOk (ps.take i) a b:=g.get eq
   have li:(ps.take i).length=i:=by simp;lia
   obtain ⟨ma,mb,la,fb,q1,q2,q3,q4,q5,q6,q7⟩:=ok'.ex
   have ba:=(List.getElem?_eq_some_iff.mp q1).1
   have bb:=(List.getElem?_eq_some_iff.mp q2).1
   rw [zar,li] at ba bb
   obtain ⟨ma',x1,fa,la',A⟩:=g.tx a ok'.pa (by lia)
   obtain ⟨mb',y1,fb',lb,B⟩:=g.tx b ok'.pb (by lia)
   have tp:=zbU ps i
   have z1:=A.ms.symm.trans (zac tp q1);cases z1
   have z2:=B.ms.symm.trans (zac tp q2);cases z2
   have u1:=ih a (by lia) _ _ _ _ A
   have u2:=ih b (by lia) _ _ _ _ B
   have z:=(zbE g eq A B).ms.symm.trans T.ms;cases z
   exact yh2 A.ky.ht B.ky.ht q6 u1 u2
theorem Tx.ls {ps:List Pc} (g:Good ps) {n:Nat} {m:Ms} {x:Str} {f l:Ms} (T:Tx ps n m x f l):Sk.ls m.ht.toNat<=m.sg:=by
 have u:=g.lv _ _ _ _ _ T
 have f1:=T.ky.f1
 unfold Sk.ls
 obtain ⟨k,⟨e,a,_⟩ | ⟨e,a,_⟩⟩:=T.ky.cnt
 ·rw [e] at u;generalize ll m.ht.toNat=q at *;clear e;lia
 ·rw [e] at u;generalize ll m.ht.toNat=q at *;clear e;lia
theorem yi3:1000000000000000000<ls 101:=by decide +kernel
theorem ziY (g:Good ps) {m:Ms} (T:Tx ps n m x f l):m.ht.toNat<=200:=by
 refine Nat.le_of_not_lt λz=>?_
 have a:=T.ls g
 have b:=zgm (show 101<=m.ht.toNat by lia)
 have c:=yi3
 have d:=T.ky.most
 lia
theorem Good.kind (g:Good ps) {m:Ms} (T:Tx ps n m x f l) :
  (ps[n-1]? = some (.leaf x)/\m.ht=0/\m=lfMs x n/\1<=x.length/\x.length<=8)\/∃ a b ma mb y z fa la fb lb,ps[n-1]? = some (.fork a b)/\a<n/\b<n/\Tx ps a ma y fa la/\Tx ps b mb z fb lb/\x=y++z/\m=ydJ ma mb/\(ma.ht-mb.ht).natAbs<=1:=by
 have hn:=T.n1
 have hle:=T.le
 obtain ⟨i,rfl⟩:∃ i,n=i+1:=⟨n-1,by lia⟩
 obtain ⟨q,eq⟩:∃ q,ps[i]? = some q:=⟨ps[i],by simp⟩
 cases q with
 | leaf y =>
  have L:=zbD g eq
  have z:=L.ms.symm.trans T.ms;cases z
  have z2:=L.rd.symm.trans T.rd;cases z2
  have ok:yby x=true:=g.get eq
  obtain ⟨s1,s2,s3⟩:=zb9 ok
  exact .inl ⟨eq,rfl,rfl,s1,s2⟩
 | fork a b =>
  have ok':ForkOk (ps.take i) a b:=g.get eq
  have li:(ps.take i).length=i:=by simp;lia
  obtain ⟨ma,mb,la,fb,q1,q2,q3,q4,q5,q6,q7⟩:=ok'.ex
  have ba:=(List.getElem?_eq_some_iff.mp q1).1
  have bb:=(List.getElem?_eq_some_iff.mp q2).1
  rw [zar,li] at ba bb
  obtain ⟨ma',y,fa,la',A⟩:=g.tx a ok'.pa (by lia)
  obtain ⟨mb',z,fb',lb,B⟩:=g.tx b ok'.pb (by lia)
  have tp:=zbU ps i
  have z1:=A.ms.symm.trans (zac tp q1);cases z1
  have z2:=B.ms.symm.trans (zac tp q2);cases z2
  have F:=zbE g eq A B
  have z3:=F.ms.symm.trans T.ms;cases z3
  have z4:=F.rd.symm.trans T.rd;cases z4
  exact .inr ⟨a,b,ma,mb,y,z,fa,la',fb',lb,eq,by lia,by lia,A,B,rfl,rfl,q6⟩
theorem zbW {q:Pc} (S:ShelfAt h p ps) (n1:1<=n) (e:ps[n-1]? = some q):yaD [.ref p,.int n] h = .ok q.av h:=by
 have:=zkb S e
 rw [show ((n-1:Nat):Int)+1=(n:Int) by lia] at this
 exact this
theorem hs1 {m a b:Int} (e:m=max a b+1) (ha:0<=a) (hb:0<=b):∃ j:Nat,m.toNat=j+1/\a.toNat<=j/\b.toNat<=j/\0<m:=by
 obtain ⟨x,rfl⟩:=Int.eq_ofNat_of_zero_le ha
 obtain ⟨y,rfl⟩:=Int.eq_ofNat_of_zero_le hb
 subst e
 exact ⟨max x y,by lia,Nat.le_max_left _ _,Nat.le_max_right _ _,by lia⟩
theorem zaf (e:x.cps.toList=y.cps.toList):x=y:=by
 cases x;cases y
 simpa using e
theorem zao (x y z:Str):(x++y)++z=x++(y++z):=zaf (by simp only [zae,List.append_assoc])
theorem ls83:1000000000000000000<ls 83:=by decide +kernel
theorem ht82 (g:Good ps) {m:Ms} (T:Tx ps n m x f l):m.ht<=82:=by
 have h1:=T.ls g
 have h2:=T.ky.most
 have h3:=T.ky.ht
 apply Classical.byContradiction
 intro h4
 have:=zgm (show 83<=m.ht.toNat by lia)
 have:=ls83
 lia
theorem Good.cut (g:Good ps) {m:Ms} (T:Tx ps n m x f l) (hh:0<m.ht) :
  ∃ a b ma mb y z la fb,ps[n-1]? = some (.fork a b)/\Tx ps a ma y f la/\Tx ps b mb z fb l/\x=y++z/\m=ydJ ma mb /\ -1<=ma.ht-mb.ht/\ma.ht-mb.ht<=1/\8<la.sg+fb.sg:=by
 rcases g.kind T with ⟨_,e,_⟩ | ⟨a,b,ma,mb,y,z,fa,la,fb,lb,e1,e2,e3,A,B,e4,e5,e6⟩
 ·lia
 ·have ok:ForkOk (ps.take (n-1)) a b:=g.get e1
  obtain ⟨ma',mb',la',fb',q1,q2,q3,q4,q5,_⟩:=(ok.pre (zbU ps _)).ex
  have z1:=A.ms.symm.trans q1;cases z1
  have z2:=B.ms.symm.trans q2;cases z2
  have z3:=A.ky.ll.symm.trans q3;cases z3
  have z4:=B.ky.fl.symm.trans q4;cases z4
  have f1:=T.ky.fl
  have l1:=T.ky.ll
  rw [e5] at f1 l1
  have z5:=f1.symm.trans A.ky.fl;cases z5
  have z6:=l1.symm.trans B.ky.ll;cases z6
  exact ⟨a,b,ma,mb,y,z,la,fb,e1,A,B,e4,e5,by lia,by lia,q5⟩
structure Dn (F:AH->Out AV) (p:Nat) (h h':AH) (ps ps':List Pc) (k n:Nat):Prop where
 ev:F h = .ok (.int n) h'
 dd:Dd p h h' ps ps' k
 re:∀ h2 ps2,ShelfAt h2 p ps2->Good ps2->ps' <+: ps2->F h2 = .ok (.int n) h2
theorem Dd.trans {p:Nat} {h h' h'':AH} {ps ps' ps'':List Pc} {k k' k2:Nat} (a:Dd p h h' ps ps' k) (b:Dd p h' h'' ps' ps'' k') (hk:k+k'<=k2):Dd p h h'' ps ps'' k2 :=
 ⟨b.sh,b.gd,a.pre.trans b.pre,by have:=a.len;have:=b.len;lia,λi hi=>(b.fr i hi).trans (a.fr i hi),b.hl.trans a.hl⟩
theorem Dd.refl (S:ShelfAt h p ps) (g:Good ps):Dd p h h ps ps 0:=⟨S,g,List.prefix_refl _,by lia,λ_ _=>rfl,rfl⟩
variable {F:AH->Out AV}
theorem Dn.seq {F1:AH->Out AV} {F2:AV->AH->Out AV} {ps2:List Pc} {k n2:Nat} (S:ShelfAt h p ps) (g:Good ps) (d1:Dn F1 p h h1 ps ps1 k1 n1) (d2:Dn (F2 (.int n1)) p h1 h2 ps1 ps2 k2 n2) (eq:∀ hh pp,ShelfAt hh p pp->Good pp->ps <+: pp->F hh=(F1 hh).bind F2) (hk:k1+k2<=k):Dn F p h h2 ps ps2 k n2:=by
 refine ⟨?_,d1.dd.trans d2.dd hk,λh3 ps3 S3 g3 p3=>?_⟩
 ·rw [eq h ps S g (List.prefix_refl _),d1.ev];exact d2.ev
 ·rw [eq h3 ps3 S3 g3 (d1.dd.pre.trans (d2.dd.pre.trans p3)),d1.re h3 ps3 S3 g3 (d2.dd.pre.trans p3)]
  exact d2.re h3 ps3 S3 g3 p3
theorem Dn.as {F1:AH->Out AV} {k:Nat} (S:ShelfAt h p ps) (g:Good ps) (d1:Dn F1 p h h1 ps ps1 k1 n1) (eq:∀ hh pp,ShelfAt hh p pp->Good pp->ps <+: pp->F hh=F1 hh) (hk:k1<=k):Dn F p h h1 ps ps1 k n1:=by
 refine ⟨?_,{ d1.dd with len:=Nat.le_trans d1.dd.len (Nat.add_le_add_left hk _) },λh3 ps3 S3 g3 p3=>?_⟩
 ·rw [eq h ps S g (List.prefix_refl _)];exact d1.ev
 ·rw [eq h3 ps3 S3 g3 (d1.dd.pre.trans p3)];exact d1.re h3 ps3 S3 g3 p3
theorem Dn.val (S:ShelfAt h p ps) (g:Good ps) (eq:∀ hh pp,ShelfAt hh p pp->Good pp->ps <+: pp->F hh = .ok (.int n) hh):Dn F p h h ps ps 0 n :=
 ⟨eq h ps S g (List.prefix_refl _),Dd.refl S g,λh3 ps3 S3 g3 p3=>eq h3 ps3 S3 g3 p3⟩
theorem yaZ (h:ps <+: ps') {q:Pc} (e:ps[i]? = some q):ps'[i]? = some q:=by
 obtain ⟨r,rfl⟩:=h
 rw [List.getElem?_append_left (List.getElem?_eq_some_iff.mp e).1];exact e
theorem zcm (S:ShelfAt h p ps) (g:Good ps) (hx:yby x=true) (hz:ps.length<16000000) :
  ∃ (n:Nat) (ps':List Pc) (h':AH),Dn (yaH [.ref p,.str x]) p h h' ps ps' 1 n/\Tx ps' n (lfMs x n) x (lfMs x n) (lfMs x n):=by
 obtain ⟨s1,s2,s3⟩:=zb9 hx
 have hs:x.length<=sizeLine:=Nat.le_trans s2 (by decide)
 by_cases hq:Pc.leaf x∈ps
 ·obtain ⟨i,hi,e⟩:=List.getElem_of_mem hq
  have e':ps[i]? = some (.leaf x):=by rw [List.getElem?_eq_getElem hi,e]
  exact ⟨i+1,ps,h,⟨zbR S g.nodup hx hs e',⟨S,g,List.prefix_refl _,by lia,λ_ _=>rfl,rfl⟩,λh2 ps2 S2 g2 p2=>zbR S2 g2.nodup hx hs (yaZ p2 e')⟩,zbD g e'⟩
 ·have g':Good (ps++[.leaf x]):=.snoc g hq hx
  have e':(ps++[Pc.leaf x])[ps.length]? = some (.leaf x):=by simp
  exact ⟨ps.length+1,_,_,⟨zgZ S hx hs hq hz,⟨zbP S,g',List.prefix_append _ _,by simp,λi hi=>zeS hi,zea _ _ _⟩,λh2 ps2 S2 g2 p2=>zbR S2 g2.nodup hx hs (yaZ p2 e')⟩,zbD g' e'⟩
theorem zay (S:ShelfAt h p ps) (g:Good ps) (A:Tx ps a ma x fa la) (B:Tx ps b mb y fb lb) (hc:8<la.sg+fb.sg) (v1 : -1<=ma.ht-mb.ht) (v2:ma.ht-mb.ht<=1) (hm:ma.sg+mb.sg<=1000000000000000000) (hz:ps.length<16000000) :
  ∃ (n:Nat) (ps':List Pc) (h':AH),Dn (yah [.ref p,.int a,.int b]) p h h' ps ps' 1 n/\Tx ps' n (ydJ ma mb) (x++y) fa lb:=by
 have F:ForkOk ps a b:=⟨A.n1,B.n1,ma,mb,la,fb,A.ms,B.ms,A.ky.ll,B.ky.fl,hc,by lia,hm⟩
 by_cases hq:Pc.fork a b∈ps
 ·obtain ⟨i,hi,e⟩:=List.getElem_of_mem hq
  have e':ps[i]? = some (.fork a b):=by rw [List.getElem?_eq_getElem hi,e]
  exact ⟨i+1,ps,h,⟨zbS S g.nodup F e',⟨S,g,List.prefix_refl _,by lia,λ_ _=>rfl,rfl⟩,λh2 ps2 S2 g2 p2=>zbS S2 g2.nodup (F.pre p2) (yaZ p2 e')⟩,zbE g e' A B⟩
 ·have g':Good (ps++[.fork a b]):=.snoc g hq F
  have e':(ps++[Pc.fork a b])[ps.length]? = some (.fork a b):=by simp
  have pr:ps <+: ps++[Pc.fork a b]:=List.prefix_append _ _
  exact ⟨ps.length+1,_,_,⟨zg0 S F hq hz,⟨zbP S,g',pr,by simp,λi hi=>zeS hi,zea _ _ _⟩,λh2 ps2 S2 g2 p2=>zbS S2 g2.nodup (F.pre (pr.trans p2)) (yaZ p2 e')⟩,zbE g' e' (A.pre pr) (B.pre pr)⟩
theorem fmS (ma mb:Ms):(ydJ ma mb).sg=ma.sg+mb.sg:=rfl
theorem fmH (ma mb:Ms):(ydJ ma mb).ht=max ma.ht mb.ht+1:=rfl
theorem i1 (s:Str) (a b:Int) (h:AH):fIx (.tup [.str s,.int a,.int b]) (.int 1) h = .ok (.int a) h:=rfl
theorem i2 (s:Str) (a b:Int) (h:AH):fIx (.tup [.str s,.int a,.int b]) (.int 2) h = .ok (.int b) h:=rfl
theorem zaz (S:ShelfAt h p ps) (n1:1<=n) (e:ps[n-1]? = some (.fork a b)):yaD [.ref p,.int n] h = .ok (.tup [.str "fork",.int a,.int b]) h:=zbW S n1 e
theorem tl_1 (S:ShelfAt h p ps) (ea:(meas ps)[a]? = some ma) (eb:(meas ps)[b]? = some mb) (hd:mb.ht-ma.ht<2) :
  yaQ [.ref p,.int a,.int b] h=yah [.ref p,.int a,.int b] h:=by
 have f1:=zai S ea
 have f2:=zai S eb
 generalize hF:yah [.ref p,.int a,.int b] h=R
 simp [yaQ,S.ob,f1,f2,hd,hF]
 cases R<;>rfl
theorem tl_2 (S:ShelfAt h p ps) (b1:1<=b) (ea:(meas ps)[a]? = some ma) (eb:(meas ps)[b]? = some mb) (e:ps[b-1]? = some (.fork c d)) (ec:(meas ps)[c]? = some mc) (ed:(meas ps)[d]? = some md) (hd : ¬ mb.ht-ma.ht<2) (hh:mc.ht<=md.ht) :
  yaQ [.ref p,.int a,.int b] h=(yah [.ref p,.int a,.int c] h).bind λv h1=>yah [.ref p,v,.int d] h1:=by
 have f1:=zai S ea
 have f2:=zai S eb
 have f3:=zaz S b1 e
 have f4:=zai S ec
 have f5:=zai S ed
 generalize hF:yah [.ref p,.int a,.int c] h=R
 simp [yaQ,S.ob,f1,f2,hd,f3,i1,i2,f4,f5,hh,hF,-fIx]
 cases R with
 | ok v h1=>dsimp only;cases yah [.ref p,v,.int d] h1<;>rfl
 | ex c h1=>rfl
 | bad=>rfl
def onSh (p:Nat) (F:AH->Out AV) (h:AH):Out AV:=match h[p]? with
 | some (.ins c' _)=>if c'=0 then F h else .bad
 | _=>.bad
theorem zgn (S:ShelfAt h p ps) (F:AH->Out AV):onSh p F h=F h:=by simp [onSh,S.ob]
theorem tl_3 (S:ShelfAt h p ps) (b1:1<=b) (c1:1<=c) (ea:(meas ps)[a]? = some ma) (eb:(meas ps)[b]? = some mb) (e:ps[b-1]? = some (.fork c d)) (ec:(meas ps)[c]? = some mc) (ed:(meas ps)[d]? = some md) (e2:ps[c-1]? = some (.fork i j)) (hd : ¬ mb.ht-ma.ht<2) (hh : ¬ mc.ht<=md.ht) :
  yaQ [.ref p,.int a,.int b] h=(yah [.ref p,.int a,.int i] h).bind λv h1=>(onSh p (yah [.ref p,.int j,.int d]) h1).bind λw h2=>yah [.ref p,v,w] h2:=by
 have f1:=zai S ea
 have f2:=zai S eb
 have f3:=zaz S b1 e
 have f4:=zai S ec
 have f5:=zai S ed
 have f6:=zaz S c1 e2
 generalize hF:yah [.ref p,.int a,.int i] h=R
 simp [yaQ,S.ob,f1,f2,hd,f3,i1,i2,f4,f5,hh,f6,hF,-fIx]
 cases R with
 | ok v h1 =>
  unfold onSh
  dsimp only
  cases hx:h1[p]? with
  | none=>rfl
  | some o =>
   cases o with
   | lst l=>rfl
   | dct q l=>rfl
   | dcx l=>rfl
   | ins c' l =>
    dsimp only
    by_cases z:c'=0
    ·rw [if_pos z]
     cases yah [.ref p,.int j,.int d] h1 with
     | ok w h2=>dsimp only;cases yah [.ref p,v,w] h2<;>rfl
     | ex c h2=>rfl
     | bad=>rfl
    ·rw [if_neg z]
 | ex c h1=>rfl
 | bad=>rfl
theorem tlh1 {a b m:Int} (h1 : -1<=b-a) (h2:b-a<2) (e:m=max a b+1):max a b<=m/\m<=max a b+1/\(b-a<=1->m=max a b+1):=by lia
theorem lA8 {a b c d i j:Int} (ht:b=max c d+1) (ht2:c=max i j+1) (w1 : -1<=c-d) (w2:c-d<=1) (v2:b-a<=2) (q : ¬ b-a<2) (r : ¬ c<=d):max a b<=max (max a i+1) (max j d+1)+1/\max (max a i+1) (max j d+1)+1<=max a b+1/\(b-a<=1->max (max a i+1) (max j d+1)+1=max a b+1):=by
 have hi:=Int.le_max_left i j
 have hj:=Int.le_max_right i j
 generalize max i j=k at *
 rw [Int.max_eq_left (show d<=c by lia)] at ht
 rw [Int.max_eq_left (show i<=a by lia),Int.max_eq_right (show j<=d by lia),Int.max_eq_right (show a<=b by lia),Int.max_eq_left (show d+1<=a+1 by lia)]
 lia
theorem lB8 {a b c d i j:Int} (ht:a=max c d+1) (ht2:d=max i j+1) (w1 : -1<=c-d) (w2:c-d<=1) (v2:a-b<=2) (q : ¬ a-b<2) (r : ¬ d<=c):max a b<=max (max c i+1) (max j b+1)+1/\max (max c i+1) (max j b+1)+1<=max a b+1/\(a-b<=1->max (max c i+1) (max j b+1)+1=max a b+1):=by
 have hi:=Int.le_max_left i j
 have hj:=Int.le_max_right i j
 generalize max i j=k at *
 rw [Int.max_eq_right (show c<=d by lia)] at ht
 rw [Int.max_eq_left (show i<=c by lia),Int.max_eq_right (show j<=b by lia),Int.max_eq_left (show b<=a by lia),Int.max_eq_left (show b+1<=c+1 by lia)]
 lia
theorem zgo (S:ShelfAt h p ps) (g:Good ps) (A:Tx ps a ma x fa la) (B:Tx ps b mb y fb lb) (hc:8<la.sg+fb.sg) (v1 : -1<=mb.ht-ma.ht) (v2:mb.ht-ma.ht<=2) (hm:ma.sg+mb.sg<=1000000000000000000) (hz:ps.length+3<16000000) :
  ∃ (n:Nat) (ps':List Pc) (h':AH) (m:Ms),Dn (yaQ [.ref p,.int a,.int b]) p h h' ps ps' 3 n/\Tx ps' n m (x++y) fa lb/\max ma.ht mb.ht<=m.ht/\m.ht<=max ma.ht mb.ht+1/\(mb.ht-ma.ht<=1->m.ht=max ma.ht mb.ht+1):=by
 by_cases q:mb.ht-ma.ht<2
 ·obtain ⟨n,ps',h',d,T⟩:=zay S g A B hc (by lia) (by lia) hm (by lia)
  exact ⟨n,ps',h',_,d.as S g (λhh pp S' _ pr=>tl_1 S' (zac pr A.ms) (zac pr B.ms) q) (by lia),T,tlh1 v1 q (fmH ma mb)⟩
 ·obtain ⟨c,d,mc,md,y1,y2,lc,fd,e,C,D,rfl,em,w1,w2,w3⟩:=g.cut B (by have:=A.ky.ht;lia)
  have sg:=congrArg Ms.sg em
  have ht:=congrArg Ms.ht em
  rw [fmS] at sg
  rw [fmH] at ht
  by_cases r:mc.ht<=md.ht
  ·obtain ⟨n1,ps1,h1,d1,T1⟩:=zay S g A C hc (by lia) (by lia) (by lia) (by lia)
   obtain ⟨n2,ps2,h2,d2,T2⟩:=zay d1.dd.sh d1.dd.gd T1 (D.pre d1.dd.pre) w3 (by rw [fmH];lia) (by rw [fmH];lia) (by rw [fmS];lia) (by have:=d1.dd.len;lia)
   rw [zao] at T2
   refine ⟨n2,ps2,h2,_,Dn.seq S g d1 d2 (λhh pp S' _ pr=>tl_2 S' B.n1 (zac pr A.ms) (zac pr B.ms) (yaZ pr e) (zac pr C.ms) (zac pr D.ms) q r) (by lia),T2,?_⟩
   rw [fmH,fmH];lia
  ·obtain ⟨i,j,mi,mj,z1,z2,li,fj,e2,I,J,rfl,em2,u1,u2,u3⟩:=g.cut C (by have:=D.ky.ht;lia)
   have sg2:=congrArg Ms.sg em2
   have ht2:=congrArg Ms.ht em2
   rw [fmS] at sg2
   rw [fmH] at ht2
   obtain ⟨n1,ps1,h1,d1,T1⟩:=zay S g A I hc (by lia) (by lia) (by lia) (by lia)
   obtain ⟨n2,ps2,h2,d2,T2⟩:=zay d1.dd.sh d1.dd.gd (J.pre d1.dd.pre) (D.pre d1.dd.pre) w3 (by lia) (by lia) (by lia) (by have:=d1.dd.len;lia)
   obtain ⟨n3,ps3,h3,d3,T3⟩:=zay d2.dd.sh d2.dd.gd (T1.pre d2.dd.pre) T2 u3 (by rw [fmH,fmH];lia) (by rw [fmH,fmH];lia) (by rw [fmS,fmS];lia) (by have:=d1.dd.len;have:=d2.dd.len;lia)
   have d2':Dn (onSh p (yah [.ref p,.int j,.int d])) p h1 h2 ps1 ps2 1 n2:=d2.as d1.dd.sh d1.dd.gd (λhh pp S' _ _=>zgn S' _) (Nat.le_refl _)
   have d23:=Dn.seq (F:=λh1=>(onSh p (yah [.ref p,.int j,.int d]) h1).bind λw h2=>yah [.ref p,.int n1,w] h2) (F2:=λw h2=>yah [.ref p,.int n1,w] h2) d1.dd.sh d1.dd.gd d2' d3 (λ_ _ _ _ _=>rfl) (k:=2) (by lia)
   have ea:(x++z1)++(z2++y2)=x++(z1++z2++y2):=by rw [zao,zao]
   rw [ea] at T3
   refine ⟨n3,ps3,h3,_,Dn.seq (F2:=λv h1=>(onSh p (yah [.ref p,.int j,.int d]) h1).bind λw h2=>yah [.ref p,v,w] h2) S g d1 d23 (λhh pp S' _ pr=>tl_3 S' B.n1 C.n1 (zac pr A.ms) (zac pr B.ms) (yaZ pr e) (zac pr C.ms) (zac pr D.ms) (yaZ pr e2) q r) (by lia),T3,?_⟩
   rw [fmH,fmH,fmH];exact lA8 ht ht2 w1 w2 v2 q r
theorem tr_1 (S:ShelfAt h p ps) (ea:(meas ps)[a]? = some ma) (eb:(meas ps)[b]? = some mb) (hd:ma.ht-mb.ht<2) :
  yaY [.ref p,.int a,.int b] h=yah [.ref p,.int a,.int b] h:=by
 have f1:=zai S ea
 have f2:=zai S eb
 generalize hF:yah [.ref p,.int a,.int b] h=R
 simp [yaY,S.ob,f1,f2,hd,hF]
 cases R<;>rfl
theorem tr_2 (S:ShelfAt h p ps) (a1:1<=a) (ea:(meas ps)[a]? = some ma) (eb:(meas ps)[b]? = some mb) (e:ps[a-1]? = some (.fork c d)) (ec:(meas ps)[c]? = some mc) (ed:(meas ps)[d]? = some md) (hd : ¬ ma.ht-mb.ht<2) (hh:md.ht<=mc.ht) :
  yaY [.ref p,.int a,.int b] h=(yah [.ref p,.int d,.int b] h).bind λv h1=>yah [.ref p,.int c,v] h1:=by
 have f1:=zai S ea
 have f2:=zai S eb
 have f3:=zaz S a1 e
 have f4:=zai S ec
 have f5:=zai S ed
 generalize hF:yah [.ref p,.int d,.int b] h=R
 simp [yaY,S.ob,f1,f2,hd,f3,i1,i2,f4,f5,hh,hF,-fIx]
 cases R with
 | ok v h1=>dsimp only;cases yah [.ref p,.int c,v] h1<;>rfl
 | ex c h1=>rfl
 | bad=>rfl
theorem tr_3 (S:ShelfAt h p ps) (a1:1<=a) (d1:1<=d) (ea:(meas ps)[a]? = some ma) (eb:(meas ps)[b]? = some mb) (e:ps[a-1]? = some (.fork c d)) (ec:(meas ps)[c]? = some mc) (ed:(meas ps)[d]? = some md) (e2:ps[d-1]? = some (.fork i j)) (hd : ¬ ma.ht-mb.ht<2) (hh : ¬ md.ht<=mc.ht) :
  yaY [.ref p,.int a,.int b] h=(yah [.ref p,.int c,.int i] h).bind λv h1=>(onSh p (yah [.ref p,.int j,.int b]) h1).bind λw h2=>yah [.ref p,v,w] h2:=by
 have f1:=zai S ea
 have f2:=zai S eb
 have f3:=zaz S a1 e
 have f4:=zai S ec
 have f5:=zai S ed
 have f6:=zaz S d1 e2
 generalize hF:yah [.ref p,.int c,.int i] h=R
 simp [yaY,S.ob,f1,f2,hd,f3,i1,i2,f4,f5,hh,f6,hF,-fIx]
 cases R with
 | ok v h1 =>
  unfold onSh
  dsimp only
  cases hx:h1[p]? with
  | none=>rfl
  | some o =>
   cases o with
   | lst l=>rfl
   | dct q l=>rfl
   | dcx l=>rfl
   | ins c' l =>
    dsimp only
    by_cases z:c'=0
    ·rw [if_pos z]
     cases yah [.ref p,.int j,.int b] h1 with
     | ok w h2=>dsimp only;cases yah [.ref p,v,w] h2<;>rfl
     | ex c h2=>rfl
     | bad=>rfl
    ·rw [if_neg z]
 | ex c h1=>rfl
 | bad=>rfl
theorem ziZ (S:ShelfAt h p ps) (g:Good ps) (A:Tx ps a ma x fa la) (B:Tx ps b mb y fb lb) (hc:8<la.sg+fb.sg) (v1 : -1<=ma.ht-mb.ht) (v2:ma.ht-mb.ht<=2) (hm:ma.sg+mb.sg<=1000000000000000000) (hz:ps.length+3<16000000) :
  ∃ (n:Nat) (ps':List Pc) (h':AH) (m:Ms),Dn (yaY [.ref p,.int a,.int b]) p h h' ps ps' 3 n/\Tx ps' n m (x++y) fa lb/\max ma.ht mb.ht<=m.ht/\m.ht<=max ma.ht mb.ht+1/\(ma.ht-mb.ht<=1->m.ht=max ma.ht mb.ht+1):=by
 by_cases q:ma.ht-mb.ht<2
 ·obtain ⟨n,ps',h',d,T⟩:=zay S g A B hc (by lia) (by lia) hm (by lia)
  refine ⟨n,ps',h',_,d.as S g (λhh pp S' _ pr=>tr_1 S' (zac pr A.ms) (zac pr B.ms) q) (by lia),T,?_⟩
  rw [fmH];lia
 ·obtain ⟨c,d,mc,md,y1,y2,lc,fd,e,C,D,rfl,em,w1,w2,w3⟩:=g.cut A (by have:=B.ky.ht;lia)
  have sg:=congrArg Ms.sg em
  have ht:=congrArg Ms.ht em
  rw [fmS] at sg
  rw [fmH] at ht
  by_cases r:md.ht<=mc.ht
  ·obtain ⟨n1,ps1,h1,d1,T1⟩:=zay S g D B hc (by lia) (by lia) (by lia) (by lia)
   obtain ⟨n2,ps2,h2,d2,T2⟩:=zay d1.dd.sh d1.dd.gd (C.pre d1.dd.pre) T1 w3 (by rw [fmH];lia) (by rw [fmH];lia) (by rw [fmS];lia) (by have:=d1.dd.len;lia)
   rw [<- zao] at T2
   refine ⟨n2,ps2,h2,_,Dn.seq (F2:=λv h1=>yah [.ref p,.int c,v] h1) S g d1 d2 (λhh pp S' _ pr=>tr_2 S' A.n1 (zac pr A.ms) (zac pr B.ms) (yaZ pr e) (zac pr C.ms) (zac pr D.ms) q r) (by lia),T2,?_⟩
   rw [fmH,fmH];lia
  ·obtain ⟨i,j,mi,mj,z1,z2,li,fj,e2,I,J,rfl,em2,u1,u2,u3⟩:=g.cut D (by have:=C.ky.ht;lia)
   have sg2:=congrArg Ms.sg em2
   have ht2:=congrArg Ms.ht em2
   rw [fmS] at sg2
   rw [fmH] at ht2
   obtain ⟨n1,ps1,h1,d1,T1⟩:=zay S g C I w3 (by lia) (by lia) (by lia) (by lia)
   obtain ⟨n2,ps2,h2,d2,T2⟩:=zay d1.dd.sh d1.dd.gd (J.pre d1.dd.pre) (B.pre d1.dd.pre) hc (by lia) (by lia) (by lia) (by have:=d1.dd.len;lia)
   obtain ⟨n3,ps3,h3,d3,T3⟩:=zay d2.dd.sh d2.dd.gd (T1.pre d2.dd.pre) T2 u3 (by rw [fmH,fmH];lia) (by rw [fmH,fmH];lia) (by rw [fmS,fmS];lia) (by have:=d1.dd.len;have:=d2.dd.len;lia)
   have d2':Dn (onSh p (yah [.ref p,.int j,.int b])) p h1 h2 ps1 ps2 1 n2:=d2.as d1.dd.sh d1.dd.gd (λhh pp S' _ _=>zgn S' _) (Nat.le_refl _)
   have d23:=Dn.seq (F:=λh1=>(onSh p (yah [.ref p,.int j,.int b]) h1).bind λw h2=>yah [.ref p,.int n1,w] h2) (F2:=λw h2=>yah [.ref p,.int n1,w] h2) d1.dd.sh d1.dd.gd d2' d3 (λ_ _ _ _ _=>rfl) (k:=2) (by lia)
   have ea:(y1++z1)++(z2++y)=y1++(z1++z2)++y:=by rw [zao,zao,zao]
   rw [ea] at T3
   refine ⟨n3,ps3,h3,_,Dn.seq (F2:=λv h1=>(onSh p (yah [.ref p,.int j,.int b]) h1).bind λw h2=>yah [.ref p,v,w] h2) S g d1 d23 (λhh pp S' _ pr=>tr_3 S' A.n1 D.n1 (zac pr A.ms) (zac pr B.ms) (yaZ pr e) (zac pr C.ms) (zac pr D.ms) (yaZ pr e2) q r) (by lia),T3,?_⟩
   rw [fmH,fmH,fmH];exact lB8 ht ht2 w1 w2 v2 q r
theorem Dn.seq' {F1 F2:AH->Out AV} {ps2:List Pc} {k n2:Nat} (S:ShelfAt h p ps) (g:Good ps) (d1:Dn F1 p h h1 ps ps1 k1 n1) (d2:Dn F2 p h1 h2 ps1 ps2 k2 n2) (eq:∀ hh hh1 pp,ShelfAt hh p pp->Good pp->ps <+: pp->F1 hh = .ok (.int n1) hh1->F hh=F2 hh1) (hk:k1+k2<=k):Dn F p h h2 ps ps2 k n2:=by
 refine ⟨?_,d1.dd.trans d2.dd hk,λh3 ps3 S3 g3 p3=>?_⟩
 ·rw [eq h h1 ps S g (List.prefix_refl _) d1.ev];exact d2.ev
 ·rw [eq h3 h3 ps3 S3 g3 (d1.dd.pre.trans (d2.dd.pre.trans p3)) (d1.re h3 ps3 S3 g3 (d2.dd.pre.trans p3))]
  exact d2.re h3 ps3 S3 g3 p3
theorem lk_1 (S:ShelfAt h p ps) (ea:(meas ps)[a]? = some ma) (eb:(meas ps)[b]? = some mb) (h1:ma.ht-mb.ht<=1) (h2 : -1<=ma.ht-mb.ht) :
  ya9 (d+1) [.ref p,.int a,.int b] h=yah [.ref p,.int a,.int b] h:=by
 have f1:=zai S ea
 have f2:=zai S eb
 have c1 : ¬ 1<ma.ht-mb.ht:=by lia
 have c2 : ¬ ma.ht-mb.ht < -1:=by lia
 generalize hF:yah [.ref p,.int a,.int b] h=R
 simp [ya9,yek,S.ob,f1,f2,c1,c2,hF]
 cases R<;>rfl
variable {v:Int}
theorem lk_2 (S:ShelfAt h p ps) (a1:1<=a) (ea:(meas ps)[a]? = some ma) (eb:(meas ps)[b]? = some mb) (ep:ps[a-1]? = some (.fork c e)) (hd:1<ma.ht-mb.ht) (ev:ya9 d [.ref p,.int e,.int b] h = .ok (.int v) h1) :
  ya9 (d+1) [.ref p,.int a,.int b] h=yaQ [.ref p,.int c,.int v] h1:=by
 have f1:=zai S ea
 have f2:=zai S eb
 have f3:=zaz S a1 ep
 generalize hF:yaQ [.ref p,.int c,.int v] h1=R
 simp [ya9,yek,S.ob,f1,f2,hd,f3,i1,i2,ev,hF,-fIx]
 cases R<;>rfl
theorem lk_3 (S:ShelfAt h p ps) (b1:1<=b) (ea:(meas ps)[a]? = some ma) (eb:(meas ps)[b]? = some mb) (ep:ps[b-1]? = some (.fork c e)) (hd:ma.ht-mb.ht < -1) (ev:ya9 d [.ref p,.int a,.int c] h = .ok (.int v) h1) :
  ya9 (d+1) [.ref p,.int a,.int b] h=yaY [.ref p,.int v,.int e] h1:=by
 have f1:=zai S ea
 have f2:=zai S eb
 have f3:=zaz S b1 ep
 have c1 : ¬ 1<ma.ht-mb.ht:=by lia
 generalize hF:yaY [.ref p,.int v,.int e] h1=R
 simp [ya9,yek,S.ob,f1,f2,c1,hd,f3,i1,i2,ev,hF,-fIx]
 cases R<;>rfl
theorem mxe (a b:Int):a<=max a b/\b<=max a b/\(max a b=a\/max a b=b):=by lia
theorem lC8 {a b c e m n:Int} (hh:a=max c e+1) (w1 : -1<=c-e) (w2:c-e<=1) (q:1<a-b) (u1:max e b<=m) (u2:m<=max e b+1) (u3:max c m<=n) (u4:n<=max c m+1) (u5:m-c<=1->n=max c m+1):max a b<=n/\n<=max a b+1:=by
 obtain ⟨x1,x2,x3⟩:=mxe c e
 obtain ⟨y1,y2,y3⟩:=mxe c m
 generalize max c e=k at *
 generalize max c m=l at *
 rw [Int.max_eq_left (show b<=e by lia)] at u1 u2
 rw [Int.max_eq_left (show b<=a by lia)]
 lia
theorem lD8 {a b c e m n:Int} (hh:b=max c e+1) (w1 : -1<=c-e) (w2:c-e<=1) (q:a-b < -1) (u1:max a c<=m) (u2:m<=max a c+1) (u3:max m e<=n) (u4:n<=max m e+1) (u5:m-e<=1->n=max m e+1):max a b<=n/\n<=max a b+1:=by
 obtain ⟨x1,x2,x3⟩:=mxe c e
 obtain ⟨y1,y2,y3⟩:=mxe m e
 generalize max c e=k at *
 generalize max m e=l at *
 rw [Int.max_eq_right (show a<=c by lia)] at u1 u2
 rw [Int.max_eq_right (show a<=b by lia)]
 lia
theorem zbk {p:Nat}:∀ (d t:Nat) {h:AH} {ps:List Pc} {a b:Nat} {ma mb fa la fb lb:Ms} {x y:Str} (S:ShelfAt h p ps) (g:Good ps) (A:Tx ps a ma x fa la) (B:Tx ps b mb y fb lb) (hc:8<la.sg+fb.sg) (hm:ma.sg+mb.sg<=1000000000000000000)
  (ht:(ma.ht-mb.ht).natAbs<=t) (hd:t<d) (hz:ps.length+3*t+4<16000000),
  ∃ (n:Nat) (ps':List Pc) (h':AH) (m:Ms),Dn (ya9 d [.ref p,.int a,.int b]) p h h' ps ps' (3*t+1) n/\Tx ps' n m (x++y) fa lb/\max ma.ht mb.ht<=m.ht/\m.ht<=max ma.ht mb.ht+1
 | 0,t,h,ps,a,b,ma,mb,fa,la,fb,lb,x,y,S,g,A,B,hc,hm,ht,hd,hz=>absurd hd (Nat.not_lt_zero t)
 | d+1,t,h,ps,a,b,ma,mb,fa,la,fb,lb,x,y,S,g,A,B,hc,hm,ht,hd,hz=>by
  by_cases q1:1<ma.ht-mb.ht
  ·obtain ⟨c,e,mc,me,y1,y2,lc,fe,ep,C,E,rfl,em,w1,w2,w3⟩:=g.cut A (by have:=B.ky.ht;lia)
   have sg:=congrArg Ms.sg em
   have hh:=congrArg Ms.ht em
   rw [fmS] at sg
   rw [fmH] at hh
   obtain ⟨n1,ps1,h1,m1,d1,T1,u1,u2⟩:=zbk d (t-1) S g E B hc (by lia) (by lia) (by lia) (by lia)
   have s1:m1.sg=me.sg+mb.sg:=by rw [T1.ky.sg,zat,<- E.ky.sg,<- B.ky.sg]
   obtain ⟨n2,ps2,h2,m2,d2,T2,u3,u4,u5⟩:=zgo d1.dd.sh d1.dd.gd (C.pre d1.dd.pre) T1 w3 (by lia) (by lia) (by lia) (by have:=d1.dd.len;lia)
   rw [<- zao] at T2
   exact ⟨n2,ps2,h2,m2,Dn.seq' S g d1 d2 (λhh hh1 pp S' _ pr ev=>lk_2 S' A.n1 (zac pr A.ms) (zac pr B.ms) (yaZ pr ep) q1 ev) (by lia),T2,lC8 hh w1 w2 q1 u1 u2 u3 u4 u5⟩
  ·by_cases q2:ma.ht-mb.ht < -1
   ·obtain ⟨c,e,mc,me,y1,y2,lc,fe,ep,C,E,rfl,em,w1,w2,w3⟩:=g.cut B (by have:=A.ky.ht;lia)
    have sg:=congrArg Ms.sg em
    have hh:=congrArg Ms.ht em
    rw [fmS] at sg
    rw [fmH] at hh
    obtain ⟨n1,ps1,h1,m1,d1,T1,u1,u2⟩:=zbk d (t-1) S g A C hc (by lia) (by lia) (by lia) (by lia)
    have s1:m1.sg=ma.sg+mc.sg:=by rw [T1.ky.sg,zat,<- A.ky.sg,<- C.ky.sg]
    obtain ⟨n2,ps2,h2,m2,d2,T2,u3,u4,u5⟩:=ziZ d1.dd.sh d1.dd.gd T1 (E.pre d1.dd.pre) w3 (by lia) (by lia) (by lia) (by have:=d1.dd.len;lia)
    rw [zao] at T2
    exact ⟨n2,ps2,h2,m2,Dn.seq' S g d1 d2 (λhh hh1 pp S' _ pr ev=>lk_3 S' B.n1 (zac pr A.ms) (zac pr B.ms) (yaZ pr ep) q2 ev) (by lia),T2,lD8 hh w1 w2 q2 u1 u2 u3 u4 u5⟩
   ·obtain ⟨n,ps',h',dn,T⟩:=zay S g A B hc (by lia) (by lia) hm (by lia)
    exact ⟨n,ps',h',_,dn.as S g (λhh pp S' _ pr=>lk_1 S' (zac pr A.ms) (zac pr B.ms) (by lia) (by lia)) (by lia),T,by rw [fmH];lia,by rw [fmH];lia⟩
theorem zbg (S:ShelfAt h p ps) (n1:1<=n) (e:ps[n-1]? = some (.leaf x)):yaD [.ref p,.int n] h = .ok (.tup [.str "leaf",.str x]) h:=zbW S n1 e
theorem i0L (x:Str) (h:AH):fIx (.tup [.str "leaf",.str x]) (.int 0) h = .ok (.str "leaf") h:=rfl
theorem i0F (a b:Int) (h:AH):fIx (.tup [.str "fork",.int a,.int b]) (.int 0) h = .ok (.str "fork") h:=rfl
theorem i1L (x:Str) (h:AH):fIx (.tup [.str "leaf",.str x]) (.int 1) h = .ok (.str x) h:=rfl
theorem eqL (h:AH):fEq (.str "leaf") (.str "leaf") h = .ok (.bl true) h:=by simp
theorem eqF (h:AH):fEq (.str "fork") (.str "leaf") h = .ok (.bl false) h:=by
 have : ¬ (Str.ofString "fork" = Str.ofString "leaf"):=by decide +kernel
 simp [this]
theorem wl_1 {L:Int} (S:ShelfAt h p ps) (a1:1<=a) (ep:ps[a-1]? = some (.leaf x)):yba (d+1) [.ref p,.int a,.int L] h = .ok (.int L) h:=by
 simp [yba,ydY,S.ob,zbg S a1 ep,i0L,eqL,-fIx,-fEq]
theorem wl_2 {L:Int} (S:ShelfAt h p ps) (a1:1<=a) (ep:ps[a-1]? = some (.fork c e)) (ev:yba d [.ref p,.int e,.int L] h = .ok (.int v) h1) :
  yba (d+1) [.ref p,.int a,.int L] h=yah [.ref p,.int c,.int v] h1:=by
 generalize hF:yah [.ref p,.int c,.int v] h1=R
 simp [yba,ydY,S.ob,zaz S a1 ep,i0F,i1,i2,eqF,ev,hF,-fIx,-fEq]
 cases R<;>rfl
theorem zcn {m:Ms} (T:Tx ps n m x f l) (e:m=lfMs x n):f=m/\l=m:=by
 have h1:=T.ky.fl
 have h2:=T.ky.ll
 have h3:=T.ms
 rw [e] at h1 h2
 exact ⟨Option.some.inj (h1.symm.trans h3),Option.some.inj (h2.symm.trans h3)⟩
theorem zgp {p:Nat}:∀ (d:Nat) {h:AH} {ps:List Pc} {a L:Nat} {m f l:Ms} {x w:Str} (S:ShelfAt h p ps) (g:Good ps) (T:Tx ps a m x f l) (N:Tx ps L (lfMs w L) w (lfMs w L) (lfMs w L)) (hw:l.sg<=w.length) (hm:m.sg+w.length<=1000000000000000000+l.sg) (hd:m.ht.toNat<d) (hz:ps.length+m.ht.toNat<16000000),
  ∃ (n:Nat) (ps':List Pc) (h':AH) (m' f':Ms) (u v:Str),Dn (yba d [.ref p,.int a,.int L]) p h h' ps ps' m.ht.toNat n/\x=u++v/\v.length=l.sg/\Tx ps' n m' (u++w) f' (lfMs w L)/\m'.ht=m.ht/\f.sg<=f'.sg
 | 0,h,ps,a,L,m,f,l,x,w,S,g,T,N,hw,hm,hd,hz=>absurd hd (Nat.not_lt_zero _)
 | d+1,h,ps,a,L,m,f,l,x,w,S,g,T,N,hw,hm,hd,hz=>by
  by_cases q:0<m.ht
  ·obtain ⟨c,e,mc,me,y1,y2,lc,fe,ep,C,E,rfl,em,w1,w2,w3⟩:=g.cut T q
   have sg:=congrArg Ms.sg em
   have hh:=congrArg Ms.ht em
   rw [fmS] at sg
   rw [fmH] at hh
   have c0:=C.ky.ht
   have e0:=E.ky.ht
   obtain ⟨n1,ps1,h1,m1,f1,u,v,d1,rfl,lv,T1,k1,k2⟩:=zgp d S g E N hw (by lia) (by lia) (by lia)
   have s1:m1.sg+l.sg=me.sg+w.length:=by rw [T1.ky.sg,E.ky.sg,zat,zat];lia
   obtain ⟨n2,ps2,h2,d2,T2⟩:=zay d1.dd.sh d1.dd.gd (C.pre d1.dd.pre) T1 (by lia) (by lia) (by lia) (by lia) (by have:=d1.dd.len;lia)
   rw [<- zao] at T2
   exact ⟨n2,ps2,h2,_,f,y1++u,v,Dn.seq' S g d1 d2 (λhh hh1 pp S' _ pr ev=>wl_2 S' T.n1 (yaZ pr ep) ev) (by lia),by rw [zao],lv,T2,by rw [fmH,k1,hh],Nat.le_refl _⟩
  ·rcases g.kind T with ⟨e1,e2,e3,e4,e5⟩ | ⟨c,e,mc,me,y1,y2,fc,lc,fe,le,e1,e2,e3,C,E,e4,e5,e6⟩
   ·obtain ⟨z1,z2⟩:=zcn T e3
    subst z1 z2
    have em:("" : Str)++x=x:=zaf (by rw [zae];rfl)
    have em2:("" : Str)++w=w:=zaf (by rw [zae];rfl)
    have dv:Dn (yba (d+1) [.ref p,.int a,.int L]) p h h ps ps 0 L:=Dn.val S g λhh pp S' _ pr=>wl_1 S' T.n1 (yaZ pr e1)
    refine ⟨L,ps,h,_,_, "",x,dv.as S g (λ_ _ _ _ _=>rfl) (Nat.zero_le _),em.symm,T.ky.sg.symm,by rw [em2];exact N,e2.symm,hw⟩
   ·have:=congrArg Ms.ht e5
    rw [fmH] at this
    have c0:=C.ky.ht
    lia
theorem wf_1 (S:ShelfAt h p ps) (a1:1<=a) (ep:ps[a-1]? = some (.leaf x)):yaG (d+1) [.ref p,.int a] h = .ok (.int (0:Nat)) h:=by
 simp [yaG,ycc,S.ob,zbg S a1 ep,i0L,eqL,-fIx,-fEq]
theorem wf_2 (S:ShelfAt h p ps) (a1:1<=a) (ep:ps[a-1]? = some (.fork c e)) (ev:yaG d [.ref p,.int c] h = .ok (.int (0:Nat)) h1) :
  yaG (d+1) [.ref p,.int a] h = .ok (.int e) h1:=by
 have z:fEq (.int 0) (.int 0) h1 = .ok (.bl true) h1:=by simp
 simp [yaG,ycc,S.ob,zaz S a1 ep,i0F,i1,i2,eqF,ev,z,-fIx,-fEq]
theorem wf_3 {v:Nat} (S:ShelfAt h p ps) (a1:1<=a) (ep:ps[a-1]? = some (.fork c e)) (v1:1<=v) (ev:yaG d [.ref p,.int c] h = .ok (.int v) h1) :
  yaG (d+1) [.ref p,.int a] h=yaQ [.ref p,.int v,.int e] h1:=by
 have z:fEq (.int (v:Int)) (.int 0) h1 = .ok (.bl false) h1:=by
  have : ¬ (v=0):=by lia
  simp [this]
 generalize hF:yaQ [.ref p,.int v,.int e] h1=R
 simp [yaG,ycc,S.ob,zaz S a1 ep,i0F,i1,i2,eqF,ev,z,hF,-fIx,-fEq]
 cases R<;>rfl
theorem zeV {p:Nat}:∀ (d:Nat) {h:AH} {ps:List Pc} {a:Nat} {m f l:Ms} {x:Str} (S:ShelfAt h p ps) (g:Good ps) (T:Tx ps a m x f l) (hd:m.ht.toNat<d) (hz:ps.length+3*m.ht.toNat<16000000),
  (m.ht=0/\f.sg=x.length/\Dn (yaG d [.ref p,.int a]) p h h ps ps 0 0) \/
  (0<m.ht/\∃ (n:Nat) (ps':List Pc) (h':AH) (m' f2:Ms) (u v:Str),Dn (yaG d [.ref p,.int a]) p h h' ps ps' (3*m.ht.toNat) n/\x=u++v/\u.length=f.sg/\Tx ps' n m' v f2 l/\m.ht-1<=m'.ht/\m'.ht<=m.ht/\8<f.sg+f2.sg)
 | 0,h,ps,a,m,f,l,x,S,g,T,hd,hz=>absurd hd (Nat.not_lt_zero _)
 | d+1,h,ps,a,m,f,l,x,S,g,T,hd,hz=>by
  by_cases q:0<m.ht
  ·obtain ⟨c,e,mc,me,y1,y2,lc,fe,ep,C,E,rfl,em,w1,w2,w3⟩:=g.cut T q
   have sg:=congrArg Ms.sg em
   have hh:=congrArg Ms.ht em
   rw [fmS] at sg
   rw [fmH] at hh
   have c0:=C.ky.ht
   have e0:=E.ky.ht
   have most:=T.ky.most
   refine .inr ⟨q,?_⟩
   rcases zeV d S g C (by lia) (by lia) with ⟨k1,k2,d1⟩ | ⟨k1,n1,ps1,h1,m1,f2,u,v,d1,rfl,lu,T1,r1,r2,r3⟩
   ·rcases g.kind C with ⟨e1,e2,e3,e4,e5⟩ | ⟨_,_,mx,my,_,_,_,_,_,_,_,_,_,X,Y,_,e5,_⟩
    ·obtain ⟨z1,z2⟩:=zcn C e3
     have dv:Dn (yaG (d+1) [.ref p,.int a]) p h h ps ps 0 e:=by
      refine ⟨wf_2 S T.n1 ep d1.ev,Dd.refl S g,λh3 ps3 S3 g3 p3=>wf_2 S3 T.n1 (yaZ p3 ep) (d1.re h3 ps3 S3 g3 p3)⟩
     exact ⟨e,ps,h,me,fe,y1,y2,dv.as S g (λ_ _ _ _ _=>rfl) (Nat.zero_le _),rfl,k2.symm,E,by lia,by lia,by rw [z1];rw [z2] at w3;exact w3⟩
    ·have:=congrArg Ms.ht e5
     rw [fmH] at this
     have:=X.ky.ht
     lia
   ·have s1:m1.sg+f.sg=mc.sg:=by rw [T1.ky.sg,C.ky.sg,zat];lia
    obtain ⟨n2,ps2,h2,m2,d2,T2,u3,u4,u5⟩:=zgo d1.dd.sh d1.dd.gd T1 (E.pre d1.dd.pre) w3 (by lia) (by lia) (by lia) (by have:=d1.dd.len;lia)
    refine ⟨n2,ps2,h2,m2,f2,u,v++y2,Dn.seq' S g d1 d2 (λhh hh1 pp S' _ pr ev=>wf_3 S' T.n1 (yaZ pr ep) T1.n1 ev) (by lia),by rw [zao],lu,T2,?_,?_,r3⟩
    ·lia
    ·lia
  ·rcases g.kind T with ⟨e1,e2,e3,e4,e5⟩ | ⟨_,_,mx,my,_,_,_,_,_,_,_,_,_,X,Y,_,e5,_⟩
   ·obtain ⟨z1,z2⟩:=zcn T e3
    exact .inl ⟨e2,by rw [z1];exact T.ky.sg,Dn.val S g λhh pp S' _ pr=>wf_1 S' T.n1 (yaZ pr e1)⟩
   ·have:=congrArg Ms.ht e5
    rw [fmH] at this
    have:=X.ky.ht
    lia
theorem Good.ends {ps:List Pc} (g:Good ps):∀ (k n:Nat) {m f l:Ms} {x:Str},n<=k->Tx ps n m x f l ->
  (∃ w u:Str,1<=m.fl/\ps[m.fl-1]? = some (.leaf w)/\x=w++u/\w.length=f.sg)/\(∃ w u:Str,1<=m.ll/\ps[m.ll-1]? = some (.leaf w)/\x=u++w/\w.length=l.sg)
 | 0,n,m,f,l,x,hn,T=>absurd T.n1 (by lia)
 | k+1,n,m,f,l,x,hn,T=>by
  rcases g.kind T with ⟨e1,e2,e3,e4,e5⟩ | ⟨a,b,ma,mb,y,z,fa,la,fb,lb,e1,e2,e3,A,B,rfl,e5,e6⟩
  ·obtain ⟨z1,z2⟩:=zcn T e3
   have em:("" : Str)++x=x:=zaf (by rw [zae];rfl)
   have em2:x++("" : Str)=x:=zaf (by rw [zae];simp;rfl)
   have hf:m.fl=n:=by rw [e3];rfl
   have hl:m.ll=n:=by rw [e3];rfl
   have hx:=T.ky.sg
   refine ⟨⟨x, "",by rw [hf];exact T.n1,by rw [hf];exact e1,em2.symm,by rw [z1];exact hx.symm⟩,⟨x, "",by rw [hl];exact T.n1,by rw [hl];exact e1,em.symm,by rw [z2];exact hx.symm⟩⟩
  ·have q1:=g.ends k a (by lia) A
   have q2:=g.ends k b (by lia) B
   obtain ⟨⟨w,u,a1,a2,rfl,a4⟩,_⟩:=q1
   obtain ⟨_,⟨w2,u2,b1,b2,rfl,b4⟩⟩:=q2
   have f1:=T.ky.fl
   have l1:=T.ky.ll
   have hf:m.fl=ma.fl:=by rw [e5];rfl
   have hl:m.ll=mb.ll:=by rw [e5];rfl
   rw [hf] at f1
   rw [hl] at l1
   have z5:=f1.symm.trans A.ky.fl;cases z5
   have z6:=l1.symm.trans B.ky.ll;cases z6
   rw [hf,hl]
   exact ⟨⟨w,u++(u2++w2),a1,a2,by rw [zao],a4⟩,⟨w2,w++u++u2,b1,b2,by rw [zao (w++u)],b4⟩⟩
theorem zgq {a b c d:Str} (e:a++b=c++d) (h:a.length=c.length):a=c/\b=d:=by
 have:=congrArg (λz:Str=>z.cps.toList) e
 simp only [zae] at this
 obtain ⟨h1,h2⟩:=List.append_inj this (by rw [<- zad,<- zad];exact h)
 exact ⟨zaf h1,zaf h2⟩
theorem zi0 {a b c d:Str} (e:a++b=c++d) (h:b.length=d.length):a=c/\b=d:=by
 refine zgq e ?_
 have:=congrArg Str.length e
 rw [zat,zat] at this
 lia
theorem zke (S:ShelfAt h p ps) (ea:(meas ps)[a]? = some ma) (eb:(meas ps)[b]? = some mb) (el:(meas ps)[ma.ll]? = some la) (ef:(meas ps)[mb.fl]? = some fb) :
  ydg [.ref p,.int a,.int b] h = .ok (.bl (decide (8<la.sg+fb.sg))) h:=by
 have e1:=ygp S ea
 have e2:=zgl S eb
 have e3:=zah S el
 have e4:=zah S ef
 have:decide ((8:Int)<(la.sg:Int)+fb.sg)=decide (8<la.sg+fb.sg):=by apply decide_eq_decide.mpr;lia
 simp [ydg,S.ob,e1,e2,e3,e4,this]
theorem zi1 {v:Str} (hw:w.length+v.length<=100) (h:AH):fAdd (.str w) (.str v) h = .ok (.str (w++v)) h:=by
 have:w.length+v.length<=sizeLine:=Nat.le_trans hw (by decide)
 simp [fAdd,this]
theorem wd_1 {h3:AH} {L n k:Int} {v:Str} (S:ShelfAt h p ps) (ea:(meas ps)[a]? = some ma) (eb:(meas ps)[b]? = some mb) (l1:1<=ma.ll) (f1:1<=mb.fl) (el:ps[ma.ll-1]? = some (.leaf w)) (ef:ps[mb.fl-1]? = some (.leaf v)) (hw:w.length+v.length<=100) (e1:yaH [.ref p,.str (w++v)] h = .ok (.int L) h1) (e2:yba 90 [.ref p,.int a,.int L] h1 = .ok (.int n) h2) (e3:yaG 90 [.ref p,.int b] h2 = .ok (.int k) h3) :
  ycG [.ref p,.int a,.int b] h=if k=0 then .ok (.int n) h3 else ya9 90 [.ref p,.int n,.int k] h3:=by
 have q1:=ygp S ea
 have q2:=zgl S eb
 have q3:=zbg S l1 el
 have q4:=zbg S f1 ef
 have ad:=zi1 hw h
 unfold ycG
 generalize yba 90=WL at *
 generalize yaG 90=WF at *
 generalize hF:ya9 90=LK at *
 by_cases z:k=0
 ·subst z
  have zz:fEq (.int 0) (.int 0) h3 = .ok (.bl true) h3:=by simp
  simp [S.ob,q1,q2,q3,q4,i1L,ad,e1,e2,e3,zz,-fIx,-fEq,-fAdd]
 ·have zz:fEq (.int k) (.int 0) h3 = .ok (.bl false) h3:=by simp [z]
  rw [if_neg z]
  generalize hR:LK [.ref p,.int n,.int k] h3=R
  simp [S.ob,q1,q2,q3,q4,i1L,ad,e1,e2,e3,zz,hR,-fIx,-fEq,-fAdd]
  cases R<;>rfl
theorem zh1 {v:Str} (h1:1<=w.length) (h2:w.length+v.length<=8) (pw:yaK w=true) (pv:yaK v=true):yby (w++v)=true:=by
 unfold yby
 rw [za5,zat,pw,pv]
 simp;lia
theorem zeW (S:ShelfAt h p ps) (g:Good ps) (A:Tx ps a ma x fa la) (B:Tx ps b mb y fb lb) (hc : ¬ 8<la.sg+fb.sg) (hm:ma.sg+mb.sg<=1000000000000000000) (hz:ps.length<15000000) :
  ∃ (n:Nat) (ps':List Pc) (h':AH) (m f l:Ms),Dn (ycG [.ref p,.int a,.int b]) p h h' ps ps' (7*(max ma.ht mb.ht).toNat+2) n/\Tx ps' n m (x++y) f l/\m.ht<=max ma.ht mb.ht+1:=by
 obtain ⟨_,w,u,l1,el,ex,lw⟩:=g.ends a a (Nat.le_refl _) A
 obtain ⟨⟨v,t,f1,ef,ey,lv⟩,_⟩:=g.ends b b (Nat.le_refl _) B
 have a0:=A.ky.ht
 have b0:=B.ky.ht
 have ha:=ht82 g A
 have hb:=ht82 g B
 have px:yaK x=true:=A.ky.pl
 have py:yaK y=true:=B.ky.pl
 have pw:yaK w=true:=by rw [ex,za5,Bool.and_eq_true] at px;exact px.2
 have pv:yaK v=true:=by rw [ey,za5,Bool.and_eq_true] at py;exact py.1
 have la1:=A.ky.l1
 have fb1:=B.ky.f1
 have sx:=A.ky.sg
 have sy:=B.ky.sg
 have lx:x.length=u.length+w.length:=by rw [ex,zat]
 have ly:y.length=v.length+t.length:=by rw [ey,zat]
 have lwv:(w++v).length=w.length+v.length:=zat w v
 obtain ⟨L,ps1,h1,d1,N⟩:=zcm S g (zh1 (w:=w) (v:=v) (by lia) (by lia) pw pv) (by lia)
 have z1:=d1.dd.len
 obtain ⟨n2,ps2,h2,m2,f2,u2,v2,d2,ex2,lv2,T2,k1,k2⟩:=zgp 90 d1.dd.sh d1.dd.gd (A.pre d1.dd.pre) N (by lia) (by lia) (by lia) (by lia)
 have z2:=d2.dd.len
 obtain ⟨rfl,rfl⟩:u=u2/\w=v2:=zi0 (ex.symm.trans ex2) (by lia)
 have s2:m2.sg=u.length+(w.length+v.length):=by rw [T2.ky.sg,zat,zat]
 have p12:=d1.dd.pre.trans d2.dd.pre
 have lm:(lfMs (w++v) L).sg=w.length+v.length:=zat w v
 have tb:∀ q:Int,0<=q->q<=max ma.ht mb.ht->q.toNat<=(max ma.ht mb.ht).toNat:=λq _ _=>by lia
 rcases zeV 90 d2.dd.sh d2.dd.gd (B.pre p12) (by lia) (by lia) with ⟨r1,r2,d3⟩ | ⟨r1,n3,ps3,h3,m3,f3,u3,v3,d3,ey3,lu3,T3,r2,r3,r4⟩
 ·have t0:t.length=0:=by lia
  have te:t = "" := zaf (by rw [zad] at t0;rw [List.length_eq_zero_iff.mp t0];rfl)
  have rd:u++(w++v)=x++y:=by
   rw [ex,ey,te,zao]
   congr 2
  rw [rd] at T2
  refine ⟨n2,ps2,h2,m2,f2,_,⟨?_,d1.dd.trans d2.dd (by lia),λh4 ps4 S4 g4 p4=>?_⟩,T2,by lia⟩
  ·rw [wd_1 S A.ms B.ms l1 f1 el ef (by lia) d1.ev d2.ev d3.ev];rfl
  ·have q1:=d1.re h4 ps4 S4 g4 (d2.dd.pre.trans p4)
   have q2:=d2.re h4 ps4 S4 g4 p4
   have q3:=d3.re h4 ps4 S4 g4 p4
   rw [wd_1 S4 (zac (p12.trans p4) A.ms) (zac (p12.trans p4) B.ms) l1 f1 (yaZ (p12.trans p4) el) (yaZ (p12.trans p4) ef) (by lia) q1 q2 q3];rfl
 ·obtain ⟨rfl,rfl⟩:v=u3/\t=v3:=zgq (ey.symm.trans ey3) (by lia)
  have z3:=d3.dd.len
  have s3:m3.sg=t.length:=T3.ky.sg
  have m30:=T3.ky.ht
  obtain ⟨n4,ps4,h4,m4,d4,T4,r5,r6⟩:=zbk 90 (max ma.ht mb.ht).toNat d3.dd.sh d3.dd.gd (T2.pre d3.dd.pre) T3 (by lia) (by lia) (by lia) (by lia) (by lia)
  have rd:(u++(w++v))++t=x++y:=by rw [ex,ey,zao,zao,zao]
  rw [rd] at T4
  have n3z : ¬ (n3:Int)=0:=by have:=T3.n1;lia
  have p123:=p12.trans d3.dd.pre
  refine ⟨n4,ps4,h4,m4,f2,lb,⟨?_,((d1.dd.trans d2.dd (Nat.le_refl _)).trans d3.dd (Nat.le_refl _)).trans d4.dd (by lia),λh5 ps5 S5 g5 p5=>?_⟩,T4,by lia⟩
  ·rw [wd_1 S A.ms B.ms l1 f1 el ef (by lia) d1.ev d2.ev d3.ev,if_neg n3z];exact d4.ev
  ·have p45:=d4.dd.pre.trans p5
   have q1:=d1.re h5 ps5 S5 g5 (d2.dd.pre.trans (d3.dd.pre.trans p45))
   have q2:=d2.re h5 ps5 S5 g5 (d3.dd.pre.trans p45)
   have q3:=d3.re h5 ps5 S5 g5 p45
   have q4:=d4.re h5 ps5 S5 g5 p5
   have pa:=p123.trans p45
   rw [wd_1 S5 (zac pa A.ms) (zac pa B.ms) l1 f1 (yaZ pa el) (yaZ pa ef) (by lia) q1 q2 q3,if_neg n3z];exact q4
def TxZ (ps:List Pc) (n:Nat) (y:Str):Prop:=(n=0/\y = "")\/∃ m f l,Tx ps n m y f l
theorem TxZ.pre {ps ps':List Pc} {n:Nat} {y:Str} (t:TxZ ps n y) (h:ps <+: ps'):TxZ ps' n y:=by
 rcases t with t | ⟨m,f,l,t⟩
 ·exact .inl t
 ·exact .inr ⟨m,f,l,t.pre h⟩
theorem za6 (ps:List Pc):(meas ps)[0]? = some ms0:=by
 obtain ⟨r,e,_⟩:=zbj ycT ps [ms0]
 rw [meas,e];rfl
def htOf (ps:List Pc) (n:Nat):Int:=((meas ps).getD n ms0).ht
theorem ybp {m:Ms} (e:(meas ps)[n]? = some m):htOf ps n=m.ht:=by unfold htOf;rw [zaT e]
theorem zbF (ps:List Pc):htOf ps 0 = -1:=ybp (za6 ps)
theorem zaW {i:Int} (hi:i<=1000000000000000000) (h:AH):ybE [.int i] h = .ok .non h:=by
 have : ¬ (1000000000000000000:Int)<i:=by lia
 simp [ybE,this]
theorem jn_0 (S:ShelfAt h p ps) (eb:(meas ps)[b]? = some mb) (hm:mb.sg<=1000000000000000000):yaB [.ref p,.int (0:Nat),.int b] h = .ok (.int b) h:=by
 have e1:=zah S (za6 ps)
 have e2:=zah S eb
 have z:ms0.sg=0:=rfl
 rw [z] at e1
 have e1':yay [.ref p,.int 0] h = .ok (.int 0) h:=e1
 have ck:=zaW (i:=(0:Int)+mb.sg) (by lia) h
 have zz:fEq (.int 0) (.int 0) h = .ok (.bl true) h:=by simp
 have ad:fAdd (.int 0) (.int mb.sg) h = .ok (.int (0+mb.sg)) h:=rfl
 simp [yaB,S.ob,e1',e2,ad,ck,zz,-fEq,-fAdd,-Int.zero_add]
theorem jn_1 (S:ShelfAt h p ps) (a1:1<=a) (ea:(meas ps)[a]? = some ma) (hm:ma.sg<=1000000000000000000):yaB [.ref p,.int a,.int (0:Nat)] h = .ok (.int a) h:=by
 have e1:=zah S (za6 ps)
 have e2:=zah S ea
 have z:ms0.sg=0:=rfl
 rw [z] at e1
 have e1':yay [.ref p,.int 0] h = .ok (.int 0) h:=e1
 have ck:=zaW (i:=(ma.sg:Int)+0) (by lia) h
 have zz:fEq (.int 0) (.int 0) h = .ok (.bl true) h:=by simp
 have z2:fEq (.int a) (.int 0) h = .ok (.bl false) h:=by
  have : ¬ a=0:=by lia
  simp [this]
 have ad:fAdd (.int ma.sg) (.int 0) h = .ok (.int (ma.sg+0)) h:=rfl
 simp [yaB,S.ob,e1',e2,ad,ck,zz,z2,-fEq,-fAdd,-Int.add_zero]
theorem jn_2 (S:ShelfAt h p ps) (a1:1<=a) (b1:1<=b) (ea:(meas ps)[a]? = some ma) (eb:(meas ps)[b]? = some mb) (el:(meas ps)[ma.ll]? = some la) (ef:(meas ps)[mb.fl]? = some fb) (hm:ma.sg+mb.sg<=1000000000000000000) :
  yaB [.ref p,.int a,.int b] h=if 8<la.sg+fb.sg then ya9 90 [.ref p,.int a,.int b] h else ycG [.ref p,.int a,.int b] h:=by
 have e1:=zah S ea
 have e2:=zah S eb
 have cl:=zke S ea eb el ef
 have ck:=zaW (i:=(ma.sg:Int)+mb.sg) (by lia) h
 have z1:fEq (.int a) (.int 0) h = .ok (.bl false) h:=by
  have : ¬ a=0:=by lia
  simp [this]
 have z2:fEq (.int b) (.int 0) h = .ok (.bl false) h:=by
  have : ¬ b=0:=by lia
  simp [this]
 have ad:fAdd (.int ma.sg) (.int mb.sg) h = .ok (.int (ma.sg+mb.sg)) h:=rfl
 unfold yaB
 generalize ya9 90=LK at *
 by_cases q:8<la.sg+fb.sg
 ·rw [if_pos q]
  generalize hR:LK [.ref p,.int a,.int b] h=R
  simp [S.ob,e1,e2,ad,ck,z1,z2,cl,q,hR,-fEq,-fAdd]
  cases R<;>rfl
 ·rw [if_neg q]
  generalize hR:ycG [.ref p,.int a,.int b] h=R
  simp [S.ob,e1,e2,ad,ck,z1,z2,cl,q,hR,-fEq,-fAdd]
  cases R<;>rfl
theorem TxZ.meas {ps:List Pc} {n:Nat} {y:Str} (t:TxZ ps n y):∃ m,(meas ps)[n]? = some m/\m.sg=y.length:=by
 rcases t with ⟨rfl,rfl⟩ | ⟨m,f,l,T⟩
 ·exact ⟨ms0,za6 ps,rfl⟩
 ·exact ⟨m,T.ms,T.ky.sg⟩
theorem zcR (S:ShelfAt h p ps) (g:Good ps) (A:TxZ ps a x) (B:TxZ ps b y) (hm:x.length+y.length<=1000000000000000000) (hz:ps.length<15000000) :
  ∃ (n:Nat) (ps':List Pc) (h':AH),Dn (yaB [.ref p,.int a,.int b]) p h h' ps ps' (16*(max (htOf ps a) (htOf ps b)+1).toNat) n/\TxZ ps' n (x++y):=by
 rcases A with ⟨rfl,rfl⟩ | ⟨ma,fa,la,A⟩
 ·obtain ⟨mb,eb,sb⟩:=B.meas
  have em:("" : Str)++y=y:=zaf (by rw [zae];rfl)
  have dv:Dn (yaB [.ref p,.int (0:Nat),.int b]) p h h ps ps 0 b:=Dn.val S g λhh pp S' _ pr=>jn_0 S' (zac pr eb) (by rw [sb];lia)
  exact ⟨b,ps,h,dv.as S g (λ_ _ _ _ _=>rfl) (Nat.zero_le _),by rw [em];exact B⟩
 ·rcases B with ⟨rfl,rfl⟩ | ⟨mb,fb,lb,B⟩
  ·have em:x++("" : Str)=x:=zaf (by rw [zae];simp;rfl)
   have dv:Dn (yaB [.ref p,.int a,.int (0:Nat)]) p h h ps ps 0 a:=Dn.val S g λhh pp S' _ pr=>jn_1 S' A.n1 (zac pr A.ms) A.ky.most
   exact ⟨a,ps,h,dv.as S g (λ_ _ _ _ _=>rfl) (Nat.zero_le _),by rw [em];exact .inr ⟨_,_,_,A⟩⟩
  ·have sa:=A.ky.sg
   have sb:=B.ky.sg
   have a0:=A.ky.ht
   have b0:=B.ky.ht
   have ha:=ht82 g A
   have hb:=ht82 g B
   rw [ybp A.ms,ybp B.ms]
   by_cases q:8<la.sg+fb.sg
   ·obtain ⟨n,ps',h',m,d,T,_⟩:=zbk 90 (max ma.ht mb.ht).toNat S g A B q (by lia) (by lia) (by lia) (by lia)
    exact ⟨n,ps',h',d.as S g (λhh pp S' _ pr=>by rw [jn_2 S' A.n1 B.n1 (zac pr A.ms) (zac pr B.ms) (zac pr A.ky.ll) (zac pr B.ky.fl) (by lia),if_pos q]) (by lia),.inr ⟨_,_,_,T⟩⟩
   ·obtain ⟨n,ps',h',m,f,l,d,T,_⟩:=zeW S g A B q (by lia) hz
    exact ⟨n,ps',h',d.as S g (λhh pp S' _ pr=>by rw [jn_2 S' A.n1 B.n1 (zac pr A.ms) (zac pr B.ms) (zac pr A.ky.ll) (zac pr B.ky.fl) (by lia),if_neg q]) (by lia),.inr ⟨_,_,_,T⟩⟩
theorem zkf (be:b<=e):(cutS y (some (b:Int)) (some (e:Int))).cps.toList=(y.cps.toList.drop b).take (e-b):=by
 unfold cutS
 rw [HT.sIx_nat,HT.sIx_nat]
 generalize y.cps.toList=l
 show (l.drop (min b l.length)).take (min e l.length-min b l.length)=_
 apply List.ext_getElem?
 intro i
 rw [List.getElem?_take,List.getElem?_take,List.getElem?_drop,List.getElem?_drop]
 by_cases q:b<=l.length
 ·rw [Nat.min_eq_left q]
  by_cases c1:i<e-b
  ·rw [if_pos c1]
   by_cases c2:i<min e l.length-b
   ·rw [if_pos c2]
   ·rw [if_neg c2,List.getElem?_eq_none (by lia)]
  ·rw [if_neg c1,if_neg (by lia)]
 ·rw [if_neg (by lia),List.getElem?_eq_none (l:=l) (i:=b+i) (by lia)]
  split<;>rfl
def cat:List Str->Str
 | [] => ""
 | w::ws=>w++cat ws
theorem zdC:∀ as bs:List Str,cat (as++bs)=cat as++cat bs
 | [],bs=>(zaf (by rw [zae];rfl):cat bs=("" : Str)++cat bs)
 | w::as,bs=>by
  show w++cat (as++bs)=(w++cat as)++cat bs
  rw [zdC as bs,zao]
theorem zgr (w:Str):cat [w]=w:=zaf (by show (w++("" : Str)).cps.toList=_;rw [zae];simp;rfl)
def LS (ps:List Pc) (ns:List Nat) (ws:List Str):Prop:=ns.length=ws.length/\∀ (i n:Nat) (w:Str),ns[i]? = some n->ws[i]? = some w->Tx ps n (lfMs w n) w (lfMs w n) (lfMs w n)
theorem LS.pre {ps ps':List Pc} {ns:List Nat} {ws:List Str} (s:LS ps ns ws) (h:ps <+: ps'):LS ps' ns ws:=⟨s.1,λi n w a b=>(s.2 i n w a b).pre h⟩
theorem LS.take {ps:List Pc} {ns:List Nat} {ws:List Str} (s:LS ps ns ws) (k:Nat):LS ps (ns.take k) (ws.take k):=by
 refine ⟨by simp [s.1],λi n w a b=>?_⟩
 rw [List.getElem?_take] at a b
 by_cases q:i<k
 ·rw [if_pos q] at a b;exact s.2 i n w a b
 ·rw [if_neg q] at a;cases a
theorem LS.drop {ps:List Pc} {ns:List Nat} {ws:List Str} (s:LS ps ns ws) (k:Nat):LS ps (ns.drop k) (ws.drop k):=by
 refine ⟨by simp [s.1],λi n w a b=>?_⟩
 rw [List.getElem?_drop] at a b
 exact s.2 _ n w a b
abbrev ivs (ns:List Nat):List AV:=ns.map λn:Nat=>AV.int (n:Int)
theorem hv_1:ybH (d+1) [.ref p,.fl (ivs [n])] h = .ok (.int n) h:=by
 have ix:fIx (.fl [.int (n:Int)]) (.int 0) h = .ok (.int n) h:=rfl
 simp [ybH,yeO,ix,-fIx]
theorem zh2 (l:List α) {k:Nat} (hk:k<=l.length):cutA l none (some (k:Int))=l.take k:=by
 unfold cutA
 rw [HT.sIx_nat,HT.sIx_none,Nat.min_eq_left hk];simp
theorem zh3 (l:List α) {k:Nat} (hk:k<=l.length):cutA l (some (k:Int)) none=l.drop k:=by
 unfold cutA
 rw [HT.sIx_nat,HT.sIx_none,Nat.min_eq_left hk,List.take_of_length_le (by simp)]
theorem hv_2 {ns:List Nat} {v1 v2:Int} (S:ShelfAt h p ps) (hl:2<=ns.length) (e1:ybH d [.ref p,.fl (ivs (ns.take (ns.length / 2)))] h = .ok (.int v1) h1) (e2:ybH d [.ref p,.fl (ivs (ns.drop (ns.length / 2)))] h1 = .ok (.int v2) h2) :
  ybH (d+1) [.ref p,.fl (ivs ns)] h=yah [.ref p,.int v1,.int v2] h2:=by
 have hh:ns.length / 2<=ns.length:=Nat.div_le_self _ _
 have ln:fLen [.fl (ivs ns)] h = .ok (.int ns.length) h:=by simp [fLen]
 have q:fEq (.int ns.length) (.int 1) h = .ok (.bl false) h:=by
  have : ¬ (ns.length:Int)=1:=by lia
  simp [this]
 have dv:fDiv (.int ns.length) (.int 2) h = .ok (.int (ns.length / 2:Nat)) h:=rfl
 have c1:ybe (.fl (ivs ns)) none (some (ns.length / 2:Nat)) h = .ok (.fl (ivs (ns.take (ns.length / 2)))) h:=by
  have:=zh2 (ivs ns) (k:=ns.length / 2) (by simpa using hh)
  simp only [ybe,this,ivs,List.map_take]
 have c2:∀ h,ybe (.fl (ivs ns)) (some (ns.length / 2:Nat)) none h = .ok (.fl (ivs (ns.drop (ns.length / 2)))) h:=λh=>by
  have:=zh3 (ivs ns) (k:=ns.length / 2) (by simpa using hh)
  simp only [ybe,this,ivs,List.map_drop]
 generalize hF:yah [.ref p,.int v1,.int v2] h2=R
 unfold ybH yeO
 generalize ivs ns=Z at *
 generalize ivs (ns.take (ns.length / 2))=Z1 at *
 generalize ivs (ns.drop (ns.length / 2))=Z2 at *
 generalize ((ns.length / 2:Nat):Int)=M at *
 generalize (ns.length:Int)=K at *
 simp [S.ob,ln,q,dv,c1,c2,e1,e2,hF,-fLen,-fEq,-fDiv,-ybe]
 cases R<;>rfl
theorem pw1 {ha:Nat} (ab:b<=a+1) (h1:a<=2 ^ ha) (h2:hb=0\/2 ^ (hb-1)<b):hb<=ha+1:=by
 rcases h2 with h2 | h2
 ·lia
 ·have:2 ^ (hb-1)<=2 ^ ha:=by lia
  have:=(Nat.pow_le_pow_iff_right (a:=2) (by decide)).mp this
  lia
theorem pw2 {ha:Nat} (ab:a<=b) (h1:b<=2 ^ hb) (h2:ha=0\/2 ^ (ha-1)<a):ha<=hb:=by
 rcases h2 with h2 | h2
 ·lia
 ·have:2 ^ (ha-1)<2 ^ hb:=by lia
  have:=(Nat.pow_lt_pow_iff_right (a:=2) (by decide)).mp this
  lia
theorem pw3 {k:Nat} (h1:k<=2*b) (h2:2*b<=k+1) (h3:2<=k) (h4:b<=2 ^ hb) (h5:hb=0\/2 ^ (hb-1)<b):k<=2 ^ (hb+1)/\2 ^ (hb+1-1)<k:=by
 rw [Nat.pow_succ,Nat.add_sub_cancel]
 refine ⟨by lia,?_⟩
 rcases h5 with h5 | h5
 ·subst h5;simp;lia
 ·cases hb with
  | zero=>simp;lia
  | succ n =>
   rw [Nat.add_sub_cancel] at h5
   rw [Nat.pow_succ];lia
theorem pw4 {k:Nat} (h:k<=2 ^ (e+1)):k / 2<=2 ^ e/\k-k / 2<=2 ^ e:=by rw [Nat.pow_succ] at h;lia
theorem zcS {p:Nat}:∀ (d e:Nat) {h:AH} {ps:List Pc} {ns:List Nat} {ws:List Str},ShelfAt h p ps->Good ps->LS ps ns ws->1<=ns.length->ns.length<=2 ^ e->e<d->(∀ (i:Nat) (w:Str),ws[i]? = some w->i+1<ws.length->w.length=8)->ps.length+ns.length<16000000->ns.length<=10000 ->
  ∃ (n:Nat) (ps':List Pc) (h':AH) (m f l:Ms) (H:Nat),ybH d [.ref p,.fl (ivs ns)] h = .ok (.int n) h'/\Dd p h h' ps ps' (ns.length-1)/\Tx ps' n m (cat ws) f l/\m.ht=H/\ns.length<=2 ^ H/\(H=0\/2 ^ (H-1)<ns.length)/\((∀ w∈ws,w.length=8)->l.sg=8)/\m.sg<=8*ns.length
 | 0,e,h,ps,ns,ws,S,g,LL,h1,h2,h3,h4,h5,h6=>absurd h3 (Nat.not_lt_zero _)
 | d+1,e,h,ps,ns,ws,S,g,LL,h1,h2,h3,h4,h5,h6=>by
  by_cases q:ns.length=1
  ·obtain ⟨n,rfl⟩:∃ n,ns=[n]:=List.length_eq_one_iff.mp q
   obtain ⟨w,rfl⟩:∃ w,ws=[w]:=List.length_eq_one_iff.mp (LL.1.symm.trans q)
   have T:=LL.2 0 n w rfl rfl
   refine ⟨n,ps,h,_,_,_,0,hv_1,{ Dd.refl S g with len:=by lia },by rw [zgr];exact T,rfl,by simp,.inl rfl,λhw=>hw w (by simp),?_⟩
   have:=T.ky.f8
   simpa using this
  ·have hh:2<=ns.length:=by lia
   obtain ⟨e',rfl⟩:∃ e',e=e'+1:=by
    cases e with
    | zero=>simp at h2;lia
    | succ e' => exact ⟨e',rfl⟩
   obtain ⟨w1,w2⟩:=pw4 h2
   have lt:(ns.take (ns.length / 2)).length=ns.length / 2:=by rw [List.length_take];lia
   have ld:(ns.drop (ns.length / 2)).length=ns.length-ns.length / 2:=List.length_drop ..
   have lw:=LL.1
   obtain ⟨n1,ps1,hh1,m1,f1,l1,H1,a1,a2,a3,a4,a5,a6,a7,a8⟩:=zcS d e' S g (LL.take (ns.length / 2)) (by lia) (by lia) (by lia) (λi w ew hi=>by
    rw [List.getElem?_take] at ew
    split at ew
    ·rw [List.length_take] at hi;exact h4 i w ew (by lia)
    ·cases ew) (by lia) (by lia)
   have z1:=a2.len
   obtain ⟨n2,ps2,hh2,m2,f2,l2,H2,b1,b2,b3,b4,b5,b6,b7,b8⟩:=zcS d e' a2.sh a2.gd ((LL.drop (ns.length / 2)).pre a2.pre) (by lia) (by lia) (by lia) (λi w ew hi=>by
    rw [List.getElem?_drop] at ew
    rw [List.length_drop] at hi
    exact h4 _ w ew (by lia)) (by lia) (by lia)
   have z2:=b2.len
   rw [lt] at a5 a6 a8
   rw [ld] at b5 b6 b8
   have g1:=pw1 (a:=ns.length / 2) (b:=ns.length-ns.length / 2) (by lia) a5 b6
   have g2:=pw2 (a:=ns.length / 2) (b:=ns.length-ns.length / 2) (by lia) b5 a6
   have l8:l1.sg=8:=a7 λw hw=>by
    obtain ⟨i,hi,ei⟩:=List.getElem_of_mem hw
    have hi' := hi
    rw [List.length_take] at hi'
    have:(ws.take (ns.length / 2))[i]? = some w:=by rw [List.getElem?_eq_getElem hi,ei]
    rw [List.getElem?_take] at this
    split at this
    ·exact h4 i w this (by lia)
    ·cases this
   have f1' := b3.ky.f1
   obtain ⟨n3,ps3,hh3,d3,T3⟩:=zay b2.sh b2.gd (a3.pre b2.pre) b3 (by lia) (by lia) (by lia) (by lia) (by lia)
   have rd:cat (ws.take (ns.length / 2))++cat (ws.drop (ns.length / 2))=cat ws:=by rw [<- zdC,List.take_append_drop]
   rw [rd] at T3
   have hv:=hv_2 S hh a1 b1
   obtain ⟨y1,y2⟩:=pw3 (k:=ns.length) (b:=ns.length-ns.length / 2) (by lia) (by lia) hh b5 b6
   refine ⟨n3,ps3,hh3,_,f1,l2,H2+1,hv.trans d3.ev,(a2.trans b2 (Nat.le_refl _)).trans d3.dd (by lia),T3,by rw [fmH,a4,b4];lia,y1,.inr y2,λhw=>b7 λw hm=>hw w (List.mem_of_mem_drop hm),by rw [fmS];lia⟩
def ycU (x:Str) (k:Nat):Str:=cutS x (some ((8*k:Nat):Int)) (some ((8*k+8:Nat):Int))
theorem zca (x:Str) (k:Nat):(ycU x k).cps.toList=(x.cps.toList.drop (8*k)).take 8:=by
 unfold ycU
 rw [zkf (by lia),show 8*k+8-8*k=8 by lia]
theorem zeb (x:Str) (k:Nat):(ycU x k).length=min 8 (x.length-8*k):=by
 rw [zad,zca,List.length_take,List.length_drop,<- zad]
theorem zft (px:yaK x=true) (k:Nat):yaK (ycU x k)=true:=by
 unfold yaK at *
 rw [zca,List.all_eq_true]
 rw [List.all_eq_true] at px
 exact λc hc=>px c (List.mem_of_mem_drop (List.mem_of_mem_take hc))
theorem zdd (x:Str):∀ j,(cat ((List.range j).map (ycU x))).cps.toList=x.cps.toList.take (8*j)
 | 0=>rfl
 | j+1=>by
  rw [List.range_succ,List.map_append,zdC,zae,zdd x j]
  show _++(cat [ycU x j]).cps.toList=_
  rw [zgr,zca,show 8*(j+1)=8*j+8 by lia,List.take_add]
theorem zec {f:Nat->α} {N:Nat} {w:α} (e:((List.range N).map f)[i]? = some w):i<N/\w=f i:=by
 rw [List.getElem?_map] at e
 obtain ⟨j,ej,ew⟩:=Option.map_eq_some_iff.mp e
 have h1:=(List.getElem?_eq_some_iff.mp ej).1
 rw [List.length_range] at h1
 rw [List.getElem?_range h1] at ej
 cases ej
 exact ⟨h1,ew.symm⟩
theorem LS.snoc {ns:List Nat} {ws:List Str} (s:LS ps ns ws) (h:ps <+: ps') (T:Tx ps' n (lfMs w n) w (lfMs w n) (lfMs w n)):LS ps' (ns++[n]) (ws++[w]):=by
 have l:=s.1
 refine ⟨by simp [s.1],λi a b ea eb=>?_⟩
 by_cases q:i<ns.length
 ·rw [List.getElem?_append_left q] at ea
  rw [List.getElem?_append_left (by lia)] at eb
  exact (s.2 i a b ea eb).pre h
 ·have h1:=(List.getElem?_eq_some_iff.mp ea).1
  have hi:i=ns.length:=by simp at h1;lia
  subst hi
  rw [List.getElem?_append_right (by lia)] at ea eb
  simp at ea
  rw [show ns.length-ws.length=0 by lia] at eb
  simp at eb
  subst ea eb
  exact T
theorem zfu (S:ShelfAt h p ps) (g:Good ps) (px:yaK x=true) (N:Nat) (hN:8*N<x.length+8) (hx:x.length<=10000) (hz:ps.length+N<16000000) (all:List AV) (js:List Nat) (en:En) (hj:js.map (λj=>(en[j]?).join)=[some (.ref p),some (.str x)]) :
  ∃ (ns:List Nat) (ps':List Pc) (h':AH),ybb js en none all sYes (yaj 0 yaH (sVar 1) (yab (sCut (sVar 2) (some (sVar 0)) (some (sOp2 fAdd (sVar 0) (sLit (.int 8))))) sNil)) ((List.range N).map λm:Nat=>AV.int (0+(m:Int)*8)) [] h = .ok (ivs ns) h'/\Dd p h h' ps ps' N/\LS ps' ns ((List.range N).map (ycU x)):=by
 obtain ⟨zs,h',c1,ns,ps',e1,D,LL⟩:=ygl (js:=js) (en:=en) (all:=all) (e:=yaj 0 yaH (sVar 1) (yab (sCut (sVar 2) (some (sVar 0)) (some (sOp2 fAdd (sVar 0) (sLit (.int 8))))) sNil)) (xs:=(List.range N).map λm:Nat=>AV.int (0+(m:Int)*8)) (h:=h)
  (λj ys h' => ∃ (ns:List Nat) (ps':List Pc),ys=ivs ns/\Dd p h h' ps ps' j/\LS ps' ns ((List.range j).map (ycU x))) ⟨[],ps,rfl,Dd.refl S g,rfl,λi n w a _=>by simp at a⟩ (by
   rintro j v ys h' hv ⟨ns,ps',rfl,D,LL⟩
   obtain ⟨jN,rfl⟩:=zec hv
   have z:=D.len
   have lc:=zeb x j
   have sc:yby (ycU x j)=true:=by
    unfold yby
    rw [zft px j,lc]
    simp;lia
   obtain ⟨n,ps2,h2,d2,T⟩:=zcm D.sh D.gd sc (by lia)
   have i1:(0:Int)+(j:Int)*8=((8*j:Nat):Int):=by lia
   have i2:((8*j:Nat):Int)+8=((8*j+8:Nat):Int):=by lia
   have ct:ybe (.str x) (some ((8*j:Nat):Int)) (some ((8*j+8:Nat):Int)) h' = .ok (.str (ycU x j)) h' := rfl
   have ev:=d2.ev
   rw [hj]
   have e:yaj 0 yaH (sVar 1) (yab (sCut (sVar 2) (some (sVar 0)) (some (sOp2 fAdd (sVar 0) (sLit (.int 8))))) sNil) [some (.int (0+(j:Int)*8)),some (.ref p),some (.str x)] h' = .ok (.int n) h2:=by
    rw [i1]
    have ad:fAdd (.int ((8*j:Nat):Int)) (.int 8) h' = .ok (.int ((8*j+8:Nat):Int)) h' := by rw [<- i2];rfl
    generalize ((8*j:Nat):Int)=B1 at *
    generalize ((8*j+8:Nat):Int)=B2 at *
    simp [D.sh.ob,ad,ct,ev,-fAdd,-ybe]
   rw [e]
   refine ⟨ns++[n],ps2,by simp [ivs],D.trans d2.dd (by lia),?_⟩
   rw [List.range_succ,List.map_append]
   exact LL.snoc d2.dd.pre T) (by simp;exact Nat.le_trans (show N<=10000 by lia) (by decide))
 rw [List.length_map,List.length_range] at D LL
 exact ⟨ns,ps',h',by rw [c1,e1],D,LL⟩
theorem zgs (S:ShelfAt h p ps) (g:Good ps) (px:yaK x=true) (hx:x.length<=10000) (hz:ps.length+2*x.length<16000000) :
  ∃ (n:Nat) (ps':List Pc) (h':AH),yc4 [.ref p,.str x] h = .ok (.int n) h'/\Dd p h h' ps ps' (2*x.length)/\TxZ ps' n x:=by
 have sl:x.length<=sizeLine:=Nat.le_trans hx (by decide)
 have fp:=zgf x h sl
 rw [px] at fp
 have c1 : ¬ (10000:Int)<x.length:=by lia
 by_cases q:x.length=0
 ·have xe:x = "" := zaf (by rw [zad] at q;rw [List.length_eq_zero_iff.mp q];rfl)
  subst xe
  refine ⟨0,ps,h,?_,{ Dd.refl S g with len:=by lia },.inl ⟨rfl,rfl⟩⟩
  simp [yc4,fp,c1]
 ·obtain ⟨N,eN⟩:∃ N,N=(x.length-1) / 8+1:=⟨_,rfl⟩
  obtain ⟨ns,ps1,h1,e1,D1,LL⟩:=zfu S g px N (by lia) hx (by lia) ((List.range N).map λm:Nat=>AV.int (0+(m:Int)*8)) [0,1] [some (.ref p),some (.str x),none] rfl
  have z1:=D1.len
  have ln:ns.length=N:=by rw [LL.1];simp
  obtain ⟨n,ps2,h2,m,f,l,H,b1,b2,b3,_⟩:=zcS (p:=p) 20 11 D1.sh D1.gd LL (by lia) (by rw [ln];have:(2:Nat) ^ 11=2048:=rfl;lia) (by decide) (λi w ew hi=>by
   obtain ⟨iN,rfl⟩:=zec ew
   rw [List.length_map,List.length_range] at hi
   rw [zeb];lia) (by lia) (by lia)
  have rd:cat ((List.range N).map (ycU x))=x:=zaf (by rw [zdd,List.take_of_length_le (by rw [<- zad];lia)])
  rw [rd] at b3
  have ir:ycs (sLit (.int 0)) (yae fLen (yab (sVar 1) sNil)) (sLit (.int 8)) [some (.ref p),some (.str x),none] h = .ok ((List.range N).map (λm:Nat=>AV.int (0+(m:Int)*8)),none) h:=by
   have r1:((if (0:Int)<x.length then ((x.length:Int)-0-1) / 8+1 else 0:Int)).toNat=N:=by
    rw [if_pos (by lia)];lia
   have r2:(0:Int).natAbs<2 ^ 40/\(x.length:Int).natAbs<2 ^ 40/\(0:Int)<8/\(8:Int)<2 ^ 20:=⟨by decide,by lia,by decide,by decide⟩
   show (if _ then _ else _)=_
   rw [if_pos r2,r1]
  have cp:ybd [0,1] (ycs (sLit (.int 0)) (yae fLen (yab (sVar 1) sNil)) (sLit (.int 8))) sYes (yaj 0 yaH (sVar 1) (yab (sCut (sVar 2) (some (sVar 0)) (some (sOp2 fAdd (sVar 0) (sLit (.int 8))))) sNil)) [some (.ref p),some (.str x),none] h = .ok (.fl (ivs ns)) h1:=by
   simp only [ybd,ir,e1]
  have ne:fEq (.str x) (.str "") h = .ok (.bl false) h:=by
   have : ¬ x=Str.ofString "" := λz=>q (by rw [z];rfl)
   simp [this]
  refine ⟨n,ps2,h2,?_,D1.trans b2 (by lia),.inr ⟨_,_,_,b3⟩⟩
  unfold yc4
  generalize ybd [0,1] (ycs (sLit (.int 0)) (yae fLen (yab (sVar 1) sNil)) (sLit (.int 8))) sYes (yaj 0 yaH (sVar 1) (yab (sCut (sVar 2) (some (sVar 0)) (some (sOp2 fAdd (sVar 0) (sLit (.int 8))))) sNil))=CP at *
  generalize ybH 20=HV at *
  simp [fp,c1,ne,cp,b1,-fEq]
theorem zed (S:ShelfAt h p ps) (g:Good ps) (A:TxZ ps a x) (B:TxZ ps b y) (hm:x.length+y.length<=1000000000000000000) (hz:ps.length<15000000) :
  ∃ (n:Nat) (ps':List Pc) (h':AH),Dn (yaB [.ref p,.int a,.int b]) p h h' ps ps' (16*(max (htOf ps a) (htOf ps b)+1).toNat) n/\TxZ ps' n (x++y)/\htOf ps' n<=max (htOf ps a) (htOf ps b)+1:=by
 rcases A with ⟨rfl,rfl⟩ | ⟨ma,fa,la,A⟩
 ·obtain ⟨mb,eb,sb⟩:=B.meas
  have em:("" : Str)++y=y:=zaf (by rw [zae];rfl)
  have dv:Dn (yaB [.ref p,.int (0:Nat),.int b]) p h h ps ps 0 b:=Dn.val S g λhh pp S' _ pr=>jn_0 S' (zac pr eb) (by rw [sb];lia)
  exact ⟨b,ps,h,dv.as S g (λ_ _ _ _ _=>rfl) (Nat.zero_le _),by rw [em];exact B,by lia⟩
 ·rcases B with ⟨rfl,rfl⟩ | ⟨mb,fb,lb,B⟩
  ·have em:x++("" : Str)=x:=zaf (by rw [zae];simp;rfl)
   have dv:Dn (yaB [.ref p,.int a,.int (0:Nat)]) p h h ps ps 0 a:=Dn.val S g λhh pp S' _ pr=>jn_1 S' A.n1 (zac pr A.ms) A.ky.most
   exact ⟨a,ps,h,dv.as S g (λ_ _ _ _ _=>rfl) (Nat.zero_le _),by rw [em];exact .inr ⟨_,_,_,A⟩,by lia⟩
  ·have sa:=A.ky.sg
   have sb:=B.ky.sg
   have a0:=A.ky.ht
   have b0:=B.ky.ht
   have ha:=ht82 g A
   have hb:=ht82 g B
   rw [ybp A.ms,ybp B.ms]
   by_cases q:8<la.sg+fb.sg
   ·obtain ⟨n,ps',h',m,d,T,_,hu⟩:=zbk 90 (max ma.ht mb.ht).toNat S g A B q (by lia) (by lia) (by lia) (by lia)
    exact ⟨n,ps',h',d.as S g (λhh pp S' _ pr=>by rw [jn_2 S' A.n1 B.n1 (zac pr A.ms) (zac pr B.ms) (zac pr A.ky.ll) (zac pr B.ky.fl) (by lia),if_pos q]) (by lia),.inr ⟨_,_,_,T⟩,by rw [ybp T.ms];exact hu⟩
   ·obtain ⟨n,ps',h',m,f,l,d,T,hu⟩:=zeW S g A B q (by lia) hz
    exact ⟨n,ps',h',d.as S g (λhh pp S' _ pr=>by rw [jn_2 S' A.n1 B.n1 (zac pr A.ms) (zac pr B.ms) (zac pr A.ky.ll) (zac pr B.ky.fl) (by lia),if_neg q]) (by lia),.inr ⟨_,_,_,T⟩,by rw [ybp T.ms];exact hu⟩
def tkS (x:Str) (a:Nat):Str:=⟨(x.cps.toList.take a).toArray⟩
def dpS (x:Str) (a:Nat):Str:=⟨(x.cps.toList.drop a).toArray⟩
theorem ycj (x:Str) (a:Nat):(tkS x a).cps.toList=x.cps.toList.take a:=rfl
theorem ycB (x:Str) (a:Nat):(dpS x a).cps.toList=x.cps.toList.drop a:=rfl
theorem yeg (h:a<=x.length):(tkS x a).length=a:=by
 rw [zad] at *
 rw [ycj,List.length_take];lia
theorem ydl (x:Str) (a:Nat):(dpS x a).length=x.length-a:=by
 rw [zad,zad x,ycB,List.length_drop]
theorem tk_0 (x:Str):tkS x 0 = "" := zaf rfl
theorem dp_0 (x:Str):dpS x 0=x:=zaf rfl
theorem yh3 (h:x.length<=a):tkS x a=x:=zaf (by rw [ycj,List.take_of_length_le (by rw [<- zad];exact h)])
theorem yh4 (h:x.length<=a):dpS x a = "" := zaf (by rw [ycB,List.drop_of_length_le (by rw [<- zad];exact h)];rfl)
theorem tk_l (h:a<=x.length):tkS (x++y) a=tkS x a:=zaf (by rw [ycj,zae,ycj,List.take_append_of_le_length (by rw [<- zad];exact h)])
theorem tk_r (h:x.length<=a):tkS (x++y) a=x++tkS y (a-x.length):=zaf (by
 rw [ycj,zae,zae,ycj,List.take_append,List.take_of_length_le (by rw [<- zad];exact h),<- zad])
theorem dp_l (h:a<=x.length):dpS (x++y) a=dpS x a++y:=zaf (by rw [ycB,zae,zae,ycB,List.drop_append_of_le_length (by rw [<- zad];exact h)])
theorem dp_r (h:x.length<=a):dpS (x++y) a=dpS y (a-x.length):=zaf (by
 rw [ycB,zae,ycB,List.drop_append,List.drop_of_length_le (by rw [<- zad];exact h),<- zad];rfl)
theorem zi2 (h:yaK x=true) (a:Nat):yaK (tkS x a)=true:=by
 unfold yaK at *
 rw [ycj,List.all_eq_true]
 rw [List.all_eq_true] at h
 exact λc hc=>h c (List.mem_of_mem_take hc)
theorem zi3 (h:yaK x=true) (a:Nat):yaK (dpS x a)=true:=by
 unfold yaK at *
 rw [ycB,List.all_eq_true]
 rw [List.all_eq_true] at h
 exact λc hc=>h c (List.mem_of_mem_drop hc)
theorem ygq (h:AH):ybe (.str x) none (some (a:Int)) h = .ok (.str (tkS x a)) h:=by
 have:cutS x none (some (a:Int))=tkS x a:=zaf (by
  unfold cutS
  rw [HT.sIx_nat,HT.sIx_none,ycj]
  show (x.cps.toList.drop 0).take (min a x.cps.toList.length-0)=_
  rw [List.drop_zero,Nat.sub_zero]
  by_cases q:a<=x.cps.toList.length
  ·rw [Nat.min_eq_left q]
  ·rw [Nat.min_eq_right (by lia),List.take_length,List.take_of_length_le (by lia)])
 simp only [ybe,this]
theorem ygr (ha:a<=x.length) (h:AH):ybe (.str x) (some (a:Int)) none h = .ok (.str (dpS x a)) h:=by
 have:cutS x (some (a:Int)) none=dpS x a:=zaf (by
  unfold cutS
  rw [HT.sIx_nat,HT.sIx_none,ycB]
  rw [zad] at ha
  rw [Nat.min_eq_left ha]
  show (x.cps.toList.drop a).take (x.cps.toList.length-a)=_
  rw [List.take_of_length_le (by rw [List.length_drop];exact Nat.le_refl _)])
 simp only [ybe,this]
def cst (z:Int):Nat:=8*((z+1).toNat*(z+2).toNat)
theorem zeX {a b:Int} (h0:0<=b) (h:b<=a):cst b+16*(a+1+1).toNat<=cst (a+1):=by
 unfold cst
 obtain ⟨m,rfl⟩:=Int.eq_ofNat_of_zero_le h0
 obtain ⟨n,rfl⟩:=Int.eq_ofNat_of_zero_le (show 0<=a by lia)
 rw [show ((m:Int)+1).toNat=m+1 by lia,show ((m:Int)+2).toNat=m+2 by lia,show ((n:Int)+1+1).toNat=n+2 by lia,show ((n:Int)+1+2).toNat=n+3 by lia]
 have hmn:m<=n:=by lia
 have h1:(m+1)*(m+2)<=(n+1)*(n+2):=Nat.mul_le_mul (by lia) (by lia)
 have h2:(n+2)*(n+3)=(n+1)*(n+2)+2*(n+2):=by
  rw [Nat.mul_comm (n+1),<- Nat.mul_comm (n+2) 2,<- Nat.mul_add]
 lia
theorem zcT {a b:Int} (h:a<=b) (ha : -1<=a):cst a<=cst b:=by
 unfold cst
 exact Nat.mul_le_mul_left 8 (Nat.mul_le_mul (by lia) (by lia))
theorem ygR {a:Int} (h:a<=83) (h1 : -1<=a):cst a<=57120:=by
 have:=zcT h h1
 have:cst 83=57120:=by decide +kernel
 lia
theorem zbh (z:Str) (n:Nat):(repS z n).cps.toList=(List.replicate n z.cps.toList).flatten:=rfl
theorem zco (z:Str) (a b:Nat):repS z a++repS z b=repS z (a+b):=zaf (by rw [zae,zbh,zbh,zbh,<- List.flatten_append,List.replicate_append_replicate])
theorem zdD (z:Str):repS z 1=z:=zaf (by rw [zbh];simp)
theorem zcU (z:Str):repS z 0 = "" := zaf rfl
theorem zbG (z:Str):∀ n,(repS z n).length=z.length*n
 | 0=>by rw [zcU];rfl
 | n+1=>by rw [<- zco,zat,zbG z n,zdD,Nat.mul_succ]
theorem zgt:∀ n,repS "" n = ""
 | 0=>zcU _
 | n+1=>by
  rw [<- zco,zgt n,zdD]
  exact zaf (by rw [zae];rfl)
theorem db_0:ya1 (d+1) [.ref p,.int n,.int (0:Nat)] h = .ok (.int (0:Nat)) h:=by
 have z:fEq (.int 0) (.int 0) h = .ok (.bl true) h:=by simp
 simp [ya1,ydV,z,-fEq]
theorem db_1 {k:Nat} {a:Int} (hk : ¬ k=0) (hp:k % 2=0) (e1:ya1 d [.ref p,.int n,.int (k / 2:Nat)] h = .ok (.int a) h1):ya1 (d+1) [.ref p,.int n,.int k] h=yaB [.ref p,.int a,.int a] h1:=by
 have z:fEq (.int k) (.int 0) h = .ok (.bl false) h:=by simp [hk]
 have dv:fDiv (.int k) (.int 2) h = .ok (.int (k / 2:Nat)) h:=rfl
 have md:∀ h,fMod (.int k) (.int 2) h = .ok (.int 0) h:=λh=>by
  have:(k:Int) % 2=0:=by lia
  show Out.ok (AV.int ((k:Int) % 2)) h=_
  rw [this]
 have z2:∀ h,fEq (.int 0) (.int 0) h = .ok (.bl true) h:=λh=>by simp
 unfold ya1 ydV
 generalize hF:yaB [.ref p,.int a,.int a] h1=R
 generalize ((k / 2:Nat):Int)=K2 at *
 generalize ya1 d=G at *
 simp [z,dv,e1,hF,-fEq,-fDiv,-fMod]
 cases R with
 | ok v h2=>simp [md,z2,-fEq,-fMod]
 | ex c h2=>rfl
 | bad=>rfl
theorem db_2 {k:Nat} {a:Int} (hk : ¬ k=0) (hp : ¬ k % 2=0) (e1:ya1 d [.ref p,.int n,.int (k / 2:Nat)] h = .ok (.int a) h1):ya1 (d+1) [.ref p,.int n,.int k] h=(yaB [.ref p,.int a,.int a] h1).bind λv h2=>yaB [.ref p,v,.int n] h2:=by
 have z:fEq (.int k) (.int 0) h = .ok (.bl false) h:=by simp [hk]
 have dv:fDiv (.int k) (.int 2) h = .ok (.int (k / 2:Nat)) h:=rfl
 have md:∀ h,fMod (.int k) (.int 2) h = .ok (.int 1) h:=λh=>by
  have:(k:Int) % 2=1:=by lia
  show Out.ok (AV.int ((k:Int) % 2)) h=_
  rw [this]
 have z2:∀ h,fEq (.int 1) (.int 0) h = .ok (.bl false) h:=λh=>by simp
 unfold ya1 ydV
 generalize hF:yaB [.ref p,.int a,.int a] h1=R
 generalize ((k / 2:Nat):Int)=K2 at *
 generalize ya1 d=G at *
 simp [z,dv,e1,hF,-fEq,-fDiv,-fMod]
 cases R with
 | ok v h2 =>
  simp [md,z2,-fEq,-fMod]
  cases yaB [.ref p,v,.int n] h2<;>rfl
 | ex c h2=>rfl
 | bad=>rfl
theorem zcV (g:Good ps) (A:TxZ ps a x) (B:TxZ ps b y):16*(max (htOf ps a) (htOf ps b)+1).toNat<=1400:=by
 have key:∀ {n:Nat} {y:Str},TxZ ps n y->htOf ps n<=82:=λ{n y} t=>by
  rcases t with ⟨rfl,rfl⟩ | ⟨m,f,l,T⟩
  ·rw [zbF];lia
  ·rw [ybp T.ms];exact ht82 g T
 have:=key A
 have:=key B
 lia
theorem zee {p:Nat}:∀ (d e:Nat) {h:AH} {ps:List Pc} {n k:Nat} {x:Str},ShelfAt h p ps->Good ps->TxZ ps n x->k<2 ^ e->e<d->x.length*k<=1000000000000000000->ps.length+2800*e<15000000 ->
  ∃ (m:Nat) (ps':List Pc) (h':AH),Dn (ya1 d [.ref p,.int n,.int k]) p h h' ps ps' (2800*e) m/\TxZ ps' m (repS x k)
 | 0,e,h,ps,n,k,x,S,g,T,hk,hd,hm,hz=>absurd hd (Nat.not_lt_zero _)
 | d+1,e,h,ps,n,k,x,S,g,T,hk,hd,hm,hz=>by
  by_cases k0:k=0
  ·subst k0
   have dv:Dn (ya1 (d+1) [.ref p,.int n,.int (0:Nat)]) p h h ps ps 0 0:=Dn.val S g λhh pp S' _ pr=>db_0
   exact ⟨0,ps,h,dv.as S g (λ_ _ _ _ _=>rfl) (Nat.zero_le _),.inl ⟨rfl,zcU x⟩⟩
  ·obtain ⟨e',rfl⟩:∃ e',e=e'+1:=by
    cases e with
    | zero=>simp at hk;lia
    | succ e' => exact ⟨e',rfl⟩
   rw [Nat.pow_succ] at hk
   have kk:x.length*(k / 2)+x.length*(k / 2)+x.length*(k % 2)=x.length*k:=by
    rw [<- Nat.mul_add,<- Nat.mul_add]
    congr 1
    lia
   obtain ⟨a,ps1,h1,d1,T1⟩:=zee d e' (k:=k / 2) S g T (by lia) (by lia) (by lia) (by lia)
   have z1:=d1.dd.len
   have l1:=zbG x (k / 2)
   obtain ⟨b,ps2,h2,d2,T2⟩:=zcR d1.dd.sh d1.dd.gd T1 T1 (by lia) (by lia)
   have w2:=zcV d1.dd.gd T1 T1
   have z2:=d2.dd.len
   rw [zco] at T2
   by_cases hp:k % 2=0
   ·have ek:k / 2+k / 2=k:=by lia
    rw [ek] at T2
    exact ⟨b,ps2,h2,Dn.seq' S g d1 d2 (λhh hh1 pp S' _ pr ev=>db_1 k0 hp ev) (by lia),T2⟩
   ·have l2:=zbG x (k / 2+k / 2)
    rw [Nat.mul_add] at l2
    have km:x.length*(k % 2)=x.length:=by rw [show k % 2=1 by lia,Nat.mul_one]
    have p12:=d1.dd.pre.trans d2.dd.pre
    obtain ⟨c,ps3,h3,d3,T3⟩:=zcR d2.dd.sh d2.dd.gd T2 (T.pre p12) (by lia) (by lia)
    have w3:=zcV d2.dd.gd T2 (T.pre p12)
    have ek:repS x (k / 2+k / 2)++x=repS x k:=by
     conv=>lhs;rhs;rw [<- zdD x]
     rw [zco]
     congr 1
     lia
    rw [ek] at T3
    have d23:=Dn.seq (F:=λhh=>(yaB [.ref p,.int a,.int a] hh).bind λv h2=>yaB [.ref p,v,.int n] h2) (F2:=λv h2=>yaB [.ref p,v,.int n] h2) d1.dd.sh d1.dd.gd d2 d3 (λ_ _ _ _ _=>rfl) (k:=2800) (by lia)
    exact ⟨c,ps3,h3,Dn.seq' S g d1 d23 (λhh hh1 pp S' _ pr ev=>db_2 k0 hp ev) (by lia),T3⟩
theorem ygS {k:Nat} {m:Ms} (S:ShelfAt h p ps) (em:(meas ps)[n]? = some m) (hk:k<2 ^ 63) (hm:m.sg*k<=1000000000000000000):yb4 [.ref p,.int n,.int k] h=if n=0 then .ok (.int (0:Nat)) h else ya1 64 [.ref p,.int n,.int k] h:=by
 have fs:=zah S em
 have lt:fLt (.int k) (.int 0) h = .ok (.bl false) h:=by
  have : ¬ (k:Int)<0:=by lia
  simp only [fLt,this,decide_false]
 have ml:fMul (.int m.sg) (.int k) h = .ok (.int ((m.sg*k:Nat):Int)) h:=by
  have h2:(k:Int).natAbs<2 ^ 64:=by
   have:(2:Nat) ^ 63<2 ^ 64:=by decide
   lia
  rw [yfC h2];congr 2
 have ck:=zaW (i:=((m.sg*k:Nat):Int)) (by lia) h
 unfold yb4
 generalize ya1 64=G at *
 generalize ((m.sg*k:Nat):Int)=MK at *
 by_cases z:n=0
 ·subst z
  have z0:fEq (.int 0) (.int 0) h = .ok (.bl true) h:=by simp
  have fs':yay [.ref p,.int 0] h = .ok (.int m.sg) h:=fs
  simp [S.ob,fs',lt,ml,ck,z0,-fLt,-fMul,-fEq]
 ·have z0:fEq (.int n) (.int 0) h = .ok (.bl false) h:=by simp [z]
  rw [if_neg z]
  generalize hR:G [.ref p,.int n,.int k] h=R
  simp [S.ob,fs,lt,ml,ck,z0,hR,-fLt,-fMul,-fEq]
  cases R<;>rfl
theorem zg2 {k:Nat} (S:ShelfAt h p ps) (g:Good ps) (T:TxZ ps n x) (hk:k<2 ^ e) (he:e<62) (hm:x.length*k<=1000000000000000000) (hz:ps.length+2800*e<15000000) :
  ∃ (m:Nat) (ps':List Pc) (h':AH),Dn (yb4 [.ref p,.int n,.int k]) p h h' ps ps' (2800*e) m/\TxZ ps' m (repS x k):=by
 obtain ⟨m,em,sm⟩:=T.meas
 have k63:k<2 ^ 63:=Nat.lt_of_lt_of_le hk (Nat.pow_le_pow_right (by decide) (by lia))
 by_cases z:n=0
 ·rcases T with ⟨_,rfl⟩ | ⟨_,_,_,T⟩
  ·have dv:Dn (yb4 [.ref p,.int n,.int k]) p h h ps ps 0 0:=Dn.val S g λhh pp S' _ pr=>by rw [ygS S' (zac pr em) k63 (by rw [sm];exact hm),if_pos z]
   exact ⟨0,ps,h,dv.as S g (λ_ _ _ _ _=>rfl) (Nat.zero_le _),.inl ⟨rfl,zgt k⟩⟩
  ·exact absurd T.n1 (by lia)
 ·obtain ⟨c,ps',h',d,T'⟩:=zee 64 e S g T hk (by lia) hm hz
  exact ⟨c,ps',h',d.as S g (λhh pp S' _ pr=>by rw [ygS S' (zac pr em) k63 (by rw [sm];exact hm),if_neg z]) (Nat.le_refl _),T'⟩
theorem zbH (t:TxZ ps n y) : -1<=htOf ps n:=by
 rcases t with ⟨rfl,rfl⟩ | ⟨m,f,l,T⟩
 ·rw [zbF];lia
 ·rw [ybp T.ms];have:=T.ky.ht;lia
theorem TxZ.pos (t:TxZ ps n y) (hy:1<=y.length):∃ m f l,Tx ps n m y f l:=by
 rcases t with ⟨rfl,rfl⟩ | t
 ·exact absurd hy (by decide)
 ·exact t
theorem fr_0:yaE (d+1) [.ref p,.int n,.int (0:Nat)] h = .ok (.int (0:Nat)) h:=by
 have z:fEq (.int 0) (.int 0) h = .ok (.bl true) h:=by simp
 simp [yaE,yb5,z,-fEq]
theorem yh5 {m:Ms} (S:ShelfAt h p ps) (em:(meas ps)[n]? = some m) (a0 : ¬ a=0) (ea:a=m.sg):yaE (d+1) [.ref p,.int n,.int a] h = .ok (.int n) h:=by
 have z:fEq (.int a) (.int 0) h = .ok (.bl false) h:=by simp [a0]
 have fs:=zah S em
 rw [<- ea] at fs
 have z2:fEq (.int a) (.int a) h = .ok (.bl true) h:=by simp
 simp [yaE,yb5,z,S.ob,fs,z2,-fEq]
theorem zkg {m:Ms} (S:ShelfAt h p ps) (n1:1<=n) (em:(meas ps)[n]? = some m) (ep:ps[n-1]? = some (.leaf x)) (a0 : ¬ a=0) (ea : ¬ a=m.sg):yaE (d+1) [.ref p,.int n,.int a] h=yaH [.ref p,.str (tkS x a)] h:=by
 have z:fEq (.int a) (.int 0) h = .ok (.bl false) h:=by simp [a0]
 have fs:=zah S em
 have z2:fEq (.int a) (.int m.sg) h = .ok (.bl false) h:=by
  have : ¬ (a:Int)=m.sg:=by lia
  simp [this]
 have ct:=ygq (x:=x) (a:=a) h
 generalize hF:yaH [.ref p,.str (tkS x a)] h=R
 simp [yaE,yb5,z,S.ob,fs,z2,zbg S n1 ep,i0L,eqL,i1L,ct,hF,-fEq,-fIx,-ybe]
 cases R<;>first | rfl | simp
theorem fr_l {m:Ms} (S:ShelfAt h p ps) (n1:1<=n) (em:(meas ps)[n]? = some m) (ec:(meas ps)[c]? = some mc) (ep:ps[n-1]? = some (.fork c e)) (a0 : ¬ a=0) (ea : ¬ a=m.sg) (hl:a<=mc.sg):yaE (d+1) [.ref p,.int n,.int a] h=yaE d [.ref p,.int c,.int a] h:=by
 have z:fEq (.int a) (.int 0) h = .ok (.bl false) h:=by simp [a0]
 have fs:=zah S em
 have fc:=zah S ec
 have z2:fEq (.int a) (.int m.sg) h = .ok (.bl false) h:=by
  have : ¬ (a:Int)=m.sg:=by lia
  simp [this]
 have le:fLe (.int a) (.int mc.sg) h = .ok (.bl true) h:=by simp [hl]
 show yb5 (yaE d) [.ref p,.int n,.int a] h=yaE d [.ref p,.int c,.int a] h
 generalize yaE d=G at *
 unfold yb5
 generalize hF:G [.ref p,.int c,.int a] h=R
 simp [z,S.ob,fs,fc,z2,zaz S n1 ep,i0F,eqF,i1,le,hF,-fEq,-fIx,-fLe]
 cases R<;>first | rfl | simp
theorem fr_r {m:Ms} (S:ShelfAt h p ps) (n1:1<=n) (em:(meas ps)[n]? = some m) (ec:(meas ps)[c]? = some mc) (ep:ps[n-1]? = some (.fork c e)) (a0 : ¬ a=0) (ea : ¬ a=m.sg) (hl : ¬ a<=mc.sg) (ev:yaE d [.ref p,.int e,.int (a-mc.sg:Nat)] h = .ok (.int v) h1) :
  yaE (d+1) [.ref p,.int n,.int a] h=yaB [.ref p,.int c,.int v] h1:=by
 have z:fEq (.int a) (.int 0) h = .ok (.bl false) h:=by simp [a0]
 have fs:=zah S em
 have fc:=zah S ec
 have z2:fEq (.int a) (.int m.sg) h = .ok (.bl false) h:=by
  have : ¬ (a:Int)=m.sg:=by lia
  simp [this]
 have le:fLe (.int a) (.int mc.sg) h = .ok (.bl false) h:=by
  simp;lia
 have sb:fSub (.int a) (.int mc.sg) h = .ok (.int (a-mc.sg:Nat)) h:=by
  have:(a:Int)-mc.sg=((a-mc.sg:Nat):Int):=by lia
  rw [<- this];rfl
 unfold yaE yb5
 generalize yaE d=G at *
 generalize ((a-mc.sg:Nat):Int)=AM at *
 generalize hF:yaB [.ref p,.int c,.int v] h1=R
 simp [z,S.ob,fs,fc,z2,zaz S n1 ep,i0F,eqF,i1,i2,le,sb,ev,hF,-fEq,-fIx,-fLe,-fSub]
 cases R<;>first | rfl | simp
theorem zdE {p:Nat}:∀ (d:Nat) {h:AH} {ps:List Pc} {n a:Nat} {x:Str},ShelfAt h p ps->Good ps->TxZ ps n x->a<=x.length->(htOf ps n).toNat<d->ps.length+cst (htOf ps n)<14900000 ->
  ∃ (r:Nat) (ps':List Pc) (h':AH),Dn (yaE d [.ref p,.int n,.int a]) p h h' ps ps' (cst (htOf ps n)) r/\TxZ ps' r (tkS x a)/\htOf ps' r<=htOf ps n+1
 | 0,h,ps,n,a,x,S,g,T,ha,hd,hz=>absurd hd (Nat.not_lt_zero _)
 | d+1,h,ps,n,a,x,S,g,T,ha,hd,hz=>by
  have hge:=zbH T
  by_cases a0:a=0
  ·subst a0
   have dv:Dn (yaE (d+1) [.ref p,.int n,.int (0:Nat)]) p h h ps ps 0 0:=Dn.val S g λhh pp S' _ pr=>fr_0
   exact ⟨0,ps,h,dv.as S g (λ_ _ _ _ _=>rfl) (Nat.zero_le _),.inl ⟨rfl,tk_0 x⟩,by rw [zbF];lia⟩
  ·obtain ⟨m,f,l,T1⟩:=T.pos (by lia)
   have sg:=T1.ky.sg
   by_cases ea:a=m.sg
   ·have dv:Dn (yaE (d+1) [.ref p,.int n,.int a]) p h h ps ps 0 n:=Dn.val S g λhh pp S' _ pr=>yh5 S' (zac pr T1.ms) a0 ea
    exact ⟨n,ps,h,dv.as S g (λ_ _ _ _ _=>rfl) (Nat.zero_le _),by rw [yh3 (by lia)];exact T,by lia⟩
   ·rw [ybp T1.ms] at hd hz hge ⊢
    rcases g.kind T1 with ⟨e1,e2,e3,e4,e5⟩ | ⟨_,_,mx,my,_,_,_,_,_,_,_,_,_,X,Y,_,e5,_⟩
    ·have lt:=yeg ha
     obtain ⟨r,ps',h',d1,L⟩:=zcm S g (x:=tkS x a) (by
      unfold yby
      rw [zi2 T1.ky.pl,lt]
      simp;lia) (by lia)
     refine ⟨r,ps',h',d1.as S g (λhh pp S' _ pr=>zkg S' T1.n1 (zac pr T1.ms) (yaZ pr e1) a0 ea) (by rw [e2];decide),.inr ⟨_,_,_,L⟩,by rw [ybp L.ms,e2];show (0:Int)<=0+1;decide⟩
    ·have hpos:0<m.ht:=by
      have:=congrArg Ms.ht e5
      rw [fmH] at this
      have:=X.ky.ht
      lia
     obtain ⟨c,e,mc,me,y1,y2,lc,fe,ep,C,E,rfl,em,w1,w2,w3⟩:=g.cut T1 hpos
     have hh:m.ht=max mc.ht me.ht+1:=by rw [em];rfl
     have c0:=C.ky.ht
     have e0:=E.ky.ht
     have sc:=C.ky.sg
     have se:=E.ky.sg
     have la:=zat y1 y2
     by_cases hl:a<=mc.sg
     ·have hc1:htOf ps c=mc.ht:=ybp C.ms
      have cm:=zcT (a:=mc.ht) (b:=m.ht) (by lia) (by lia)
      obtain ⟨r,ps',h',d1,T',q1⟩:=zdE d (n:=c) (a:=a) (x:=y1) S g (.inr ⟨_,_,_,C⟩) (by lia) (by rw [hc1];lia) (by rw [hc1];lia)
      rw [hc1] at d1 q1
      exact ⟨r,ps',h',d1.as S g (λhh pp S' _ pr=>fr_l S' T1.n1 (zac pr T1.ms) (zac pr C.ms) (yaZ pr ep) a0 ea hl) cm,by rw [tk_l (by lia)];exact T',by lia⟩
     ·have he1:htOf ps e=me.ht:=ybp E.ms
      have cs:=zeX (a:=m.ht-1) (b:=me.ht) e0 (by lia)
      rw [show m.ht-1+1=m.ht by lia] at cs
      obtain ⟨r,ps1,h1,d1,T',q1⟩:=zdE d (n:=e) (a:=a-mc.sg) (x:=y2) S g (.inr ⟨_,_,_,E⟩) (by lia) (by rw [he1];lia) (by rw [he1];lia)
      rw [he1] at d1 q1
      have z1:=d1.dd.len
      have lt:=yeg (x:=y2) (a:=a-mc.sg) (by lia)
      have most:=T1.ky.most
      have C':TxZ ps1 c y1:=.inr ⟨_,_,_,C.pre d1.dd.pre⟩
      have hc2:htOf ps1 c=mc.ht:=ybp (C.pre d1.dd.pre).ms
      obtain ⟨s,ps2,h2,d2,T2,q2⟩:=zed d1.dd.sh d1.dd.gd C' T' (by lia) (by lia)
      have hr:=zbH T'
      refine ⟨s,ps2,h2,Dn.seq' S g d1 d2 (λhh hh1 pp S' _ pr ev=>fr_r S' T1.n1 (zac pr T1.ms) (zac pr C.ms) (yaZ pr ep) a0 ea hl ev) (by lia),?_,by lia⟩
      rw [tk_r (by lia),<- sc]
      exact T2
theorem bk_0:yaJ (d+1) [.ref p,.int n,.int (0:Nat)] h = .ok (.int n) h:=by
 have z:fEq (.int 0) (.int 0) h = .ok (.bl true) h:=by simp
 simp [yaJ,ych,z,-fEq]
theorem yh6 {m:Ms} (S:ShelfAt h p ps) (em:(meas ps)[n]? = some m) (a0 : ¬ a=0) (ea:a=m.sg):yaJ (d+1) [.ref p,.int n,.int a] h = .ok (.int (0:Nat)) h:=by
 have z:fEq (.int a) (.int 0) h = .ok (.bl false) h:=by simp [a0]
 have fs:=zah S em
 rw [<- ea] at fs
 have z2:fEq (.int a) (.int a) h = .ok (.bl true) h:=by simp
 simp [yaJ,ych,z,S.ob,fs,z2,-fEq]
theorem zkh {m:Ms} (S:ShelfAt h p ps) (n1:1<=n) (em:(meas ps)[n]? = some m) (ep:ps[n-1]? = some (.leaf x)) (ax:a<=x.length) (a0 : ¬ a=0) (ea : ¬ a=m.sg):yaJ (d+1) [.ref p,.int n,.int a] h=yaH [.ref p,.str (dpS x a)] h:=by
 have z:fEq (.int a) (.int 0) h = .ok (.bl false) h:=by simp [a0]
 have fs:=zah S em
 have z2:fEq (.int a) (.int m.sg) h = .ok (.bl false) h:=by
  have : ¬ (a:Int)=m.sg:=by lia
  simp [this]
 have ct:=ygr (x:=x) ax h
 generalize hF:yaH [.ref p,.str (dpS x a)] h=R
 simp [yaJ,ych,z,S.ob,fs,z2,zbg S n1 ep,i0L,eqL,i1L,ct,hF,-fEq,-fIx,-ybe]
 cases R<;>first | rfl | simp
theorem bk_r {m:Ms} (S:ShelfAt h p ps) (n1:1<=n) (em:(meas ps)[n]? = some m) (ec:(meas ps)[c]? = some mc) (ep:ps[n-1]? = some (.fork c e)) (a0 : ¬ a=0) (ea : ¬ a=m.sg) (hl:mc.sg<=a):yaJ (d+1) [.ref p,.int n,.int a] h=yaJ d [.ref p,.int e,.int (a-mc.sg:Nat)] h:=by
 have z:fEq (.int a) (.int 0) h = .ok (.bl false) h:=by simp [a0]
 have fs:=zah S em
 have fc:=zah S ec
 have z2:fEq (.int a) (.int m.sg) h = .ok (.bl false) h:=by
  have : ¬ (a:Int)=m.sg:=by lia
  simp [this]
 have le:fGe (.int a) (.int mc.sg) h = .ok (.bl true) h:=by simp [hl]
 have sb:fSub (.int a) (.int mc.sg) h = .ok (.int (a-mc.sg:Nat)) h:=by
  have:(a:Int)-mc.sg=((a-mc.sg:Nat):Int):=by lia
  rw [<- this];rfl
 show ych (yaJ d) [.ref p,.int n,.int a] h=yaJ d [.ref p,.int e,.int (a-mc.sg:Nat)] h
 generalize yaJ d=G at *
 unfold ych
 generalize ((a-mc.sg:Nat):Int)=AM at *
 generalize hF:G [.ref p,.int e,.int AM] h=R
 simp [z,S.ob,fs,fc,z2,zaz S n1 ep,i0F,eqF,i1,i2,le,sb,hF,-fEq,-fIx,-fGe,-fSub]
 cases R<;>first | rfl | simp
theorem bk_l {m:Ms} (S:ShelfAt h p ps) (n1:1<=n) (em:(meas ps)[n]? = some m) (ec:(meas ps)[c]? = some mc) (ep:ps[n-1]? = some (.fork c e)) (a0 : ¬ a=0) (ea : ¬ a=m.sg) (hl : ¬ mc.sg<=a) (ev:yaJ d [.ref p,.int c,.int a] h = .ok (.int v) h1) :
  yaJ (d+1) [.ref p,.int n,.int a] h=yaB [.ref p,.int v,.int e] h1:=by
 have z:fEq (.int a) (.int 0) h = .ok (.bl false) h:=by simp [a0]
 have fs:=zah S em
 have fc:=zah S ec
 have z2:fEq (.int a) (.int m.sg) h = .ok (.bl false) h:=by
  have : ¬ (a:Int)=m.sg:=by lia
  simp [this]
 have le:fGe (.int a) (.int mc.sg) h = .ok (.bl false) h:=by
  simp;lia
 unfold yaJ ych
 generalize yaJ d=G at *
 generalize hF:yaB [.ref p,.int v,.int e] h1=R
 simp [z,S.ob,fs,fc,z2,zaz S n1 ep,i0F,eqF,i1,i2,le,ev,hF,-fEq,-fIx,-fGe]
 cases R<;>first | rfl | simp
theorem yfD {p:Nat}:∀ (d:Nat) {h:AH} {ps:List Pc} {n a:Nat} {x:Str},ShelfAt h p ps->Good ps->TxZ ps n x->a<=x.length->(htOf ps n).toNat<d->ps.length+cst (htOf ps n)<14900000 ->
  ∃ (r:Nat) (ps':List Pc) (h':AH),Dn (yaJ d [.ref p,.int n,.int a]) p h h' ps ps' (cst (htOf ps n)) r/\TxZ ps' r (dpS x a)/\htOf ps' r<=htOf ps n+1
 | 0,h,ps,n,a,x,S,g,T,ha,hd,hz=>absurd hd (Nat.not_lt_zero _)
 | d+1,h,ps,n,a,x,S,g,T,ha,hd,hz=>by
  have hge:=zbH T
  by_cases a0:a=0
  ·subst a0
   have dv:Dn (yaJ (d+1) [.ref p,.int n,.int (0:Nat)]) p h h ps ps 0 n:=Dn.val S g λhh pp S' _ pr=>bk_0
   exact ⟨n,ps,h,dv.as S g (λ_ _ _ _ _=>rfl) (Nat.zero_le _),by rw [dp_0];exact T,by lia⟩
  ·obtain ⟨m,f,l,T1⟩:=T.pos (by lia)
   have sg:=T1.ky.sg
   by_cases ea:a=m.sg
   ·have dv:Dn (yaJ (d+1) [.ref p,.int n,.int a]) p h h ps ps 0 0:=Dn.val S g λhh pp S' _ pr=>yh6 S' (zac pr T1.ms) a0 ea
    exact ⟨0,ps,h,dv.as S g (λ_ _ _ _ _=>rfl) (Nat.zero_le _),.inl ⟨rfl,yh4 (by lia)⟩,by rw [zbF];lia⟩
   ·rw [ybp T1.ms] at hd hz hge ⊢
    rcases g.kind T1 with ⟨e1,e2,e3,e4,e5⟩ | ⟨_,_,mx,my,_,_,_,_,_,_,_,_,_,X,Y,_,e5,_⟩
    ·have lt:=ydl x a
     obtain ⟨r,ps',h',d1,L⟩:=zcm S g (x:=dpS x a) (by
      unfold yby
      rw [zi3 T1.ky.pl,lt]
      simp;lia) (by lia)
     refine ⟨r,ps',h',d1.as S g (λhh pp S' _ pr=>zkh S' T1.n1 (zac pr T1.ms) (yaZ pr e1) ha a0 ea) (by rw [e2];decide),.inr ⟨_,_,_,L⟩,by rw [ybp L.ms,e2];show (0:Int)<=0+1;decide⟩
    ·have hpos:0<m.ht:=by
      have:=congrArg Ms.ht e5
      rw [fmH] at this
      have:=X.ky.ht
      lia
     obtain ⟨c,e,mc,me,y1,y2,lc,fe,ep,C,E,rfl,em,w1,w2,w3⟩:=g.cut T1 hpos
     have hh:m.ht=max mc.ht me.ht+1:=by rw [em];rfl
     have c0:=C.ky.ht
     have e0:=E.ky.ht
     have sc:=C.ky.sg
     have se:=E.ky.sg
     have la:=zat y1 y2
     by_cases hl:mc.sg<=a
     ·have he1:htOf ps e=me.ht:=ybp E.ms
      have cm:=zcT (a:=me.ht) (b:=m.ht) (by lia) (by lia)
      obtain ⟨r,ps',h',d1,T',q1⟩:=yfD d (n:=e) (a:=a-mc.sg) (x:=y2) S g (.inr ⟨_,_,_,E⟩) (by lia) (by rw [he1];lia) (by rw [he1];lia)
      rw [he1] at d1 q1
      refine ⟨r,ps',h',d1.as S g (λhh pp S' _ pr=>bk_r S' T1.n1 (zac pr T1.ms) (zac pr C.ms) (yaZ pr ep) a0 ea hl) cm,?_,by lia⟩
      rw [dp_r (by lia),<- sc]
      exact T'
     ·have hc1:htOf ps c=mc.ht:=ybp C.ms
      have cs:=zeX (a:=m.ht-1) (b:=mc.ht) c0 (by lia)
      rw [show m.ht-1+1=m.ht by lia] at cs
      obtain ⟨r,ps1,h1,d1,T',q1⟩:=yfD d (n:=c) (a:=a) (x:=y1) S g (.inr ⟨_,_,_,C⟩) (by lia) (by rw [hc1];lia) (by rw [hc1];lia)
      rw [hc1] at d1 q1
      have z1:=d1.dd.len
      have lt:=ydl y1 a
      have most:=T1.ky.most
      have E':TxZ ps1 e y2:=.inr ⟨_,_,_,E.pre d1.dd.pre⟩
      have he2:htOf ps1 e=me.ht:=ybp (E.pre d1.dd.pre).ms
      obtain ⟨s,ps2,h2,d2,T2,q2⟩:=zed d1.dd.sh d1.dd.gd T' E' (by lia) (by lia)
      have hr:=zbH T'
      refine ⟨s,ps2,h2,Dn.seq' S g d1 d2 (λhh hh1 pp S' _ pr ev=>bk_l S' T1.n1 (zac pr T1.ms) (zac pr C.ms) (yaZ pr ep) a0 ea hl ev) (by lia),?_,by lia⟩
      rw [dp_l (by lia)]
      exact T2
theorem htZ (g:Good ps) (t:TxZ ps n x) : -1<=htOf ps n/\htOf ps n<=82:=by
 refine ⟨zbH t,?_⟩
 rcases t with ⟨rfl,rfl⟩ | ⟨m,f,l,T⟩
 ·rw [zbF];lia
 ·rw [ybp T.ms];exact ht82 g T
theorem zeY (S:ShelfAt h p ps) (g:Good ps) (T:TxZ ps n x) (ha:a<=x.length) (hz:ps.length<14000000) :
  ∃ (r:Nat) (ps':List Pc) (h':AH),yaE 90 [.ref p,.int n,.int a] h = .ok (.int r) h'/\Dd p h h' ps ps' 57120/\TxZ ps' r (tkS x a):=by
 have b:=htZ g T
 have c:=ygR (a:=htOf ps n) (by lia) b.1
 obtain ⟨r,ps',h',d,T',_⟩:=zdE (p:=p) 90 (a:=a) S g T ha (by lia) (by lia)
 exact ⟨r,ps',h',d.ev,{ d.dd with len:=Nat.le_trans d.dd.len (Nat.add_le_add_left c _) },T'⟩
theorem zgu (S:ShelfAt h p ps) (g:Good ps) (T:TxZ ps n x) (ha:a<=x.length) (hz:ps.length<14000000) :
  ∃ (r:Nat) (ps':List Pc) (h':AH),yaJ 90 [.ref p,.int n,.int a] h = .ok (.int r) h'/\Dd p h h' ps ps' 57120/\TxZ ps' r (dpS x a):=by
 have b:=htZ g T
 have c:=ygR (a:=htOf ps n) (by lia) b.1
 obtain ⟨r,ps',h',d,T',_⟩:=yfD (p:=p) 90 (a:=a) S g T ha (by lia) (by lia)
 exact ⟨r,ps',h',d.ev,{ d.dd with len:=Nat.le_trans d.dd.len (Nat.add_le_add_left c _) },T'⟩
theorem zcp (S:ShelfAt h p ps) (g:Good ps) (A:TxZ ps a x) (B:TxZ ps b y) (hm:x.length+y.length<=1000000000000000000) (hz:ps.length<15000000) :
  ∃ (n:Nat) (ps':List Pc) (h':AH),yaB [.ref p,.int a,.int b] h = .ok (.int n) h'/\Dd p h h' ps ps' 1400/\TxZ ps' n (x++y):=by
 obtain ⟨n,ps',h',d,T⟩:=zcR S g A B hm hz
 exact ⟨n,ps',h',d.ev,{ d.dd with len:=Nat.le_trans d.dd.len (Nat.add_le_add_left (zcV g A B) _) },T⟩
theorem zef {m:Ms} (S:ShelfAt h p ps) (em:(meas ps)[n]? = some m) (be:b<=e) (hm:e<=m.sg):ybT [.ref p,.int n,.int b,.int e] h = .ok .non h:=by
 have fs:=zah S em
 have l1:fLe (.int 0) (.int b) h = .ok (.bl true) h:=by
  have:(0:Int)<=b:=by lia
  simp only [fLe,this,decide_true]
 have l2:fLe (.int b) (.int e) h = .ok (.bl true) h:=by
  have:(b:Int)<=e:=by lia
  simp only [fLe,this,decide_true]
 have l3:fLe (.int e) (.int m.sg) h = .ok (.bl true) h:=by
  have:(e:Int)<=m.sg:=by lia
  simp only [fLe,this,decide_true]
 simp [ybT,S.ob,fs,l1,l2,l3,-fLe]
theorem zki {t:Nat} {m:Ms} (S:ShelfAt h p ps) (em:(meas ps)[n]? = some m) (hm:t<=m.sg):ydh [.ref p,.int n,.int t] h = .ok .non h:=by
 have fs:=zah S em
 have l1:fLe (.int 0) (.int t) h = .ok (.bl true) h:=by
  have:(0:Int)<=t:=by lia
  simp only [fLe,this,decide_true]
 have l2:fLe (.int t) (.int m.sg) h = .ok (.bl true) h:=by
  have:(t:Int)<=m.sg:=by lia
  simp only [fLe,this,decide_true]
 simp [ydh,S.ob,fs,l1,l2,-fLe]
theorem zi4 (S:ShelfAt h p ps) (g:Good ps) (T:TxZ ps n x) (be:b<=e) (ex:e<=x.length) (hx:x.length<=1000000000000000000) (hz:ps.length<13000000) :
  ∃ (r:Nat) (ps':List Pc) (h':AH),ycz [.ref p,.int n,.int b,.int e] h = .ok (.int r) h'/\Dd p h h' ps ps' 120000/\TxZ ps' r (tkS x b++dpS x e):=by
 obtain ⟨m,em,sm⟩:=T.meas
 have ck:=zef S em be (by lia)
 obtain ⟨r1,ps1,h1,e1,D1,T1⟩:=zeY (a:=b) S g T (by lia) (by lia)
 have z1:=D1.len
 obtain ⟨r2,ps2,h2,e2,D2,T2⟩:=zgu (a:=e) D1.sh D1.gd (T.pre D1.pre) ex (by lia)
 have z2:=D2.len
 have l1:=yeg (x:=x) (a:=b) (by lia)
 have l2:=ydl x e
 obtain ⟨r,ps3,h3,e3,D3,T3⟩:=zcp D2.sh D2.gd (T1.pre D2.pre) T2 (by lia) (by lia)
 refine ⟨r,ps3,h3,?_,(D1.trans D2 (Nat.le_refl _)).trans D3 (by lia),T3⟩
 unfold ycz
 generalize yaE 90=FF at *
 generalize yaJ 90=FB at *
 simp [ck,e1,e2,e3]
theorem yh7 {t:Nat} (S:ShelfAt h p ps) (g:Good ps) (A:TxZ ps a x) (B:TxZ ps b y) (tx:t<=x.length) (hx:x.length+y.length<=1000000000000000000) (hz:ps.length<13000000) :
  ∃ (r:Nat) (ps':List Pc) (h':AH),ydI [.ref p,.int a,.int t,.int b] h = .ok (.int r) h'/\Dd p h h' ps ps' 120000/\TxZ ps' r ((tkS x t++y)++dpS x t):=by
 obtain ⟨ma,ema,sma⟩:=A.meas
 obtain ⟨mb,emb,smb⟩:=B.meas
 have ck:=zki S ema (show t<=ma.sg by lia)
 have f1:=zah S ema
 have f2:=zah S emb
 have lk:=zaW (i:=(ma.sg:Int)+mb.sg) (by lia) h
 obtain ⟨r1,ps1,h1,e1,D1,T1⟩:=zeY (a:=t) S g A tx (by lia)
 have z1:=D1.len
 have l1:=yeg tx
 obtain ⟨r2,ps2,h2,e2,D2,T2⟩:=zcp D1.sh D1.gd T1 (B.pre D1.pre) (by lia) (by lia)
 have z2:=D2.len
 have l2:=zat (tkS x t) y
 obtain ⟨r3,ps3,h3,e3,D3,T3⟩:=zgu (a:=t) D2.sh D2.gd (A.pre (D1.pre.trans D2.pre)) tx (by lia)
 have z3:=D3.len
 have l3:=ydl x t
 obtain ⟨r,ps4,h4,e4,D4,T4⟩:=zcp D3.sh D3.gd (T2.pre D3.pre) T3 (by lia) (by lia)
 refine ⟨r,ps4,h4,?_,((D1.trans D2 (Nat.le_refl _)).trans D3 (Nat.le_refl _)).trans D4 (by lia),T4⟩
 have ob:=S.ob
 unfold ydI
 generalize yaE 90=FF at *
 generalize yaJ 90=FB at *
 simp [ob,f1,f2,ck,lk,e1,e2,e3,e4]
theorem zkj (c k:Int) (h:AH):∃ m,ydf [.int c,.int k] h = .ok (.int m) h:=by
 have b1:0<=(c % 1000000007+7919*k+101)*48271 % 2147483647:=Int.emod_nonneg _ (by decide)
 have b2:(c % 1000000007+7919*k+101)*48271 % 2147483647<2147483647:=Int.emod_lt_of_pos _ (by decide)
 refine ⟨(c % 1000000007+7919*k+101)*48271 % 2147483647*((c % 1000000007+7919*k+101)*48271 % 2147483647) % 2147483629*69621 % 2147483647,?_⟩
 generalize he:(c % 1000000007+7919*k+101)*48271 % 2147483647=v at *
 have c1:v.natAbs<18446744073709551616:=by lia
 simp [ydf,he,c1]
theorem ye9 {i j:Int} (hi:i.natAbs<2 ^ 4000) (hj:j.natAbs<2 ^ 4000):fMul (.int i) (.int j) h = .ok (.int (i*j)) h:=if_pos (.inr ⟨hi,hj⟩)
theorem zde (ns:List Int):yeA (ns.map AV.int)=some ns:=by
 induction ns with
 | nil=>rfl
 | cons n r ih=>simp [ih]
abbrev T60:Int:=1000000000000000000000000000000000000000000000000000000000000000000000000000000000000000000000000000000000000000000000000
theorem yh8:(10:Nat) ^ 960<2 ^ 4000:=by decide +kernel
theorem yi4:T60.natAbs<2 ^ 4000:=by decide +kernel
theorem zfv (ns:List Int) (k:Nat) (i:Nat) (c:Nat) (o:Option AV) (h:AH) (hi:i<8) (hc:c<10 ^ (120*i)) (hj:k+i*8<ns.length) :
  ∃ c':Nat,c'<10 ^ (120*(i+1))/\ybC [some (.fl (ns.map AV.int)),some (.int k),some (.int c),some (.int ((k:Int)+i*8)),o] h = .nx [some (.fl (ns.map AV.int)),some (.int k),some (.int c'),some (.int ((k:Int)+i*8)),o] h:=by
 obtain ⟨s,es⟩:∃ s,ns[k+i*8]? = some s:=⟨ns[k+i*8],by simp [hj]⟩
 have ix:fIx (.fl (ns.map AV.int)) (.int ((k:Int)+i*8)) h = .ok (.int s) h:=by
  rw [show ((k:Int)+i*8)=((k+i*8:Nat):Int) by simp]
  simp only [fIx,ziV es]
 have p1:(10:Nat) ^ (120*i)<=10 ^ 960:=Nat.pow_le_pow_right (by decide) (by lia)
 have m1:((c:Int)).natAbs<2 ^ 4000:=by
  have:=yh8
  exact Nat.lt_trans (show c<10 ^ 960 by lia) this
 have mu:fMul (.int c) (.int T60) h = .ok (.int (c*T60)) h:=ye9 m1 yi4
 have r0:0<=s % T60:=Int.emod_nonneg _ (by decide)
 have r1:s % T60<T60:=Int.emod_lt_of_pos _ (by decide)
 obtain ⟨r,er⟩:∃ r:Nat,s % T60=(r:Int):=⟨(s % T60).toNat,(Int.toNat_of_nonneg r0).symm⟩
 have rl:r<10 ^ 120:=by
  have:(r:Int)<T60:=er▸r1
  have e:T60=((10 ^ 120:Nat):Int):=by decide +kernel
  rw [e] at this;exact Int.ofNat_lt.mp this
 obtain ⟨c',ec,lc⟩:∃ c':Nat,(c:Int)*T60+r=(c':Int)/\c'<10 ^ (120*(i+1)):=by
  refine ⟨c*10 ^ 120+r,?_,?_⟩
  ·have e:T60=((10 ^ 120:Nat):Int):=by decide +kernel
   rw [e,Int.natCast_add,Int.natCast_mul]
  ·rw [show 120*(i+1)=120*i+120 by lia,Nat.pow_add]
   have:(c+1)*10 ^ 120<=10 ^ (120*i)*10 ^ 120:=Nat.mul_le_mul_right _ hc
   have e2:(c+1)*10 ^ 120=c*10 ^ 120+10 ^ 120:=Nat.succ_mul _ _
   lia
 refine ⟨c',lc,?_⟩
 have pw:(sOp2 fMul (sOp2 fPow (sLit (.int 10)) (sLit (.int 60))) (sOp2 fPow (sLit (.int 10)) (sLit (.int 60)))) [some (.fl (ns.map AV.int)),some (.int k),some (.int c),some (.int ((k:Int)+i*8)),o] h = .ok (.int T60) h:=by simp
 have md:fMod (.int s) (.int T60) h = .ok (.int r) h:=by simp only [fMod];rw [if_pos (by decide),er]
 clear p1 m1 r0 r1 er rl hc lc hi
 unfold ybC
 generalize sOp2 fMul (sOp2 fPow (sLit (.int 10)) (sLit (.int 60))) (sOp2 fPow (sLit (.int 10)) (sLit (.int 60)))=PW at *
 generalize T60=t60 at *
 simp [pw,mu,ix,md,ec,-fMul,-fIx,-fMod]
theorem zeZ (en0:Option AV) (ns:List Int) (k c f j:Int) (h:AH):∃ f',ybD [some (.fl (ns.map AV.int)),some (.int k),some (.int c),some (.int j),some (.int f)] h = .nx [some (.fl (ns.map AV.int)),some (.int k),some (.int c),some (.int j),some (.int f')] h:=by
 obtain ⟨m,hm⟩:=zkj (c+1009*k+ns.length) j h
 refine ⟨f*2147483647+m,?_⟩
 have m1:fMul (.int f) (.int 2147483647) h = .ok (.int (f*2147483647)) h:=yfC (by decide)
 have m2:fMul (.int 1009) (.int k) h = .ok (.int (1009*k)) h:=ygm (by decide)
 simp [ybD,hm,m1,m2,-fMul]
theorem ze0 (ns:List Int) (hl:ns.length<=63) (k:Nat) (hk:k<=10) (h:AH):∃ N:Int,ybg [.fl (ns.map AV.int),.int k] h = .ok (.ref h.length) (h++[.lst [.int N]]):=by
 obtain ⟨M,eM⟩:∃ M:Nat,M=(if (k:Int)<(ns.length:Int) then ((ns.length:Int)-k-1) / 8+1 else 0).toNat:=⟨_,rfl⟩
 have hM:M<=8/\∀ i,i<M->k+i*8<ns.length:=by
  rw [eM]
  split
  ·refine ⟨by lia,λi hi=>by lia⟩
  ·refine ⟨by lia,λi hi=>by simp at hi⟩
 obtain ⟨e1,h1,r1,r2⟩:=yct (w:=none) (all:=(List.range M).map (λm:Nat=>AV.int ((k:Int)+m*8))) (t:=.nm 3) (b:=ybC) (xs:=(List.range M).map (λm:Nat=>AV.int ((k:Int)+m*8))) (en:=[some (.fl (ns.map AV.int)),some (.int k),some (.int 0),none,none]) (h:=h)
  (λi en h' => h'=h/\∃ (c:Nat) (o:Option AV),c<10 ^ (120*i)/\en=[some (.fl (ns.map AV.int)),some (.int k),some (.int c),o,none]) ⟨rfl,0,none,by decide,rfl⟩ (λ_ _ _ _=>rfl) (by
   rintro j x en h' hx ⟨rfl,c,o,hc,rfl⟩
   rw [List.getElem?_map] at hx
   obtain ⟨m,em,rfl⟩:=Option.map_eq_some_iff.mp hx
   have hj:j<M:=by
    have:=(List.getElem?_eq_some_iff.mp em).1;simpa using this
   rw [List.getElem?_range hj] at em
   cases em
   obtain ⟨c',l',e⟩:=zfv ns k j c none h' (by have:=hM.1;lia) hc (hM.2 j hj)
   show thn (ybC [some (.fl (ns.map AV.int)),some (.int k),some (.int c),some (.int ((k:Int)+j*8)),none] h') _
   rw [e]
   exact ⟨rfl,c',_,l',rfl⟩)
 obtain ⟨rfl,c,o,hc,rfl⟩:=r2
 have z1:(k:Int).natAbs<1099511627776:=by lia
 have z2:((ns.length:Nat):Int).natAbs<1099511627776:=by lia
 have it3:ycs (sVar 1) (yae fLen (yab (sVar 0) sNil)) (sLit (.int 8)) [some (.fl (ns.map AV.int)),some (.int k),some (.int 0),none,none] h1 = .ok ((List.range M).map (λm:Nat=>AV.int ((k:Int)+m*8)),none) h1:=by
  simp only [ycs,sVar,yae,yab,sNil,sLit,Out.bind,fLen,List.getElem?_cons_zero,List.getElem?_cons_succ,lenA]
  rw [if_pos ⟨z1,z2,by decide,by decide⟩,<- eM]
 have f1:=(yb1 (t:=.nm 3) (b:=ybC) it3).trans r1
 clear r1 it3
 by_cases hb:(1000000000000000000:Int)<=c
 ·exact ⟨c,by simp [ybg,f1,hb,-sFor]⟩
 ·have cm:=ziU (js:=[]) (en:=[some (.fl (ns.map AV.int)),some (.int k),some (.int c),o,none]) (w:=none) (all:=ns.map AV.int) (e:=sOp2 fMod (sVar 0) (sOp2 fPow (sLit (.int 10)) (sLit (.int 18)))) (g:=AV.int) (f:=λi=>AV.int (i % 1000000000000000000)) (h:=h1) rfl ns [] (by intro i _;simp) (by
    simp only [List.length_nil];exact Nat.le_trans (show 0+ns.length<=63 by lia) (by decide))
  have im:(ns.map λi=>AV.int (i % 1000000000000000000))=(ns.map λi=>i % 1000000000000000000).map AV.int:=by simp
  obtain ⟨S,eS⟩:∃ S:Int,S=(ns.map λi=>i % 1000000000000000000).sum:=⟨_,rfl⟩
  have sm:fSum [.fl (ns.map λi=>AV.int (i % 1000000000000000000))] h1 = .ok (.int S) h1:=by
   rw [im,eS];simp only [fSum,zde]
  obtain ⟨e2,h2,s1,s2⟩:=yct (w:=none) (all:=yaX 0 16) (t:=.nm 3) (b:=ybD) (xs:=yaX 0 16) (en:=[some (.fl (ns.map AV.int)),some (.int k),some (.int (c+S)),o,some (.int 0)]) (h:=h1)
   (λi en h' => h'=h1/\∃ (f:Int) (o:Option AV),en=[some (.fl (ns.map AV.int)),some (.int k),some (.int (c+S)),o,some (.int f)]) ⟨rfl,0,o,rfl⟩ (λ_ _ _ _=>rfl) (by
    rintro j x en h' hx ⟨rfl,f,o,rfl⟩
    rw [zd9] at hx
    by_cases q:j<16
    ·rw [if_pos q] at hx
     cases hx
     obtain ⟨f',e⟩:=zeZ none ns k (c+S) f (0+(j:Int)) h'
     show thn (ybD [some (.fl (ns.map AV.int)),some (.int k),some (.int (c+S)),some (.int (0+(j:Int))),some (.int f)] h') _
     rw [e]
     exact ⟨rfl,f',_,rfl⟩
    ·rw [if_neg q] at hx;cases hx)
  obtain ⟨rfl,f,o',rfl⟩:=s2
  have f2:=(yb1 (t:=.nm 3) (b:=ybD) (zbq (a:=sLit (.int 16)) (en:=[some (.fl (ns.map AV.int)),some (.int k),some (.int (c+S)),o,some (.int 0)]) (h:=h2) (n:=16) rfl (by decide))).trans s1
  refine ⟨f,?_⟩
  simp at cm
  simp [ybg,f1,hb,cm,sm,f2,-sFor,-fSum]
theorem zgv {st:Nat} {n:Int} (m:Nat) (e:h[st]? = some (.lst [.int n])) (hm:0<m) (hm2:m<=10 ^ 50):∃ v:Nat,v<m/\yau [.ref st,.int m] h = .ok (.int v) (h.set st (.lst [.int (n / m)])):=by
 have a0:atI [AV.int n] 0=some (.int n):=rfl
 have i0:ixN 1 0=some 0:=rfl
 have hm0:(0:Int)<m:=Int.ofNat_lt.mpr hm
 have hm3:m<1606938044258990275541962092341162602522202993782792835301376:=Nat.lt_of_le_of_lt hm2 (by decide)
 refine ⟨(n % m).toNat,?_,?_⟩
 ·have:=Int.emod_lt_of_pos n hm0;have:=Int.emod_nonneg n (show (m:Int)≠0 by lia);lia
 ·rw [Int.toNat_of_nonneg (Int.emod_nonneg n (show (m:Int)≠0 by lia))]
  simp [yau,e,a0,hm0,hm,hm3,i0]
theorem zdF {N:Int} (m:Nat) (e:hh[L]? = some (.lst [.int N])) (hm:0<m) (hm2:m<=10 ^ 50):∃ (v:Nat) (N':Int),v<m/\yau [.ref L,.int m] hh = .ok (.int v) (hh.set L (.lst [.int N'])):=by
 obtain ⟨v,hv,e1⟩:=zgv m e hm hm2
 exact ⟨v,N / m,hv,e1⟩
theorem zg3 (hy:yaK y=true) (hc:yef c=true):yaK (y++⟨#[c]⟩)=true/\(y++(⟨#[c]⟩:Str)).length=y.length+1:=by
 refine ⟨?_,by rw [zat];rfl⟩
 rw [za5,hy]
 simp [yaK,hc]
def sg64:List Str:=["ab", "aaab", "a\n", "ab \n", "abcdefghijklmnopqrstuvwxyz 0123456789.,~\n"]
theorem zbI:∀ x∈sg64,yaK x=true/\1<=x.length/\x.length<=200/\35∉x.cps.toList:=by decide +kernel
theorem yh9 (v:Nat) (hv:v<5):∃ z:Str,(∀ h,fIx (.fl [.str "ab",.str "aaab",.str "a\n",.str "ab \n",.str "abcdefghijklmnopqrstuvwxyz 0123456789.,~\n"]) (.int (v:Int)) h = .ok (.str z) h)/\yaK z=true/\1<=z.length/\z.length<=200/\35∉z.cps.toList:=by
 have:v=0\/v=1\/v=2\/v=3\/v=4:=by lia
 rcases this with rfl | rfl | rfl | rfl | rfl
 ·exact ⟨_,λ_=>rfl,zbI _ (by simp [sg64])⟩
 ·exact ⟨_,λ_=>rfl,zbI _ (by simp [sg64])⟩
 ·exact ⟨_,λ_=>rfl,zbI _ (by simp [sg64])⟩
 ·exact ⟨_,λ_=>rfl,zbI _ (by simp [sg64])⟩
 ·exact ⟨_,λ_=>rfl,zbI _ (by simp [sg64])⟩
theorem zh4 {v:Nat} (hv:v<x.length) (hx:yaK x=true) (h:AH):∃ c,c∈x.cps.toList/\yef c=true/\fIx (.str x) (.int v) h = .ok (.str ⟨#[c]⟩) h:=by
 have hv':v<x.cps.toList.length:=by rw [<- zad];exact hv
 refine ⟨x.cps.toList[v],List.getElem_mem hv',List.all_eq_true.mp hx _ (List.getElem_mem hv'),?_⟩
 have e:x.cps.toList[v]? = some x.cps.toList[v]:=List.getElem?_eq_getElem hv'
 simp only [fIx,zck e]
theorem zh5 {N:Int} (most:Nat) (hm:most<=1000) (e:hh[L]? = some (.lst [.int N])):∃ (y:Str) (N':Int),yb8 [.ref L,.int most] hh = .ok (.str y) (hh.set L (.lst [.int N']))/\yaK y=true/\y.length<=most/\35∉y.cps.toList:=by
 have Ll:=yaW e
 obtain ⟨v,N1,hv,t1⟩:=zdF 5 e (by decide) (by decide)
 have t1':yau [.ref L,.int 5] hh = .ok (.int v) (hh.set L (.lst [.int N1])):=t1
 obtain ⟨z,ez,pz,z1,z2,z3⟩:=yh9 v hv
 have e1:(hh.set L (.lst [.int N1]))[L]? = some (.lst [.int N1]):=List.getElem?_set_self Ll
 obtain ⟨k,N2,hk,t2⟩:=zdF (most+1) e1 (Nat.succ_pos _) (Nat.le_trans (Nat.succ_le_succ hm) (by decide))
 rw [List.set_set] at t2
 have t2':yau [.ref L,.int ((most:Int)+1)] (hh.set L (.lst [.int N1])) = .ok (.int k) (hh.set L (.lst [.int N2])):=by
  have:=t2;rw [Int.natCast_succ] at this;exact this
 obtain ⟨e',h',r1,y,N3,o4,r2,r3,r4,r5,b3⟩:=yct (w:=none) (all:=yaX 0 k) (t:=.nm 4) (b:=ybq) (xs:=yaX 0 k) (en:=[some (.ref L),some (.int most),some (.str z),some (.str ""),none]) (h:=hh.set L (.lst [.int N2]))
  (λj en h' => ∃ (y:Str) (N':Int) (o4:Option AV),en=[some (.ref L),some (.int most),some (.str z),some (.str y),o4]/\h'=hh.set L (.lst [.int N'])/\yaK y=true/\y.length=j/\35∉y.cps.toList) ⟨"",N2,none,rfl,rfl,rfl,rfl,by decide⟩ (λ_ _ _ _=>rfl) (by
   rintro j u en h' hu ⟨y,N',o4,rfl,rfl,py,ly,bb⟩
   have jk:j<k:=by have:=(List.getElem?_eq_some_iff.mp hu).1;rwa [zaL] at this
   have e3:(hh.set L (.lst [.int N']))[L]? = some (.lst [.int N']):=List.getElem?_set_self Ll
   obtain ⟨t,N4,ht,et⟩:=zdF z.length e3 (by lia) (Nat.le_trans z2 (by decide))
   rw [List.set_set] at et
   obtain ⟨c,mc,pc,ec⟩:=zh4 ht pz (hh.set L (.lst [.int N4]))
   have ad:fAdd (.str y) (.str ⟨#[c]⟩) (hh.set L (.lst [.int N4])) = .ok (.str (y++⟨#[c]⟩)) (hh.set L (.lst [.int N4])):=by
    have:y.length+(⟨#[c]⟩:Str).length<=sizeLine:=Nat.le_trans (m:=1001) (by show y.length+1<=_;lia) (by decide)
    simp only [fAdd,this,if_true]
   have es:ybq [some (.ref L),some (.int most),some (.str z),some (.str y),some u] (hh.set L (.lst [.int N'])) = .nx [some (.ref L),some (.int most),some (.str z),some (.str (y++⟨#[c]⟩)),some u] (hh.set L (.lst [.int N4])):=by
    generalize hh.set L (.lst [.int N4])=h2 at *
    generalize hh.set L (.lst [.int N'])=h1 at *
    simp [ybq,et,ec,ad,-fIx,-fAdd]
   show thn (ybq [some (.ref L),some (.int most),some (.str z),some (.str y),some u] (hh.set L (.lst [.int N']))) _
   rw [es]
   obtain ⟨q1,q2⟩:=zg3 py pc
   exact ⟨_,N4,_,rfl,rfl,q1,by rw [q2,ly],λz=>by
    rw [zae,List.mem_append] at z
    rcases z with z | z
    ·exact bb z
    ·have:35=c:=by simpa using z
     exact z3 (this▸mc)⟩)
 rw [zaL] at r5
 have f1:=(yb1 (t:=.nm 4) (b:=ybq) (zbq (a:=yae yau (yab (sVar 0) (yab (sOp2 fAdd (sVar 1) (sLit (.int 1))) sNil))) (en:=[some (.ref L),some (.int most),some (.str z),some (.str ""),none]) (h:=hh.set L (.lst [.int N1])) (n:=k) (by simp [t2']) (by lia))).trans r1
 refine ⟨y,N3,?_,r4,by lia,b3⟩
 rw [<- r3]
 subst r2
 unfold yb8
 generalize sFor (ycq (yae yau (yab (sVar 0) (yab (sOp2 fAdd (sVar 1) (sLit (.int 1))) sNil)))) (.nm 4) ybq=F1 at *
 generalize hh.set L (.lst [.int N1])=h1 at *
 simp [t1',ez,f1,-fAdd,-fIx]
abbrev yaI (s:Nat×Nat):AV:=.tup [.int s.1,.int s.2]
def clip (b e:Nat) (z:List Nat) (s:Nat):List Nat:=(z.take (e-s)).drop (b-s)
theorem ze1 (b e s:Nat) (y z:List Nat):clip b e (y++z) s=clip b e y s++clip b e z (s+y.length):=by
 unfold clip
 rw [List.take_append,List.drop_append,List.length_take]
 congr 1
 by_cases q:e-s<y.length
 ·rw [show e-s-y.length=0 by lia,show e-(s+y.length)=0 by lia];simp
 ·rw [Nat.min_eq_right (Nat.le_of_not_lt q),Nat.sub_sub,Nat.sub_sub]
variable {z:List Nat}
theorem zh6 (h:e<=s\/s+z.length<=b):clip b e z s=[]:=by
 unfold clip
 rcases h with h | h
 ·rw [Nat.sub_eq_zero_of_le h];simp
 ·apply List.drop_of_length_le
  rw [List.length_take]
  exact Nat.le_trans (Nat.min_le_right _ _) (Nat.le_sub_of_add_le (by rw [Nat.add_comm];exact h))
theorem ze2 (h1:s<e) (h2:b<s+z.length) (be:b<e) (hz:1<=z.length):1<=(clip b e z s).length:=by
 unfold clip
 rw [List.length_drop,List.length_take]
 lia
def hnOf (ps:List Pc) (n:Nat):Nat:=((meas ps).getD n ms0).ht.toNat
def ptOf (b e:Nat) (z:List Nat) (s H:Nat):Nat:=if e<=s\/s+z.length<=b then 1 else 2*(max (clip b e z s).length 1*(H+1))+1
theorem yeB (b e:Nat) (z:List Nat) (s H:Nat):1<=ptOf b e z s H:=by
 unfold ptOf
 split
 ·exact Nat.le_refl _
 ·exact Nat.le_add_left _ _
theorem ygT {A B h:Nat} (ab:A<=B) (hh:h+1<=H) (b1:1<=B):2*(A*(h+1))+1+1<2*(B*(H+1))+1:=by
 have q1:A*(h+1)<=B*H:=Nat.mul_le_mul ab hh
 have q2:B*(H+1)=B*H+B:=Nat.mul_succ B H
 lia
theorem yi5 {A B C h g:Nat} (ab:A+B<=C) (hh:h+1<=H) (gg:g+1<=H) (b1:1<=C):2*(A*(h+1))+1+(2*(B*(g+1))+1)<2*(C*(H+1))+1:=by
 have q1:A*(h+1)<=A*H:=Nat.mul_le_mul_left A hh
 have q3:B*(g+1)<=B*H:=Nat.mul_le_mul_left B gg
 have q4:(A+B)*H<=C*H:=Nat.mul_le_mul_right H ab
 have q5:(A+B)*H=A*H+B*H:=Nat.add_mul A B H
 have q2:C*(H+1)=C*H+C:=Nat.mul_succ C H
 lia
theorem zkk {h g:Nat} {y:List Nat} (hy:1<=y.length) (hz:1<=z.length) (n : ¬ (e<=s\/s+(y++z).length<=b)) (hh:h+1<=H) (gg:g+1<=H) (be:b<=e):ptOf b e y s h+ptOf b e z (s+y.length) g<ptOf b e (y++z) s H:=by
 have ca:=congrArg List.length (ze1 b e s y z)
 rw [List.length_append] at ca
 unfold ptOf
 rw [if_neg n]
 generalize hX:(clip b e (y++z) s).length=X at *
 have m1:1<=max X 1:=Nat.le_max_right _ _
 by_cases sy:e<=s\/s+y.length<=b
 ·rw [if_pos sy]
  by_cases sz:e<=s+y.length\/s+y.length+z.length<=b
  ·rw [if_pos sz]
   have:1<=max X 1*(H+1):=Nat.mul_pos m1 (Nat.succ_pos H)
   lia
  ·rw [if_neg sz]
   have:=ygT (A:=max (clip b e z (s+y.length)).length 1) (B:=max X 1) (h:=g) (H:=H) (by lia) gg m1
   lia
 ·rw [if_neg sy]
  by_cases sz:e<=s+y.length\/s+y.length+z.length<=b
  ·rw [if_pos sz]
   exact ygT (by lia) hh m1
  ·rw [if_neg sz]
   have c1:=ze2 (b:=b) (e:=e) (s:=s) (z:=y) (by lia) (by lia) (by lia) hy
   have c2:=ze2 (b:=b) (e:=e) (s:=s+y.length) (z:=z) (by lia) (by lia) (by lia) hz
   exact yi5 (by lia) hh gg m1
inductive Stk (ps:List Pc) (b e:Nat):List (Nat×Nat)->List Nat->Nat->Prop
 | nil:Stk ps b e [] [] 0
 | cons {n s:Nat} {x:Str} {st:List (Nat×Nat)} {r:List Nat} {k:Nat}:TxZ ps n x->(0<x.length\/s=0)->Stk ps b e st r k->Stk ps b e ((n,s)::st) (clip b e x.cps.toList s++r) (ptOf b e x.cps.toList s (hnOf ps n)+k)
theorem Stk.len {st:List (Nat×Nat)} {r:List Nat} {k:Nat} (t:Stk ps b e st r k):st.length<=k:=by
 induction t with
 | nil=>exact Nat.le_refl _
 | @cons n s x st r k _ _ _ ih =>
  have:=yeB b e x.cps.toList s (hnOf ps n)
  rw [List.length_cons];lia
theorem yeL {m:Ms} (e:(meas ps)[n]? = some m):hnOf ps n=m.ht.toNat:=by unfold hnOf;rw [zaT e]
theorem zeg (h:AH):∀ st:List (Nat×Nat),toDs (toD 7 h) (st.map yaI)=some (st.map λs=>PyData.tuple [.int (s.1:Int),.int (s.2:Int)])
 | []=>rfl
 | s::st=>by
  rw [List.map_cons,List.map_cons]
  show (match toD 7 h (yaI s),toDs (toD 7 h) (st.map yaI) with | some d,some ds=>some (d::ds) | _,_=>none)=_
  rw [zeg h st];rfl
theorem zkl {st:List (Nat×Nat)} (e:h[L]? = some (.lst (st.map yaI))):fNe (.ref L) (.fl []) h = .ok (.bl (!st.isEmpty)) h:=by
 have t:toD 8 h (.ref L)=some (.list (st.map λs=>PyData.tuple [.int (s.1:Int),.int (s.2:Int)])):=by
  show (match h[L]? with | some (.lst xs)=>(toDs (toD 7 h) xs).map PyData.list | _=>none)=_
  rw [e]
  show (toDs (toD 7 h) (st.map yaI)).map PyData.list=_
  rw [zeg];rfl
 have q:eqA (.ref L) (.fl []) h=some st.isEmpty:=by
  show (match toD 8 h (.ref L),toD 8 h (.fl []) with | some d,some e=>some (PyData.eqv d e) | _,_=>none)=_
  rw [t]
  show some (PyData.eqv (.list _) (.list []))=_
  cases st with
  | nil=>simp [PyData.eqv,PyData.eqvAll]
  | cons a b=>simp [PyData.eqv,PyData.eqvAll]
 show (match eqA (.ref L) (.fl []) h with | some b=>Out.ok (AV.bl (!b)) h | none=>Out.bad)=_
 rw [q]
theorem zi5 (hs:s<e):(cutS y (some (((b-s:Nat)):Int)) (some ((e-s:Nat):Int))).cps.toList=clip b e y.cps.toList s:=by
 simp only [cutS,HT.sIx_nat,clip]
 rw [List.drop_take]
 generalize y.cps.toList=l
 apply List.ext_getElem?
 intro i
 simp only [List.getElem?_take,List.getElem?_drop]
 by_cases c:i<e-s-(b-s)
 ·by_cases d:b-s<=l.length
  ·rw [Nat.min_eq_left d,if_pos c]
   by_cases f:e-s<=l.length
   ·rw [Nat.min_eq_left f,if_pos c]
   ·rw [Nat.min_eq_right (Nat.le_of_not_le f)]
    by_cases g:i<l.length-(b-s)
    ·rw [if_pos g]
    ·rw [if_neg g,List.getElem?_eq_none (by lia)]
  ·have:min (e-s) l.length-min (b-s) l.length=0:=by lia
   rw [this,if_neg (Nat.not_lt_zero _),if_pos c,List.getElem?_eq_none (by lia)]
 ·have : ¬ i<min (e-s) l.length-min (b-s) l.length:=by lia
  rw [if_neg c,if_neg this]
abbrev sbEn (p:Nat) (o1:Option AV) (b e L1 L2:Nat) (o6 o7 o8 o9:Option AV):En:=[some (.ref p),o1,some (.int b),some (.int e),some (.ref L1),some (.ref L2),o6,o7,o8,o9]
theorem zdG (S:ShelfAt h p ps) (hL:p+8<L) (o:AO):ShelfAt (h.set L o) p ps :=
 S.keep λi _ b=>List.getElem?_set_ne (Nat.ne_of_gt (Nat.lt_of_le_of_lt b hL))
variable {ys xs:List AV}
theorem zkm (S:ShelfAt h p ps) {m:Ms} (em:(meas ps)[n]? = some m) (h2:p+8<L2) (e2:h[L2]? = some (.lst (ys++[yaI (n,s)]))) (c:e<=s\/s+m.sg<=b) (o1 o6 o7 o8 o9:Option AV) :
  ∃ o6' o7' o8',yaL (sbEn p o1 b e L1 L2 o6 o7 o8 o9) h = .ct (sbEn p o1 b e L1 L2 o6' o7' o8' o9) (h.set L2 (.lst ys)):=by
 have S' := zdG S h2 (.lst ys)
 have fs:=zah S' em
 have ob:=S'.ob
 have i0:∀ h,fIx (yaI (n,s)) (.int 0) h=Out.ok (.int n) h:=λh=>rfl
 have i1:∀ h,fIx (yaI (n,s)) (.int 1) h=Out.ok (.int s) h:=λh=>rfl
 have pp:mPop (.ref L2) [] h = .ok (yaI (n,s)) (h.set L2 (.lst ys)):=by
  simp only [mPop,e2]
  simp
 have ls:yat (.ref L2) h=true:=by simp only [yat,ybi,e2];rfl
 refine ⟨some (yaI (n,s)),some (.int n),some (.int s),?_⟩
 generalize yaI (n,s)=W at *
 generalize h.set L2 (.lst ys)=h' at *
 by_cases c1:(e:Int)<=s
 ·simp [yaL,pp,ls,i0,i1,c1,-fIx,-mPop,-yat]
 ·have c2:(s:Int)+m.sg<=b:=by lia
  simp [yaL,pp,ls,i0,i1,c1,c2,ob,fs,-fIx,-mPop,-yat]
theorem zkn (S:ShelfAt h p ps) {m:Ms} (em:(meas ps)[n]? = some m) (n1:1<=n) (ey:ps[n-1]? = some (.leaf y)) (h1:p+8<L1) (h2:p+8<L2) (h12:L1≠L2) {fs:List AV} (e1:h[L1]? = some (.lst fs)) (e2:h[L2]? = some (.lst (ys++[yaI (n,s)]))) (c1:s<e) (c2:b<s+m.sg) (hf:fs.length<16000000) (o1 o6 o7 o8 o9:Option AV) :
  ∃ o6' o7' o8' o9',yaL (sbEn p o1 b e L1 L2 o6 o7 o8 o9) h = .nx (sbEn p o1 b e L1 L2 o6' o7' o8' o9') ((h.set L2 (.lst ys)).set L1 (.lst (fs++[.str (cutS y (some ((b-s:Nat):Int)) (some ((e-s:Nat):Int)))]))):=by
 have S' := zdG S h2 (.lst ys)
 have fg:=zah S' em
 have fp:=zbW S' n1 ey
 have ob:=S'.ob
 have i0:∀ h,fIx (yaI (n,s)) (.int 0) h=Out.ok (.int n) h:=λh=>rfl
 have i1:∀ h,fIx (yaI (n,s)) (.int 1) h=Out.ok (.int s) h:=λh=>rfl
 have j0:∀ h,fIx (Pc.leaf y).av (.int 0) h=Out.ok (.str "leaf") h:=λh=>rfl
 have j1:∀ h,fIx (Pc.leaf y).av (.int 1) h=Out.ok (.str y) h:=λh=>rfl
 have pp:mPop (.ref L2) [] h = .ok (yaI (n,s)) (h.set L2 (.lst ys)):=by
  simp only [mPop,e2]
  simp
 have ls:yat (.ref L2) h=true:=by simp only [yat,ybi,e2];rfl
 have e1':(h.set L2 (.lst ys))[L1]? = some (.lst fs):=by rw [List.getElem?_set_ne (Ne.symm h12)];exact e1
 have fl:fs.length<sizeLine:=Nat.lt_trans hf (by decide)
 have ls1:yat (.ref L1) (h.set L2 (.lst ys))=true:=by simp only [yat,ybi,e1'];rfl
 have d1 : ¬ (e:Int)<=s:=by lia
 have d2 : ¬ (s:Int)+m.sg<=b:=by lia
 have mx:∀ h,ycE [.int ((b:Int)-s),.int 0] h = .ok (.int ((b-s:Nat):Int)) h:=λh=>by
  simp
  lia
 have es:(e:Int)-s=((e-s:Nat):Int):=by lia
 refine ⟨some (yaI (n,s)),some (.int n),some (.int s),some (Pc.leaf y).av,?_⟩
 generalize yaI (n,s)=W at *
 generalize (Pc.leaf y).av=V at *
 generalize h.set L2 (.lst ys)=h' at *
 simp [yaL,pp,ls,i0,i1,d1,d2,ob,fg,fp,j0,j1,mx,es,e1',fl,ls1,-fIx,-mPop,-yat,-ycE]
theorem zko (S:ShelfAt h p ps) {m:Ms} (em:(meas ps)[n]? = some m) (n1:1<=n) (ey:ps[n-1]? = some (.fork c d)) (ec:(meas ps)[c]? = some mc) (h1:p+8<L1) (h2:p+8<L2) (e2:h[L2]? = some (.lst (ys++[yaI (n,s)]))) (c1:s<e) (c2:b<s+m.sg) (hf:ys.length<16000000) (o1 o6 o7 o8 o9:Option AV) :
  ∃ o6' o7' o8' o9',yaL (sbEn p o1 b e L1 L2 o6 o7 o8 o9) h = .nx (sbEn p o1 b e L1 L2 o6' o7' o8' o9') (h.set L2 (.lst (ys++[yaI (d,s+mc.sg)]++[yaI (c,s)]))):=by
 have S' := zdG S h2 (.lst ys)
 have fg:=zah S' em
 have fp:=zbW S' n1 ey
 have fc:=zah S' ec
 have ob:=S'.ob
 have bl:=yaW e2
 have i0:∀ h,fIx (yaI (n,s)) (.int 0) h=Out.ok (.int n) h:=λh=>rfl
 have i1:∀ h,fIx (yaI (n,s)) (.int 1) h=Out.ok (.int s) h:=λh=>rfl
 have j0:∀ h,fIx (Pc.fork c d).av (.int 0) h=Out.ok (.str "fork") h:=λh=>rfl
 have j1:∀ h,fIx (Pc.fork c d).av (.int 1) h=Out.ok (.int c) h:=λh=>rfl
 have j2:∀ h,fIx (Pc.fork c d).av (.int 2) h=Out.ok (.int d) h:=λh=>rfl
 have pp:mPop (.ref L2) [] h = .ok (yaI (n,s)) (h.set L2 (.lst ys)):=by
  simp only [mPop,e2]
  simp
 have ls:yat (.ref L2) h=true:=by simp only [yat,ybi,e2];rfl
 have nf:(Str.ofString "fork")≠(Str.ofString "leaf"):=by decide +kernel
 have g0:(h.set L2 (.lst ys))[L2]? = some (.lst ys):=List.getElem?_set_self bl
 have g1:((h.set L2 (.lst ys)).set L2 (.lst (ys++[yaI (d,s+mc.sg)])))[L2]? = some (.lst (ys++[yaI (d,s+mc.sg)])):=List.getElem?_set_self (by simpa using bl)
 have l0:ys.length<sizeLine:=Nat.lt_trans hf (by decide)
 have l1:ys.length+1<sizeLine:=Nat.lt_of_le_of_lt (Nat.succ_le_of_lt hf) (by decide)
 have d1 : ¬ (e:Int)<=s:=by lia
 have d2 : ¬ (s:Int)+m.sg<=b:=by lia
 have sv:AV.tup [.int d,.int ((s:Int)+mc.sg)]=yaI (d,s+mc.sg):=by simp [yaI]
 have sw:AV.tup [.int c,.int (s:Int)]=yaI (c,s):=rfl
 have ss:∀ o o',(h.set L2 o).set L2 o'=h.set L2 o' := λo o' => by simp
 refine ⟨some (yaI (n,s)),some (.int n),some (.int s),some (Pc.fork c d).av,?_⟩
 have ap1:yav (.ref L2) [yaI (d,s+mc.sg)] (h.set L2 (.lst ys)) = .ok .non (h.set L2 (.lst (ys++[yaI (d,s+mc.sg)]))):=by
  simp only [yav,g0,l0,if_true,ss]
 rw [ss] at g1
 have ap2:yav (.ref L2) [yaI (c,s)] (h.set L2 (.lst (ys++[yaI (d,s+mc.sg)]))) = .ok .non (h.set L2 (.lst (ys++[yaI (d,s+mc.sg)]++[yaI (c,s)]))):=by
  simp only [yav,g1,List.length_append,List.length_cons,List.length_nil,Nat.zero_add,l1,if_true,ss]
 have is0:yat (.ref L2) (h.set L2 (.lst ys))=true:=by simp only [yat,ybi,g0];rfl
 have is1:yat (.ref L2) (h.set L2 (.lst (ys++[yaI (d,s+mc.sg)])))=true:=by simp only [yat,ybi,g1];rfl
 generalize yaI (n,s)=W at *
 generalize (Pc.fork c d).av=V at *
 generalize h.set L2 (.lst (ys++[yaI (d,s+mc.sg)]++[yaI (c,s)]))=h3 at *
 generalize h.set L2 (.lst (ys++[yaI (d,s+mc.sg)]))=h2 at *
 generalize h.set L2 (.lst ys)=h' at *
 simp [yaL,pp,ls,i0,i1,d1,d2,ob,fg,fp,fc,j0,j1,j2,nf,sv,sw,is0,is1,ap1,ap2,-fIx,-mPop,-yat,-yav]
theorem TxZ.ne0 (t:TxZ ps n y) (h:0<y.length):∃ m f l,Tx ps n m y f l:=by
 rcases t with ⟨_,rfl⟩ | t
 ·exact absurd h (by decide)
 ·exact t
theorem ze3:∀ fs:List Str,yex (fs.map AV.str)=some fs
 | []=>rfl
 | f::fs=>by simp [ze3 fs]
theorem ze4 (b e s:Nat) (z:List Nat):(clip b e z s).length<=e-b:=by
 unfold clip
 rw [List.length_drop,List.length_take]
 lia
theorem zh7 (S:ShelfAt h p ps) (g:Good ps) (t:TxZ ps n x) (be:b<=e) (w:e-b<=10000) :
  ∃ (z:Str) (r:AH),ycd [.ref p,.int n,.int b,.int e] h = .ok (.str z) (h++r)/\z.cps.toList=clip b e x.cps.toList 0:=by
 have b8:=yaW S.h8
 obtain ⟨K0,eK⟩:∃ K0,K0=ptOf b e x.cps.toList 0 (hnOf ps n):=⟨_,rfl⟩
 have hK:K0<=5000000:=by
  have cl:=ze4 b e 0 x.cps.toList
  have hh:hnOf ps n<=200:=by
   rcases t with ⟨rfl,_⟩ | ⟨m,f,l,T⟩
   ·rw [yeL (za6 ps)];decide
   ·rw [yeL T.ms];exact ziY g T
  rw [eK];unfold ptOf
  split
  ·decide
  ·have:max (clip b e x.cps.toList 0).length 1*(hnOf ps n+1)<=10000*201:=Nat.mul_le_mul (by lia) (by lia)
   lia
 obtain ⟨e',h',q1,fs,q2,o6,o7,o8,o9,q3,q4⟩:=zj8 (c:=yam (sOp2 fNe (sVar 5) (sLst sNil))) (b:=yaL) (fuel:=ye5) (n:=K0) (en:=sbEn p (some (.int n)) b e h.length (h.length+1) none none none none) (h:=h++[.lst [],.lst [yaI (n,0)]])
  (λk en h' => ∃ (fs:List Str) (st:List (Nat×Nat)) (r:List Nat) (o6 o7 o8 o9:Option AV),en=sbEn p (some (.int n)) b e h.length (h.length+1) o6 o7 o8 o9/\h'=h++[.lst (fs.map AV.str),.lst (st.reverse.map yaI)]/\Stk ps b e st r k/\(fs.map λf:Str=>f.cps.toList).flatten++r=clip b e x.cps.toList 0/\fs.length+k<=K0)
  (λen h' => ∃ (fs:List Str),h'=h++[.lst (fs.map AV.str),.lst []]/\∃ o6 o7 o8 o9,en=sbEn p (some (.int n)) b e h.length (h.length+1) o6 o7 o8 o9/\(fs.map λf:Str=>f.cps.toList).flatten=clip b e x.cps.toList 0)
  ⟨[],[(n,0)],clip b e x.cps.toList 0++[],none,none,none,none,rfl,rfl,eK ▸ .cons t (.inr rfl) .nil,by simp,by simp⟩ (Nat.lt_of_le_of_lt hK (by decide)) (by
   rintro k en h' ⟨fs,st,r,o6,o7,o8,o9,rfl,rfl,st0,fl,fk⟩
   obtain ⟨hc,ec⟩:∃ hc,hc=h++[AO.lst (fs.map AV.str),.lst (st.reverse.map yaI)]:=⟨_,rfl⟩
   have S':ShelfAt hc p ps:=ec▸S.app _
   have g1:hc[h.length]? = some (.lst (fs.map AV.str)):=by rw [ec];simp
   have g2:hc[h.length+1]? = some (.lst (st.reverse.map yaI)):=by rw [ec];simp
   have nn:=zkl g2
   have sl:=st0.len
   have hset:∀ (A B:AO),(h++[AO.lst (fs.map AV.str),B]).set (h.length+1) A=h++[AO.lst (fs.map AV.str),A]:=λA B=>by simp
   rw [<- ec]
   cases st0 with
   | nil =>
    have c:(yam (sOp2 fNe (sVar 5) (sLst sNil))) (sbEn p (some (.int n)) b e h.length (h.length+1) o6 o7 o8 o9) hc = .ok false hc:=by
     have nn':fNe (.ref (h.length+1)) (.fl []) hc = .ok (.bl false) hc:=nn
     simp [sbEn,nn',-fNe]
    rw [c]
    exact ⟨fs,ec,o6,o7,o8,o9,rfl,by simpa using fl⟩
   | @cons n' s x' st r k t' ts st1 =>
    have c:(yam (sOp2 fNe (sVar 5) (sLst sNil))) (sbEn p (some (.int n)) b e h.length (h.length+1) o6 o7 o8 o9) hc = .ok true hc:=by
     have nn':fNe (.ref (h.length+1)) (.fl []) hc = .ok (.bl true) hc:=by rw [nn];simp
     simp [sbEn,nn',-fNe]
    rw [c]
    have g2':hc[h.length+1]? = some (.lst (st.reverse.map yaI++[yaI (n',s)])):=by rw [g2];simp
    obtain ⟨m,em,sm⟩:=t'.meas
    have lx:x'.cps.toList.length=m.sg:=(zad x').symm.trans sm.symm
    have sl1:=st1.len
    show thn (yaL (sbEn p (some (.int n)) b e h.length (h.length+1) o6 o7 o8 o9) hc) _
    by_cases sk:e<=s\/s+x'.cps.toList.length<=b
    ·obtain ⟨a6,a7,a8,eb⟩:=zkm (L1:=h.length) S' em (show p+8<h.length+1 by lia) g2' (by rw [<- lx];exact sk) (some (.int n)) o6 o7 o8 o9
     rw [eb,ec,hset]
     refine ⟨k,?_,fs,st,r,a6,a7,a8,o9,rfl,rfl,st1,?_,?_⟩
     ·have:=yeB b e x'.cps.toList s (hnOf ps n');lia
     ·rw [<- fl,zh6 sk];rfl
     ·have:=yeB b e x'.cps.toList s (hnOf ps n');lia
    ·have sk1:s<e:=by lia
     have sk2:b<s+m.sg:=by lia
     obtain ⟨m',f',l',T⟩:=t'.ne0 (by rcases ts with ts | ts<;>lia)
     have z:=em.symm.trans T.ms;cases z
     rcases g.kind T with ⟨e1,e2,e3,_⟩ | ⟨c1,c2,mc,md,y,z,fa,la,fb,lb,e1,e2,e3,A,B,e4,e5,e6⟩
     ·obtain ⟨a6,a7,a8,a9,eb⟩:=zkn S' em T.n1 e1 (show p+8<h.length by lia) (show p+8<h.length+1 by lia) (by lia) g1 g2' sk1 sk2 (by simp;lia) (some (.int n)) o6 o7 o8 o9
      rw [eb,ec,hset]
      refine ⟨k,?_,fs++[cutS x' (some ((b-s:Nat):Int)) (some ((e-s:Nat):Int))],st,r,a6,a7,a8,a9,rfl,by simp,st1,?_,?_⟩
      ·have:=yeB b e x'.cps.toList s (hnOf ps n');lia
      ·rw [<- fl,<- zi5 (y:=x') sk1];simp
      ·have:=yeB b e x'.cps.toList s (hnOf ps n');simp;lia
     ·obtain ⟨a6,a7,a8,a9,eb⟩:=zko (L1:=h.length) S' em T.n1 e1 A.ms (show p+8<h.length by lia) (show p+8<h.length+1 by lia) g2' sk1 sk2 (by simp;lia) (some (.int n)) o6 o7 o8 o9
      have ly:y.cps.toList.length=mc.sg:=(zad y).symm.trans A.ky.sg.symm
      have y1:=A.ky.sg1
      have z1:=B.ky.sg1
      have lz:z.cps.toList.length=md.sg:=(zad z).symm.trans B.ky.sg.symm
      have ex:x'.cps.toList=y.cps.toList++z.cps.toList:=by rw [e4,zae]
      obtain ⟨j,ej,ja,jb,_⟩:=hs1 (show m.ht=max mc.ht md.ht+1 by rw [e5];rfl) A.ky.ht B.ky.ht
      have pf:=zkk (b:=b) (e:=e) (s:=s) (h:=hnOf ps c1) (g:=hnOf ps c2) (H:=hnOf ps n') (y:=y.cps.toList) (z:=z.cps.toList) (by lia) (by lia) (ex▸sk) (by rw [yeL A.ms,yeL em];lia) (by rw [yeL B.ms,yeL em];lia) be
      rw [<- ex,ly] at pf
      rw [eb,ec,hset]
      refine ⟨ptOf b e y.cps.toList s (hnOf ps c1)+(ptOf b e z.cps.toList (s+mc.sg) (hnOf ps c2)+k),by lia,fs,(c1,s)::(c2,s+mc.sg)::st,_,a6,a7,a8,a9,rfl,by simp,.cons (.inr ⟨_,_,_,A⟩) (.inl (A.ky.sg▸y1)) (.cons (.inr ⟨_,_,_,B⟩) (.inl (B.ky.sg▸z1)) st1),?_,by lia⟩
      rw [<- fl,ex,ze1,ly];simp)
 subst q2;subst q3
 refine ⟨⟨((fs.map λf:Str=>f.cps.toList).flatten).toArray⟩,[.lst (fs.map AV.str),.lst []],?_,by rw [<- q4]⟩
 have fl:((fs.map λf:Str=>f.cps.toList).flatten).length<=1000000:=by
  rw [q4];exact Nat.le_trans (ze4 _ _ _ _) (Nat.le_trans w (by decide))
 have g1:(h++[AO.lst (fs.map AV.str),.lst []])[h.length]? = some (.lst (fs.map AV.str)):=by simp
 have jn:yeJ (.str "") [.ref h.length] (h++[AO.lst (fs.map AV.str),.lst []]) = .ok (.str ⟨((fs.map λf:Str=>f.cps.toList).flatten).toArray⟩) (h++[AO.lst (fs.map AV.str),.lst []]):=by
  have e:(Str.ofString "")=Str.empty:=by decide +kernel
  unfold yeJ
  simp only [e,if_true,ybi,g1,ze3]
  rw [if_pos fl]
 have q1':ybX (yam (sOp2 fNe (sVar 5) (sLst sNil))) yaL ye5 [some (.ref p),some (.int n),some (.int b),some (.int e),some (.ref h.length),some (.ref (h.length+1)),none,none,none,none] (h++[.lst [],.lst [.tup [.int n,.int 0]]])=_:=q1
 unfold ycd
 generalize ybX (yam (sOp2 fNe (sVar 5) (sLst sNil))) yaL ye5=W at q1' ⊢
 generalize hH:(h++[AO.lst (fs.map AV.str),.lst []])=H at *
 have a1:h++[AO.lst []]++[AO.lst [AV.tup [.int n,.int 0]]]=h++[.lst [],.lst [.tup [.int n,.int 0]]]:=by simp
 simp [q1',jn,sbEn,-yeJ]
theorem zh8 (S:ShelfAt h p ps) (g:Good ps) (t:TxZ ps n x) (be:b<=e) (ex:e<=x.length) (w:e-b<=10000) :
  ∃ (z:Str) (r:AH),yci [.ref p,.int n,.int b,.int e] h = .ok (.str z) (h++r)/\z.cps.toList=clip b e x.cps.toList 0:=by
 obtain ⟨m,em,sm⟩:=t.meas
 have ck:=zef S em be (sm▸ex)
 obtain ⟨z,r,e1,e2⟩:=zh7 S g t be w
 refine ⟨z,r,?_,e2⟩
 have w' : ¬ (10000:Int)<(e:Int)-b:=by lia
 simp [yci,ck,w',e1]
def rp (B:List Nat) (t:Nat):List Nat:=(List.replicate t B).flatten
theorem rp_s (B:List Nat) (t:Nat):rp B (t+1)=B++rp B t:=by
 unfold rp;rw [List.replicate_succ,List.flatten_cons]
theorem rp_a (B:List Nat):∀ a b:Nat,rp B a++rp B b=rp B (a+b)
 | 0,b=>by rw [Nat.zero_add];rfl
 | a+1,b=>by rw [rp_s,List.append_assoc,rp_a B a b,Nat.add_right_comm,rp_s]
theorem rp_1 (B:List Nat):rp B 1=B:=by rw [rp_s];exact List.append_nil _
theorem yeC (B:List Nat):∀ t:Nat,(rp B t).length=B.length*t
 | 0=>rfl
 | t+1=>by rw [rp_s,List.length_append,yeC B t,Nat.mul_succ,Nat.add_comm]
theorem ze5 (P:List Nat) {q m:Nat} (h:q<m):rp P m=rp P q++(P++rp P (m-q-1)):=by
 rw [<- rp_s,rp_a];congr 1;lia
abbrev Bk:=Str×Nat
def fB:List Bk->List Nat
 | []=>[]
 | x::r=>rp x.1.cps.toList x.2++fB r
theorem ycC:∀ a b:List Bk,fB (a++b)=fB a++fB b
 | [],b=>rfl
 | x::a,b=>by rw [List.cons_append,fB,fB,ycC a b,List.append_assoc]
theorem yck (x:Bk):fB [x]=rp x.1.cps.toList x.2:=by rw [fB,fB,List.append_nil]
theorem zaZ (x:Bk):(rp x.1.cps.toList x.2).length=x.1.length*x.2:=by rw [yeC,<- zad]
theorem ygs:∀ {bs:List Bk} {x:Bk},x∈bs->x.1.length*x.2<=(fB bs).length
 | y::r,x,h=>by
  rw [fB,List.length_append,zaZ]
  rcases List.mem_cons.mp h with rfl | h
  ·lia
  ·have:=ygs h;lia
structure Ok (x:Bk):Prop where
 a:1<=x.1.length
 b:x.1.length<=20
 c:1<=x.2
abbrev bv (x:Bk):AV:=.tup [.str x.1,.int x.2]
theorem zcq {xs:List α} {w:α} (e:xs[j]? = some w):xs.take (j+1)=xs.take j++[w]:=by
 rw [List.take_succ,e];rfl
theorem zi6 (e:h[R]? = some o):h.set R o=h:=by
 refine List.ext_getElem? λi=>?_
 by_cases q:R=i
 ·subst q;rw [List.getElem?_set_self (yaW e),e]
 ·exact List.getElem?_set_ne q
theorem ap1 {fs:List AV} (e:h[R]? = some (.lst fs)) (hf:fs.length<=2000) (v:AV):yav (.ref R) [v] h = .ok .non (h.set R (.lst (fs++[v]))):=by
 have:fs.length<sizeLine:=Nat.lt_of_le_of_lt hf (by decide)
 simp only [yav,e,this,if_true]
theorem yfR (a b:Nat) (h:AH):ybQ [.int a,.int b] h = .ok (.int ((min a b:Nat):Int)) h:=by
 have:ybQ [.int a,.int b] h = .ok (.int (if (b:Int)<a then (b:Int) else a)) h:=rfl
 rw [this]
 by_cases q:b<a
 ·rw [if_pos (by lia)];congr 2;lia
 ·rw [if_neg (by lia)];congr 2;lia
theorem yem (e:a=b+c) (h:AH):fSub (.int a) (.int b) h = .ok (.int c) h:=by
 have:(a:Int)-b=c:=by lia
 simp only [fSub,this]
theorem ydv (e:a+b=c) (h:AH):fAdd (.int a) (.int b) h = .ok (.int c) h:=by
 have:(a:Int)+b=c:=by lia
 simp only [fAdd,this]
theorem yi6 (ha:a<=1000000) (e:a*b=c) (h:AH):fMul (.int a) (.int b) h = .ok (.int c) h:=by
 rw [ygm (Nat.lt_of_le_of_lt (m:=1000000) (by lia) (by decide)),<- e];rfl
theorem yia (hb:b<=1000000) (e:a*b=c) (h:AH):fMul (.int a) (.int b) h = .ok (.int c) h:=by
 rw [yfC (Nat.lt_of_le_of_lt (m:=1000000) (by lia) (by decide)),<- e];rfl
theorem yi7 (h0:1<=b) (hb:b<=1000000) (e:a / b=c) (h:AH):fDiv (.int a) (.int b) h = .ok (.int c) h:=by
 have q:0<(b:Int)/\(b:Int).natAbs<2 ^ 200:=⟨by lia,Nat.lt_of_le_of_lt (m:=1000000) (by lia) (by decide)⟩
 simp only [fDiv]
 rw [if_pos q,<- e];rfl
abbrev eT (v0:Option AV) (b e:Nat) (R s:Nat) (o5 o6 o7 o8 o9 o10 o11 o12:Option AV):En:=[v0,some (.int b),some (.int e),some (.ref R),some (.int s),o5,o6,o7,o8,o9,o10,o11,o12]
def BOk (bs:List Bk):Prop:=∀ q∈bs,q.1.length<=100
theorem sumB:∀ bs:List Bk,(bs.map λx:Bk=>((x.1.length*x.2:Nat):Int)).sum=((fB bs).length:Int)
 | []=>rfl
 | x::r=>by rw [List.map_cons,List.sum_cons,sumB r,fB,List.length_append,zaZ];lia
structure Fr (L:Nat) (h h':AH):Prop where
 fr:∀ i,i<h.length->i≠L->h'[i]? = h[i]?
 hl:h.length<=h'.length
 ro:∃ N:Int,h'[L]? = some (.lst [.int N])
theorem Fr.trans {L:Nat} {h h' h'':AH} (a:Fr L h h') (b:Fr L h' h''):Fr L h h'' :=
 ⟨λi hi n=>(b.fr i (Nat.lt_of_lt_of_le hi a.hl) n).trans (a.fr i hi n),Nat.le_trans a.hl b.hl,b.ro⟩
theorem Fr.app (a:Fr L h h') (r:AH):Fr L h (h' ++ r):=by
 obtain ⟨N,e⟩:=a.ro
 exact ⟨λi hi n=>by rw [List.getElem?_append_left (Nat.lt_of_lt_of_le hi a.hl)];exact a.fr i hi n,by rw [List.length_append];have:=a.hl;lia,N,by rw [List.getElem?_append_left (yaW e)];exact e⟩
theorem Fr.set {L:Nat} {h h':AH} (a:Fr L h h') (N':Int):Fr L h (h'.set L (.lst [.int N'])):=by
 obtain ⟨N,e⟩:=a.ro
 exact ⟨λi hi n=>by rw [List.getElem?_set_ne (Ne.symm n)];exact a.fr i hi n,by rw [List.length_set];exact a.hl,N',List.getElem?_set_self (yaW e)⟩
theorem Fr.new (a:Fr L h h') (hR:h.length<=R) (hL:L<h.length) (o:AO):Fr L h (h'.set R o):=by
 obtain ⟨N,e⟩:=a.ro
 exact ⟨λi hi n=>by rw [List.getElem?_set_ne (by lia)];exact a.fr i hi n,by rw [List.length_set];exact a.hl,N,by rw [List.getElem?_set_ne (by lia)];exact e⟩
theorem Fr.take (a:Fr L h h') (m:Nat) (hm:0<m) (hm2:m<=10 ^ 50):∃ (v:Nat) (N:Int),v<m/\yau [.ref L,.int m] h' = .ok (.int v) (h'.set L (.lst [.int N]))/\Fr L h (h'.set L (.lst [.int N])):=by
 obtain ⟨N,e⟩:=a.ro
 obtain ⟨v,hv,t⟩:=zgv m e hm hm2
 exact ⟨v,_,hv,t,a.set _⟩
def yeh (c:Nat):Bool:=decide (97<=c) && decide (c<=122)
theorem yi8:(Str.ofString "a")=⟨#[97]⟩:=by decide +kernel
theorem yi9:(Str.ofString "z")=⟨#[122]⟩:=by decide +kernel
theorem yib (c:Nat) (en:En) (h:AH):ybO fLe fLe (sLit (.str "a")) (sVar 0) (sLit (.str "z")) (some (.str ⟨#[c]⟩)::en) h = .ok (.bl (yeh c)) h:=by
 simp [yi8,yi9,lt1,yeh]
 by_cases h2:c<97
 ·have : ¬ 97<=c:=by lia
  simp [h2,this]
 ·have h3:97<=c:=by lia
  by_cases h4:c<=122
  ·have : ¬ 122<c:=by lia
   simp [h2,h3,h4,this]
  ·have:122<c:=by lia
   simp [h2,h3,h4,this]
def ycf (x:Str):Bool:=decide (1<=x.length) && decide (x.length<=8) && x.cps.toList.all yeh
theorem yic (x:Str) (h:AH) (hl:x.length<=sizeLine):ycL [.str x] h = .ok (.bl (ycf x)) h:=by
 have e:=zcO (js:=[]) (en:=[some (.str x)]) (all:=x.cps.toList.map λc=>AV.str ⟨#[c]⟩) (e:=ybO fLe fLe (sLit (.str "a")) (sVar 0) (sLit (.str "z"))) (g:=λc=>AV.str ⟨#[c]⟩) (f:=λc=>AV.bl (yeh c)) (h:=h) x.cps.toList [] (λc _=>yib c _ h) (by simp;exact hl)
 simp only [List.nil_append] at e
 have al:yae fAll (yab (ybd [] (iVal (sVar 0)) sYes (ybO fLe fLe (sLit (.str "a")) (sVar 0) (sLit (.str "z")))) sNil) [some (.str x)] h = .ok (.bl (x.cps.toList.all yeh)) h:=by
  simp [-ybO]
  rw [e]
  simp [zb7]
 unfold ycL
 generalize yae fAll (yab (ybd [] (iVal (sVar 0)) sYes (ybO fLe fLe (sLit (.str "a")) (sVar 0) (sLit (.str "z")))) sNil)=AL at al ⊢
 generalize hb:x.cps.toList.all yeh=b at al
 by_cases h1:1<=x.length
 ·have i1:(1:Int)<=x.length:=by lia
  by_cases h2:x.length<=8
  ·have i2:(x.length:Int)<=8:=by lia
   simp [i1,i2,h1,h2,al,ycf,hb]
  ·have i2 : ¬ (x.length:Int)<=8:=by lia
   simp [i1,i2,h1,h2,ycf,hb]
 ·have i1 : ¬ (1:Int)<=x.length:=by lia
  simp [i1,h1,ycf,hb]
theorem zkp (en:En) (h:AH):yeI 1 4 ybY sNil en h = .ok (.ref h.length) (h++(.ins 1 [some (.ref (h.length+1)),some (.ref (h.length+10)),some (.ref (h.length+11)),some (.ref (h.length+12))]::(yfu (h.length+1)++[.dct false [],.lst [],.lst []]))):=by
 simp [ybY,ydH,yfu,List.getElem?_append,zkc]
def kxV (e:Str×Nat×Str):AV×AV:=(.str e.1,.int e.2.1)
def oN:Option Nat->AV
 | none=>.non
 | some n=>.int n
def dsV (d:Str×Option Nat×Nat):AV:=.tup [.str d.1,oN d.2.1,.int d.2.2]
structure Ho (h:AH) (q p t:Nat) (ps:List Pc) (kx:List (Str×Nat×Str)) (ds bs:List (Str×Option Nat×Nat)):Prop where
 ob:h[q]? = some (.ins 1 [some (.ref p),some (.ref t),some (.ref (t+1)),some (.ref (t+2))])
 sh:ShelfAt h p ps
 gd:Good ps
 tx:h[t]? = some (.dct false (kx.map kxV))
 de:h[t+1]? = some (.lst (ds.map dsV))
 ba:h[t+2]? = some (.lst (bs.map dsV))
 tz:∀ e∈kx,TxZ ps e.2.1 e.2.2/\ycf e.1=true
 lo:q<p/\p+8<t
 ct:kx.length<=50
theorem Ho.app {h:AH} {q p t:Nat} {ps:List Pc} {kx:List (Str×Nat×Str)} {ds bs:List (Str×Option Nat×Nat)} (H:Ho h q p t ps kx ds bs) (r:AH):Ho (h++r) q p t ps kx ds bs:=by
 have l:=yaW H.ba
 have lo:=H.lo
 have k:∀ i,i<h.length->(h++r)[i]? = h[i]? := λi hi=>List.getElem?_append_left hi
 exact ⟨(k _ (by lia)).trans H.ob,H.sh.app r,H.gd,(k _ (by lia)).trans H.tx,(k _ (by lia)).trans H.de,(k _ l).trans H.ba,H.tz,lo,H.ct⟩
def lk (kx:List (Str×Nat×Str)) (x:Str):Option (Nat×Str):=(kx.find? λe=>decide (e.1=x)).map (·.2)
theorem zdH (e:Str×Nat×Str) (r:List (Str×Nat×Str)) (x:Str):lk (e::r) x=if e.1=x then some e.2 else lk r x:=by
 unfold lk
 rw [List.find?_cons]
 by_cases q:e.1=x
 ·simp [q]
 ·simp [q]
theorem ycV {x:Str} {v:Nat×Str}:∀ {kx:List (Str×Nat×Str)},lk kx x=some v->(x,v)∈kx
 | [],e=>nomatch e
 | e::r,h=>by
  rw [zdH] at h
  by_cases q:e.1=x
  ·rw [if_pos q] at h
   cases h
   subst q
   exact List.mem_cons_self ..
  ·rw [if_neg q] at h
   exact List.mem_cons_of_mem _ (ycV h)
theorem yfa (x:Str):∀ kx:List (Str×Nat×Str),valA (kx.map kxV) (.str x)=(lk kx x).map λv=>AV.int v.1
 | []=>rfl
 | e::r=>by
  have ih:=yfa x r
  unfold valA at ih ⊢
  rw [List.map_cons,zdH,List.find?_cons]
  by_cases q:e.1=x
  ·have:decide ((kxV e).1=AV.str x)=true:=decide_eq_true (by rw [<- q];rfl)
   rw [this,if_pos q]
   rfl
  ·have:decide ((kxV e).1=AV.str x)=false:=decide_eq_false (λz=>q (by injection z))
   rw [this,if_neg q]
   exact ih
def put (kx:List (Str×Nat×Str)) (x:Str) (v:Nat×Str):List (Str×Nat×Str):=if (lk kx x).isSome=true then kx.map λe=>if e.1=x then (x,v) else e else kx++[(x,v)]
theorem yid (kx:List (Str×Nat×Str)) (x:Str) (v:Nat×Str):putA (kx.map kxV) (.str x) (.int v.1)=(put kx x v).map kxV:=by
 unfold putA put
 rw [zdy,yfa,Option.isSome_map]
 by_cases q:(lk kx x).isSome=true
 ·rw [if_pos q,if_pos q,List.map_map,List.map_map]
  refine List.map_congr_left λe _=>?_
  show (if (kxV e).1 = .str x then ((kxV e).1,AV.int v.1) else kxV e)=kxV (if e.1=x then (x,v) else e)
  by_cases z:e.1=x
  ·rw [if_pos z,if_pos (by rw [<- z];rfl)]
   show (AV.str e.1,AV.int v.1)=_
   rw [z];rfl
  ·rw [if_neg z,if_neg (λw=>z (by injection w))]
 ·rw [if_neg q,if_neg q,List.map_append]
  rfl
theorem zdI (kx:List (Str×Nat×Str)) (x:Str) (v:Nat×Str):(put kx x v).length<=kx.length+1:=by
 unfold put
 split
 ·rw [List.length_map];lia
 ·rw [List.length_append];simp
theorem zdJ {kx:List (Str×Nat×Str)} {v:Nat×Str} {e:Str×Nat×Str} (h:e∈put kx x v):e=(x,v)\/e∈kx:=by
 unfold put at h
 split at h
 ·obtain ⟨e',h',rfl⟩:=List.mem_map.mp h
  by_cases z:e'.1=x
  ·rw [if_pos z];exact .inl rfl
  ·rw [if_neg z];exact .inr h'
 ·rcases List.mem_append.mp h with h | h
  ·exact .inr h
  ·exact .inl (List.mem_singleton.mp h)
structure Fh (p t:Nat) (h h':AH):Prop where
 fr:∀ i,(i<p\/p+8<i)->i≠t->i≠t+1->i≠t+2->h'[i]? = h[i]?
 hl:h'.length=h.length
theorem Fh.trans {p t:Nat} {h h' h'':AH} (a:Fh p t h h') (b:Fh p t h' h''):Fh p t h h'' := ⟨λi h1 h2 h3 h4=>(b.fr i h1 h2 h3 h4).trans (a.fr i h1 h2 h3 h4),b.hl.trans a.hl⟩
theorem Fh.dd {t:Nat} {k:Nat} (d:Dd p h h' ps ps' k):Fh p t h h' := ⟨λi h1 _ _ _=>d.fr i (by lia),d.hl⟩
section
variable {h:AH} {q p t:Nat} {ps:List Pc} {kx:List (Str×Nat×Str)} {ds bs:List (Str×Option Nat×Nat)}
theorem Ho.dd (H:Ho h q p t ps kx ds bs) {k:Nat} (d:Dd p h h' ps ps' k):Ho h' q p t ps' kx ds bs:=by
 have lo:=H.lo
 exact ⟨(d.fr q (by lia)).trans H.ob,d.sh,d.gd,(d.fr t (by lia)).trans H.tx,(d.fr (t+1) (by lia)).trans H.de,(d.fr (t+2) (by lia)).trans H.ba,λe he=>⟨(H.tz e he).1.pre d.pre,(H.tz e he).2⟩,lo,H.ct⟩
theorem zi7 (h:ycf x=true):x.length<=8:=by
 unfold ycf at h
 simp only [Bool.and_eq_true,decide_eq_true_eq] at h
 exact h.1.2
theorem zgw (hx:ycf x=true) (hh:AH):ycL [.str x] hh = .ok (.bl true) hh:=by
 rw [yic x hh (Nat.le_trans (zi7 hx) (by decide)),hx]
theorem ycW (H:Ho h q p t ps kx ds bs) {v:Nat×Str} (l:lk kx x=some v):yaz [.ref q,.str x] h = .ok (.int v.1) h:=by
 have nm:=zgw (H.tz _ (ycV l)).2 h
 have vk:valA (kx.map kxV) (.str x)=some (.int v.1):=by rw [yfa,l];rfl
 have ni:ydG (.str x) (.ref t) h = .ok (.bl false) h:=by
  simp only [ydG,inA,H.tx,vk,ybP,keyOf?,Option.isSome];rfl
 have ix:fIx (.ref t) (.str x) h = .ok (.int v.1) h:=by
  have k1:ybP false (.str x)=true:=rfl
  simp only [fIx,H.tx,k1,vk];rfl
 simp [yaz,H.ob,nm,ni,ix,-ydG,-fIx]
theorem zbw {v:Nat×Str} (ob:hh[q]? = some (.ins 1 [some (.ref p),some (.ref t),some (.ref (t+1)),some (.ref (t+2))])) (tx:hh[t]? = some (.dct false (kx.map kxV))) (ct:kx.length<=60) :
  ya8 [.ref q,.str x,.int v.1] hh = .ok .non (hh.set t (.dct false ((put kx x v).map kxV))):=by
 have k1:ybP false (.str x)=true:=rfl
 have sz:(kx.map kxV).length<sizeLine:=by rw [List.length_map];exact Nat.lt_of_le_of_lt ct (by decide)
 have st:ybv (Sm.sFld 1 1 (sVar 0)) (sVar 1) (sVar 2) [some (.ref q),some (.str x),some (.int v.1)] hh = .nx [some (.ref q),some (.str x),some (.int v.1)] (hh.set t (.dct false ((put kx x v).map kxV))):=by
  have e:Sm.sFld 1 1 (sVar 0) [some (.ref q),some (.str x),some (.int v.1)] hh = .ok (.ref t) hh:=by simp [ob]
  have e1:sVar 1 [some (.ref q),some (.str x),some (.int v.1)] hh = .ok (.str x) hh:=rfl
  have e2:sVar 2 [some (.ref q),some (.str x),some (.int v.1)] hh = .ok (.int v.1) hh:=rfl
  simp only [ybv,e,e1,e2,Out.go,tx]
  rw [if_pos ⟨k1,sz⟩,yid]
 unfold ya8
 generalize ybv (Sm.sFld 1 1 (sVar 0)) (sVar 1) (sVar 2)=SX at *
 simp [st]
theorem f_do (H:Ho h q p t ps kx ds bs) (hx:ycf x=true) (T:TxZ ps n y) (ct:kx.length<50) (ld:ds.length<=100) :
  ∃ h',ya2 [.ref q,.str x,.int n] h = .ok .non h'/\Ho h' q p t ps (put kx x (n,y)) (ds++[(x,(lk kx x).map (·.1),n)]) []/\Fh p t h h' := by
 have lo:=H.lo
 have lt:=yaW H.tx
 have ld1:=yaW H.de
 have lb:=yaW H.ba
 have k1:ybP false (.str x)=true:=rfl
 have g1:ye7 (Sm.sFld 1 1 (sVar 0)) (sVar 1) [some (.ref q),some (.str x),some (.int n)] h = .ok (oN ((lk kx x).map (·.1))) h:=by
  have e:Sm.sFld 1 1 (sVar 0) [some (.ref q),some (.str x),some (.int n)] h = .ok (.ref t) h:=by simp [H.ob]
  unfold ye7
  rw [e]
  simp only [Out.bind,H.tx,sVar]
  show fGet t (.str x) .non h=_
  simp only [fGet,H.tx,k1,if_true,yfa]
  cases lk kx x<;>rfl
 have sz:(ds.map dsV).length<sizeLine:=by rw [List.length_map];exact Nat.lt_of_le_of_lt ld (by decide)
 have ap:yav (.ref (t+1)) [dsV (x,(lk kx x).map (·.1),n)] h = .ok .non (h.set (t+1) (.lst ((ds++[(x,(lk kx x).map (·.1),n)]).map dsV))):=by
  simp only [yav,H.de]
  rw [if_pos sz]
  simp
 have il:yat (.ref (t+1)) h=true:=by simp only [yat,ybi,H.de];rfl
 have f2:Sm.sFld 1 2 (sVar 0) [some (.ref q),some (.str x),some (.int n)] h = .ok (.ref (t+1)) h:=by simp [H.ob]
 have ob1:(h.set (t+1) (.lst ((ds++[(x,(lk kx x).map (·.1),n)]).map dsV)))[q]? = some (.ins 1 [some (.ref p),some (.ref t),some (.ref (t+1)),some (.ref (t+2))]):=by rw [List.getElem?_set_ne (by lia)];exact H.ob
 have ba1:(h.set (t+1) (.lst ((ds++[(x,(lk kx x).map (·.1),n)]).map dsV)))[t+2]? = some (.lst (bs.map dsV)):=by rw [List.getElem?_set_ne (by lia)];exact H.ba
 have tx1:(h.set (t+1) (.lst ((ds++[(x,(lk kx x).map (·.1),n)]).map dsV)))[t]? = some (.dct false (kx.map kxV)):=by rw [List.getElem?_set_ne (by lia)];exact H.tx
 have de1:(h.set (t+1) (.lst ((ds++[(x,(lk kx x).map (·.1),n)]).map dsV)))[t+1]? = some (.lst ((ds++[(x,(lk kx x).map (·.1),n)]).map dsV)):=List.getElem?_set_self ld1
 have n1:(h.set (t+1) (.lst ((ds++[(x,(lk kx x).map (·.1),n)]).map dsV))).length=h.length:=List.length_set
 have o1:∀ i,i≠t+1->(h.set (t+1) (.lst ((ds++[(x,(lk kx x).map (·.1),n)]).map dsV)))[i]? = h[i]? := λi hi=>List.getElem?_set_ne (Ne.symm hi)
 generalize hh1:h.set (t+1) (.lst ((ds++[(x,(lk kx x).map (·.1),n)]).map dsV))=h1 at *
 have cl:yed (.ref (t+2)) [] h1 = .ok .non (h1.set (t+2) (.lst [])):=by simp only [yed,ba1]
 have il1:yat (.ref (t+2)) h1=true:=by simp only [yat,ybi,ba1];rfl
 have f3:Sm.sFld 1 3 (sVar 0) [some (.ref q),some (.str x),some (.int n)] h1 = .ok (.ref (t+2)) h1:=by simp [ob1]
 have ob2:(h1.set (t+2) (.lst []))[q]? = some (.ins 1 [some (.ref p),some (.ref t),some (.ref (t+1)),some (.ref (t+2))]):=by rw [List.getElem?_set_ne (by lia)];exact ob1
 have tx2:(h1.set (t+2) (.lst []))[t]? = some (.dct false (kx.map kxV)):=by rw [List.getElem?_set_ne (by lia)];exact tx1
 have de2:(h1.set (t+2) (.lst []))[t+1]? = some (.lst ((ds++[(x,(lk kx x).map (·.1),n)]).map dsV)):=by rw [List.getElem?_set_ne (by lia)];exact de1
 have ba2:(h1.set (t+2) (.lst []))[t+2]? = some (.lst []):=List.getElem?_set_self (by lia)
 have n2:(h1.set (t+2) (.lst [])).length=h.length:=by rw [List.length_set];exact n1
 have o2:∀ i,i≠t+1->i≠t+2->(h1.set (t+2) (.lst []))[i]? = h[i]? := λi a b=>(List.getElem?_set_ne (Ne.symm b)).trans (o1 i a)
 generalize hh2:h1.set (t+2) (.lst [])=h2 at *
 have st:=zbw (x:=x) (v:=(n,y)) ob2 tx2 (by lia)
 have o3:∀ i,i≠t->i≠t+1->i≠t+2->(h2.set t (.dct false ((put kx x (n,y)).map kxV)))[i]? = h[i]? := λi a b c=>(List.getElem?_set_ne (Ne.symm a)).trans (o2 i b c)
 refine ⟨h2.set t (.dct false ((put kx x (n,y)).map kxV)),?_,⟨(o3 q (by lia) (by lia) (by lia)).trans H.ob,H.sh.keep λi a b=>o3 i (by lia) (by lia) (by lia),H.gd,List.getElem?_set_self (by lia),?_,?_,λe he=>?_,lo,Nat.le_trans (zdI ..) (by lia)⟩,⟨λi _ a b c=>o3 i a b c,by rw [List.length_set];exact n2⟩⟩
 ·have ee:(AV.tup [.str x,oN ((lk kx x).map (·.1)),.int n])=dsV (x,(lk kx x).map (·.1),n):=rfl
  generalize h2.set t (.dct false ((put kx x (n,y)).map kxV))=h3 at *
  generalize (lk kx x).map (·.1)=O at *
  unfold ya2
  generalize ye7 (Sm.sFld 1 1 (sVar 0)) (sVar 1)=G1 at *
  generalize Sm.sFld 1 2 (sVar 0)=G2 at *
  generalize Sm.sFld 1 3 (sVar 0)=G3 at *
  simp [g1,f2,ee,il,ap,f3,il1,cl,ob2,st,-yat,-yav,-yed]
 ·rw [List.getElem?_set_ne (by lia)];exact de2
 ·rw [List.getElem?_set_ne (by lia)];exact ba2
 ·rcases zdJ he with rfl | he
  ·exact ⟨T,hx⟩
  ·exact H.tz e he
end
theorem zdf (hx:ycf x=true) (hh:AH):ycQ [.str x] hh = .ok .non hh:=by
 simp [ycQ,zgw hx hh]
section
variable {h:AH} {q p t:Nat} {ps:List Pc} {kx:List (Str×Nat×Str)} {ds bs:List (Str×Option Nat×Nat)}
theorem yie (H:Ho h q p t ps kx ds bs) (hx:ycf x=true) (py:yaK y=true) (ly:y.length<=10000) (hz:ps.length+2*y.length<16000000) (ct:kx.length<50) (ld:ds.length<=100) :
  ∃ n ps' h',ybh [.ref q,.str x,.str y] h = .ok .non h'/\Ho h' q p t ps' (put kx x (n,y)) (ds++[(x,(lk kx x).map (·.1),n)]) []/\Fh p t h h'/\ps'.length<=ps.length+2*y.length:=by
 obtain ⟨n,ps',h1,fb,D,T⟩:=zgs H.sh H.gd py ly hz
 obtain ⟨h',fd,H',F⟩:=f_do (H.dd D) hx T ct ld
 have ck:=zdf hx h
 refine ⟨n,ps',h',?_,H',(Fh.dd D).trans F,D.len⟩
 unfold ybh
 generalize yc4=G at *
 generalize ya2=G2 at *
 simp [ck,H.ob,fb,fd]
def oP:Option Nat->PyData
 | none=>.none
 | some n=>.int n
def dsP (d:Str×Option Nat×Nat):PyData:=.tuple [.str d.1,oP d.2.1,.int d.2.2]
theorem ygt (k:Nat) (hh:AH):∀ l:List (Str×Option Nat×Nat),toDs (toD (k+1) hh) (l.map dsV)=some (l.map dsP)
 | []=>rfl
 | d::l=>by
  have e:toD (k+1) hh (dsV d)=some (dsP d):=by
   obtain ⟨a,o,n⟩:=d
   cases o<;>cases k<;>rfl
  show (match toD (k+1) hh (dsV d),toDs (toD (k+1) hh) (l.map dsV) with | some d,some ds=>some (d::ds) | _,_=>none)=_
  rw [e,ygt k hh l]
  rfl
theorem yja {W:Nat} {l:List (Str×Option Nat×Nat)} {d:Str×Option Nat×Nat} (e:hh[W]? = some (.lst ((l++[d]).map dsV))):fEq (.ref W) (.fl []) hh = .ok (.bl false) hh:=by
 have d1:toD 8 hh (.ref W)=some (.list ((l++[d]).map dsP)):=by
  show (match hh[W]? with | some (.lst xs)=>(toDs (toD 7 hh) xs).map PyData.list | _=>none)=_
  rw [e]
  show (toDs (toD 7 hh) ((l++[d]).map dsV)).map PyData.list=_
  rw [ygt 6];rfl
 have qq:eqA (.ref W) (.fl []) hh=some false:=by
  show (match toD 8 hh (.ref W),toD 8 hh (.fl []) with | some d,some e=>some (PyData.eqv d e) | _,_=>none)=_
  rw [d1]
  show some (PyData.eqv (.list _) (.list []))=_
  rw [PyData.eqv]
  cases l<;>rfl
 show (match eqA (.ref W) (.fl []) hh with | some b=>Out.ok (AV.bl b) hh | none=>Out.bad)=_
 rw [qq]
theorem zgx (H:Ho h q p t ps kx ds bs) {l m:List (Str×Option Nat×Nat)} {d:Str×Option Nat×Nat} (ea:h[a]? = some (.lst ((l++[d]).map dsV))) (eb:h[b]? = some (.lst (m.map dsV))) (hab:a≠b) (lm:m.length<=100) :
  fEq (.ref a) (.fl []) h = .ok (.bl false) h/\mPop (.ref a) [] h = .ok (dsV d) (h.set a (.lst (l.map dsV)))/\yat (.ref a) h=true/\yat (.ref b) (h.set a (.lst (l.map dsV)))=true /\
   yav (.ref b) [dsV d] (h.set a (.lst (l.map dsV))) = .ok .non ((h.set a (.lst (l.map dsV))).set b (.lst ((m++[d]).map dsV))):=by
 have eb':(h.set a (.lst (l.map dsV)))[b]? = some (.lst (m.map dsV)):=by rw [List.getElem?_set_ne hab];exact eb
 refine ⟨yja ea,?_,by simp only [yat,ybi,ea];rfl,by simp only [yat,ybi,eb'];rfl,?_⟩
 ·have i:((l++[d]).map dsV)[((l++[d]).map dsV).length-1]? = some (dsV d):=by simp
  have dl:((l++[d]).map dsV).dropLast=l.map dsV:=by rw [List.map_append];exact List.dropLast_concat
  simp only [mPop,ea]
  rw [i,dl]
 ·have sz:(m.map dsV).length<sizeLine:=by rw [List.length_map];exact Nat.lt_of_le_of_lt lm (by decide)
  simp only [yav,eb']
  rw [if_pos sz]
  simp
theorem zkq {n0:Nat} (H:Ho h q p t ps kx (ds++[(x,some n0,n1)]) bs) (hx:ycf x=true) (T:TxZ ps n0 y) (ct:kx.length<50) (lb:bs.length<=100) :
  ∃ h',yb0 [.ref q] h = .ok .non h'/\Ho h' q p t ps (put kx x (n0,y)) ds (bs++[(x,some n0,n1)])/\Fh p t h h' := by
 have lo:=H.lo
 have lt:=yaW H.tx
 have la:=yaW H.de
 have lb' := yaW H.ba
 obtain ⟨m1,m2,m3,m4,m5⟩:=zgx H H.de H.ba (by lia) lb
 have o1:∀ i,i≠t+1->(h.set (t+1) (.lst (ds.map dsV)))[i]? = h[i]? := λi a=>List.getElem?_set_ne (Ne.symm a)
 have d1:(h.set (t+1) (.lst (ds.map dsV)))[t+1]? = some (.lst (ds.map dsV)):=List.getElem?_set_self la
 have n1':(h.set (t+1) (.lst (ds.map dsV))).length=h.length:=List.length_set
 generalize h.set (t+1) (.lst (ds.map dsV))=h1 at *
 have o2:∀ i,i≠t+1->i≠t+2->(h1.set (t+2) (.lst ((bs++[(x,some n0,n1)]).map dsV)))[i]? = h[i]? := λi a b=>(List.getElem?_set_ne (Ne.symm b)).trans (o1 i a)
 have d2:(h1.set (t+2) (.lst ((bs++[(x,some n0,n1)]).map dsV)))[t+1]? = some (.lst (ds.map dsV)):=by rw [List.getElem?_set_ne (by lia)];exact d1
 have b2:(h1.set (t+2) (.lst ((bs++[(x,some n0,n1)]).map dsV)))[t+2]? = some (.lst ((bs++[(x,some n0,n1)]).map dsV)):=List.getElem?_set_self (by lia)
 have n2':(h1.set (t+2) (.lst ((bs++[(x,some n0,n1)]).map dsV))).length=h.length:=by rw [List.length_set];exact n1'
 generalize h1.set (t+2) (.lst ((bs++[(x,some n0,n1)]).map dsV))=h2 at *
 have ob1:=(o1 q (by lia)).trans H.ob
 have ob2:=(o2 q (by lia) (by lia)).trans H.ob
 have st:=zbw (x:=x) (v:=(n0,y)) ob2 ((o2 t (by lia) (by lia)).trans H.tx) (by lia)
 have o3:∀ i,i≠t->i≠t+1->i≠t+2->(h2.set t (.dct false ((put kx x (n0,y)).map kxV)))[i]? = h[i]? := λi a b c=>(List.getElem?_set_ne (Ne.symm a)).trans (o2 i b c)
 refine ⟨h2.set t (.dct false ((put kx x (n0,y)).map kxV)),?_,⟨(o3 q (by lia) (by lia) (by lia)).trans H.ob,H.sh.keep λi a b=>o3 i (by lia) (by lia) (by lia),H.gd,List.getElem?_set_self (by lia),?_,?_,λe he=>?_,lo,Nat.le_trans (zdI ..) (by lia)⟩,⟨λi _ a b c=>o3 i a b c,by rw [List.length_set];exact n2'⟩⟩
 ·have i0:∀ hh,fIx (dsV (x,some n0,n1)) (.int 0) hh = .ok (.str x) hh:=λ_=>rfl
  have i1:∀ hh,fIx (dsV (x,some n0,n1)) (.int 1) hh = .ok (.int n0) hh:=λ_=>rfl
  have ob:=H.ob
  generalize h2.set t (.dct false ((put kx x (n0,y)).map kxV))=h3 at *
  generalize dsV (x,some n0,n1)=V at *
  unfold yb0
  generalize ya8=G at *
  simp [ob,m1,m2,m3,m4,m5,ob1,ob2,i0,i1,st,-fEq,-yat,-yav,-mPop,-fIx]
 ·rw [List.getElem?_set_ne (by lia)];exact d2
 ·rw [List.getElem?_set_ne (by lia)];exact b2
 ·rcases zdJ he with rfl | he
  ·exact ⟨T,hx⟩
  ·exact H.tz e he
theorem zi8 {o:Option Nat} (H:Ho h q p t ps kx ds (bs++[(x,o,n1)])) (hx:ycf x=true) (T:TxZ ps n1 y) (ct:kx.length<50) (ld:ds.length<=100) :
  ∃ h',ybN [.ref q] h = .ok .non h'/\Ho h' q p t ps (put kx x (n1,y)) (ds++[(x,o,n1)]) bs/\Fh p t h h' := by
 have lo:=H.lo
 have lt:=yaW H.tx
 have la:=yaW H.de
 have lb' := yaW H.ba
 obtain ⟨m1,m2,m3,m4,m5⟩:=zgx H H.ba H.de (by lia) ld
 have o1:∀ i,i≠t+2->(h.set (t+2) (.lst (bs.map dsV)))[i]? = h[i]? := λi a=>List.getElem?_set_ne (Ne.symm a)
 have d1:(h.set (t+2) (.lst (bs.map dsV)))[t+2]? = some (.lst (bs.map dsV)):=List.getElem?_set_self lb'
 have n1':(h.set (t+2) (.lst (bs.map dsV))).length=h.length:=List.length_set
 generalize h.set (t+2) (.lst (bs.map dsV))=h1 at *
 have o2:∀ i,i≠t+1->i≠t+2->(h1.set (t+1) (.lst ((ds++[(x,o,n1)]).map dsV)))[i]? = h[i]? := λi a b=>(List.getElem?_set_ne (Ne.symm a)).trans (o1 i b)
 have d2:(h1.set (t+1) (.lst ((ds++[(x,o,n1)]).map dsV)))[t+2]? = some (.lst (bs.map dsV)):=by rw [List.getElem?_set_ne (by lia)];exact d1
 have b2:(h1.set (t+1) (.lst ((ds++[(x,o,n1)]).map dsV)))[t+1]? = some (.lst ((ds++[(x,o,n1)]).map dsV)):=List.getElem?_set_self (by lia)
 have n2':(h1.set (t+1) (.lst ((ds++[(x,o,n1)]).map dsV))).length=h.length:=by rw [List.length_set];exact n1'
 generalize h1.set (t+1) (.lst ((ds++[(x,o,n1)]).map dsV))=h2 at *
 have ob1:=(o1 q (by lia)).trans H.ob
 have ob2:=(o2 q (by lia) (by lia)).trans H.ob
 have st:=zbw (x:=x) (v:=(n1,y)) ob2 ((o2 t (by lia) (by lia)).trans H.tx) (by lia)
 have o3:∀ i,i≠t->i≠t+1->i≠t+2->(h2.set t (.dct false ((put kx x (n1,y)).map kxV)))[i]? = h[i]? := λi a b c=>(List.getElem?_set_ne (Ne.symm a)).trans (o2 i b c)
 refine ⟨h2.set t (.dct false ((put kx x (n1,y)).map kxV)),?_,⟨(o3 q (by lia) (by lia) (by lia)).trans H.ob,H.sh.keep λi a b=>o3 i (by lia) (by lia) (by lia),H.gd,List.getElem?_set_self (by lia),?_,?_,λe he=>?_,lo,Nat.le_trans (zdI ..) (by lia)⟩,⟨λi _ a b c=>o3 i a b c,by rw [List.length_set];exact n2'⟩⟩
 ·have i0:∀ hh,fIx (dsV (x,o,n1)) (.int 0) hh = .ok (.str x) hh:=λ_=>rfl
  have i1:∀ hh,fIx (dsV (x,o,n1)) (.int 2) hh = .ok (.int n1) hh:=λ_=>rfl
  have ob:=H.ob
  generalize h2.set t (.dct false ((put kx x (n1,y)).map kxV))=h3 at *
  generalize dsV (x,o,n1)=V at *
  unfold ybN
  generalize ya8=G at *
  simp [ob,m1,m2,m3,m4,m5,ob1,ob2,i0,i1,st,-fEq,-yat,-yav,-mPop,-fIx]
 ·rw [List.getElem?_set_ne (by lia)];exact b2
 ·rw [List.getElem?_set_ne (by lia)];exact d2
 ·rcases zdJ he with rfl | he
  ·exact ⟨T,hx⟩
  ·exact H.tz e he
end
structure Bo (x:Bk):Prop where
 a:1<=x.1.length
 b:x.1.length<=30
 c:1<=x.2
def fuB (x:Bk) (a:Nat):Nat:=min x.2 (a / x.1.length)
def rsB (x:Bk) (a:Nat):Nat:=a-fuB x a*x.1.length
theorem ydw {x:Bk} (h:1<=x.1.length) (a:Nat):(fuB x a=x.2/\x.1.length*x.2<=a/\rsB x a=a-x.1.length*x.2)\/(fuB x a<x.2/\a<x.1.length*x.2/\rsB x a<x.1.length/\a=x.1.length*fuB x a+rsB x a):=by
 have d:=Nat.div_add_mod a x.1.length
 have md:=Nat.mod_lt a (show x.1.length > 0 by lia)
 unfold rsB
 by_cases q:x.2<=a / x.1.length
 ·have e:fuB x a=x.2:=Nat.min_eq_left q
  refine .inl ⟨e,?_,by rw [e,Nat.mul_comm]⟩
  have:=Nat.mul_le_mul_left x.1.length q
  lia
 ·have e:fuB x a=a / x.1.length:=Nat.min_eq_right (by lia)
  rw [e,Nat.mul_comm (a / x.1.length)]
  refine .inr ⟨by lia,?_,by lia,by lia⟩
  have q':a / x.1.length<x.2:=by lia
  rw [Nat.div_lt_iff_lt_mul (by lia),Nat.mul_comm] at q'
  exact q'
def fA (x:Bk) (a:Nat):List Bk:=if 0<a then (x.1,fuB x a)::(if fuB x a<x.2/\0<rsB x a then [(tkS x.1 (rsB x a),1)] else []) else []
def fD (x:Bk) (a:Nat):List Bk:=if fuB x a<x.2/\0<rsB x a then [(dpS x.1 (rsB x a),1),(x.1,x.2-(fuB x a+1))] else [(x.1,x.2-fuB x a)]
def frA:Nat->List Bk->List Bk
 | _,[]=>[]
 | a,x::r=>fA x a++frA (a-x.1.length*x.2) r
def frD:Nat->List Bk->List Bk
 | _,[]=>[]
 | a,x::r=>fD x a++frD (a-x.1.length*x.2) r
theorem yjb {x:Bk} (o:1<=x.1.length) (a:Nat):fB (fA x a)=(rp x.1.cps.toList x.2).take a:=by
 have lr:=zaZ x
 have ln:=zad x.1
 unfold fA
 by_cases a0:0<a
 ·rw [if_pos a0]
  rcases ydw o a with ⟨e1,e2,e3⟩ | ⟨e1,e2,e3,e4⟩
  ·rw [if_neg (by lia),yck,e1,List.take_of_length_le (by lia)]
  ·generalize fuB x a=f at *
   generalize rsB x a=r at *
   have lq:=yeC x.1.cps.toList f
   rw [<- ln] at lq
   rw [ze5 _ e1,e4,<- lq,List.take_length_add_append,List.take_append_of_le_length (by lia)]
   by_cases r0:0<r
   ·rw [if_pos ⟨e1,r0⟩,fB,yck,rp_1,ycj]
   ·rw [if_neg (by lia),yck]
    have:r=0:=by lia
    rw [this];simp
 ·rw [if_neg a0]
  have:a=0:=by lia
  rw [this];rfl
theorem yjc {x:Bk} (o:1<=x.1.length) (a:Nat):fB (fD x a)=(rp x.1.cps.toList x.2).drop a:=by
 have lr:=zaZ x
 have ln:=zad x.1
 unfold fD
 rcases ydw o a with ⟨e1,e2,e3⟩ | ⟨e1,e2,e3,e4⟩
 ·rw [if_neg (by lia),yck,e1,Nat.sub_self,List.drop_of_length_le (by lia)];rfl
 ·generalize fuB x a=f at *
  generalize rsB x a=r at *
  have lq:=yeC x.1.cps.toList f
  rw [<- ln] at lq
  rw [ze5 _ e1,e4,<- lq,List.drop_length_add_append,List.drop_append_of_le_length (by lia)]
  by_cases r0:0<r
  ·rw [if_pos ⟨e1,r0⟩,fB,yck,rp_1,ycB,Nat.sub_sub]
  ·rw [if_neg (by lia),yck]
   have:r=0:=by lia
   rw [this,List.drop_zero,<- rp_s,Nat.sub_sub,show x.2-(f+1)+1=x.2-f by lia]
theorem yfb:∀ (bs:List Bk) (a:Nat),(∀ x∈bs,Bo x)->fB (frA a bs)=(fB bs).take a/\fB (frD a bs)=(fB bs).drop a
 | [],a,_=>by simp [frA,frD,fB]
 | x::r,a,h=>by
  obtain ⟨i1,i2⟩:=yfb r (a-x.1.length*x.2) λy hy=>h y (List.mem_cons_of_mem _ hy)
  have o:=(h x (List.mem_cons_self ..)).a
  rw [frA,frD,ycC,ycC,yjb o,yjc o,i1,i2,fB,List.take_append,List.drop_append,zaZ x]
  exact ⟨rfl,rfl⟩
theorem zdK:∀ (bs:List Bk) (a:Nat) (x:Bk),frA a (bs++[x])=frA a bs++fA x (a-(fB bs).length)/\frD a (bs++[x])=frD a bs++fD x (a-(fB bs).length)
 | [],a,x=>by simp [frA,frD,fB]
 | y::r,a,x=>by
  obtain ⟨i1,i2⟩:=zdK r (a-y.1.length*y.2) x
  rw [List.cons_append,frA,frD,i1,i2,frA,frD,fB,List.length_append,zaZ,Nat.sub_sub,List.append_assoc,List.append_assoc]
  exact ⟨rfl,rfl⟩
structure Bw (x:Bk):Prop where
 a:1<=x.1.length
 b:x.1.length<=30
theorem yjd {x:Bk} (o:Bo x) (a:Nat):∀ q∈fA x a,Bw q:=by
 intro q hq
 have oa:=o.a
 have ob:=o.b
 unfold fA at hq
 split at hq
 ·rcases List.mem_cons.mp hq with rfl | hq
  ·exact ⟨oa,ob⟩
  ·split at hq
   ·rename_i c
    rw [List.mem_singleton] at hq
    subst hq
    rcases ydw oa a with ⟨e1,e2,e3⟩ | ⟨e1,e2,e3,e4⟩
    ·lia
    ·exact ⟨by rw [yeg (by lia)];lia,by rw [yeg (by lia)];lia⟩
   ·cases hq
 ·cases hq
theorem yje {x:Bk} (o:Bo x) (a:Nat):∀ q∈fD x a,Bw q:=by
 intro q hq
 have oa:=o.a
 have ob:=o.b
 unfold fD at hq
 split at hq
 ·rename_i c
  rcases List.mem_cons.mp hq with rfl | hq
  ·rcases ydw oa a with ⟨e1,e2,e3⟩ | ⟨e1,e2,e3,e4⟩
   ·lia
   ·exact ⟨by rw [ydl];lia,by rw [ydl];lia⟩
  ·rw [List.mem_singleton] at hq
   subst hq
   exact ⟨oa,ob⟩
 ·rw [List.mem_singleton] at hq
  subst hq
  exact ⟨oa,ob⟩
theorem yfS:∀ (bs:List Bk) (a:Nat),(∀ x∈bs,Bo x)->(∀ q∈frA a bs,Bw q)/\∀ q∈frD a bs,Bw q
 | [],a,_=>⟨λ_ h=>(nomatch h),λ_ h=>(nomatch h)⟩
 | x::r,a,h=>by
  obtain ⟨i1,i2⟩:=yfS r (a-x.1.length*x.2) λy hy=>h y (List.mem_cons_of_mem _ hy)
  have o:=h x (List.mem_cons_self ..)
  exact ⟨λq hq=>(List.mem_append.mp hq).elim (yjd o a q) (i1 q),λq hq=>(List.mem_append.mp hq).elim (yje o a q) (i2 q)⟩
def flt (bs:List Bk):List Bk:=bs.filter λq=>decide (0<q.2)
theorem yei:∀ bs:List Bk,fB (flt bs)=fB bs
 | []=>rfl
 | x::r=>by
  unfold flt
  rw [List.filter_cons]
  by_cases q:0<x.2
  ·rw [if_pos (by simpa using q),fB,fB]
   rw [show fB (r.filter λq=>decide (0<q.2))=fB r from yei r]
  ·rw [if_neg (by simpa using q),fB]
   have:x.2=0:=by lia
   rw [this]
   exact yei r
theorem ygu {bs:List Bk} (h:∀ q∈bs,Bw q):∀ q∈flt bs,Bo q:=by
 intro q hq
 unfold flt at hq
 rw [List.mem_filter,decide_eq_true_eq] at hq
 exact ⟨(h q hq.1).a,(h q hq.1).b,hq.2⟩
theorem zgy (a b:List Bk):flt (a++b)=flt a++flt b:=List.filter_append ..
theorem ydK (a:List Bk):(flt a).length<=a.length:=List.length_filter_le ..
theorem yfv:∀ bs:List Bk,frA 0 bs=[]
 | []=>rfl
 | x::r=>by rw [frA,Nat.zero_sub,yfv r];rfl
theorem fD_0 (x:Bk):(fD x 0).length=1:=by
 unfold fD rsB
 rw [if_neg (by lia)];rfl
theorem yfT:∀ bs:List Bk,(frD 0 bs).length=bs.length
 | []=>rfl
 | x::r=>by rw [frD,Nat.zero_sub,List.length_append,yfT r,fD_0,List.length_cons];lia
theorem fA_2 (x:Bk) (a:Nat):(fA x a).length<=2:=by
 unfold fA
 split
 ·split<;>simp
 ·simp
theorem fD_2 (x:Bk) (a:Nat):(fD x a).length<=2:=by
 unfold fD
 split<;>simp
theorem zaU:∀ (bs:List Bk) (a:Nat),(∀ x∈bs,Bo x)->(frA a bs).length<=bs.length+1/\(frD a bs).length<=bs.length+1
 | [],a,_=>by simp [frA,frD]
 | x::r,a,h=>by
  obtain ⟨i1,i2⟩:=zaU r (a-x.1.length*x.2) λy hy=>h y (List.mem_cons_of_mem _ hy)
  have p1:=fA_2 x a
  have p2:=fD_2 x a
  rw [frA,frD,List.length_append,List.length_append,List.length_cons]
  rcases ydw (h x (List.mem_cons_self ..)).a a with ⟨e1,e2,e3⟩ | ⟨e1,e2,e3,e4⟩
  ·have q1:(fA x a).length<=1:=by
    unfold fA
    rw [if_neg (show ¬ (fuB x a<x.2/\0<rsB x a) by lia)]
    split<;>simp
   have q2:(fD x a).length<=1:=by
    unfold fD
    rw [if_neg (by lia)];simp
   lia
  ·rw [show a-x.1.length*x.2=0 by lia,yfv,yfT,List.length_nil]
   lia
theorem yfE:∀ (bs:List Bk) (b e:Nat),(∀ x∈bs,Bo x)->b<=e->(flt (frA b bs)).length+(flt (frD e bs)).length<=bs.length+3
 | [],b,e,_,_=>by simp [frA,frD,flt]
 | x::r,b,e,h,be=>by
  have hr:∀ y∈r,Bo y:=λy hy=>h y (List.mem_cons_of_mem _ hy)
  have o:=(h x (List.mem_cons_self ..)).a
  rw [frA,frD,zgy,zgy,List.length_append,List.length_append,List.length_cons]
  have p1:=Nat.le_trans (ydK _) (fA_2 x b)
  have p2:=Nat.le_trans (ydK _) (fD_2 x e)
  rcases ydw o e with ⟨e1,e2,e3⟩ | ⟨e1,e2,e3,e4⟩
  ·have q2:(flt (fD x e)).length=0:=by
    unfold fD
    rw [if_neg (by lia),e1,Nat.sub_self];rfl
   rcases ydw o b with ⟨c1,c2,c3⟩ | ⟨c1,c2,c3,c4⟩
   ·have q1:(fA x b).length<=1:=by
     unfold fA
     rw [if_neg (show ¬ (fuB x b<x.2/\0<rsB x b) by lia)]
     split<;>simp
    have:=ydK (fA x b)
    have:=yfE r (b-x.1.length*x.2) (e-x.1.length*x.2) hr (by lia)
    lia
   ·rw [show b-x.1.length*x.2=0 by lia,yfv]
    have:=ydK (frD (e-x.1.length*x.2) r)
    have:=(zaU r (e-x.1.length*x.2) hr).2
    have:(flt ([]:List Bk)).length=0:=rfl
    lia
  ·rw [show b-x.1.length*x.2=0 by lia,show e-x.1.length*x.2=0 by lia,yfv]
   have:=ydK (frD 0 r)
   have:=yfT r
   have:(flt ([]:List Bk)).length=0:=rfl
   lia
theorem ygv {bs:List Bk} (ok:∀ q∈bs,Bw q) (hl:bs.length<=1000):ya7 [.fl (bs.map bv)] h = .ok (.int (fB bs).length) h:=by
 have c1:=zaS (js:=[]) (en:=[some (.fl (bs.map bv))]) (w:=none) (all:=bs.map bv) (c:=un2 sYes) (e:=un2 (sOp2 fMul (yae fLen (yab (sVar 0) sNil)) (sVar 1))) (g:=bv) (f:=λx:Bk=>AV.int ((x.1.length*x.2:Nat):Int)) (p:=λ_=>true) (h:=h) rfl bs [] (λ_ _=>rfl) (by
  intro x hx _
  have b:=(ok x hx).b
  exact yi6 (a:=x.1.length) (b:=x.2) (by lia) rfl h) (by exact Nat.le_trans (m:=1000) (by simpa using hl) (by decide))
 rw [List.filter_eq_self.mpr (λ_ _=>rfl),List.nil_append] at c1
 have it:ybz (sVar 0) [some (.fl (bs.map bv))] h = .ok (bs.map bv,none) h:=by
  generalize bs.map bv=Z
  simp
 have e:(bs.map λx:Bk=>AV.int ((x.1.length*x.2:Nat):Int))=(bs.map λx:Bk=>((x.1.length*x.2:Nat):Int)).map AV.int:=by rw [List.map_map];rfl
 rw [e] at c1
 have cp:ydk [] (ybz (sVar 0)) sYes (sOp2 fMul (yae fLen (yab (sVar 0) sNil)) (sVar 1)) [some (.fl (bs.map bv))] h = .ok (.fl ((bs.map λx:Bk=>((x.1.length*x.2:Nat):Int)).map AV.int)) h:=by
  simp only [ydk,ybd,it,c1]
 have sm:fSum [.fl ((bs.map λx:Bk=>((x.1.length*x.2:Nat):Int)).map AV.int)] h = .ok (.int (fB bs).length) h:=by
  simp only [fSum,zde,sumB]
 unfold ya7
 generalize ydk [] (ybz (sVar 0)) sYes (sOp2 fMul (yae fLen (yab (sVar 0) sNil)) (sVar 1))=CP at *
 generalize (bs.map λx:Bk=>((x.1.length*x.2:Nat):Int)).map AV.int=Z at *
 generalize bs.map bv=Z2 at *
 simp [cp,sm,-fSum]
theorem ygU {bs:List Bk} (h:∀ x∈bs,Bo x):∀ x∈bs,Bw x:=λx hx=>⟨(h x hx).a,(h x hx).b⟩
theorem zdL {x:Bk} (o:Bw x) (a:Nat) (h:AH):fDiv (.int a) (.int x.1.length) h = .ok (.int (a / x.1.length:Nat)) h/\ybQ [.int x.2,.int (a / x.1.length:Nat)] h = .ok (.int (fuB x a)) h /\
  fMul (.int (fuB x a)) (.int x.1.length) h = .ok (.int (fuB x a*x.1.length:Nat)) h/\fSub (.int a) (.int (fuB x a*x.1.length:Nat)) h = .ok (.int (rsB x a)) h:=by
 have oa:=o.a
 have ob:=o.b
 have le:fuB x a*x.1.length<=a:=Nat.le_trans (Nat.mul_le_mul_right _ (Nat.min_le_right _ _)) (Nat.div_mul_le_self _ _)
 exact ⟨yi7 oa (by lia) rfl h,yfR _ _ h,yia (by lia) rfl h,yem (by unfold rsB;lia) h⟩
theorem ltD (a b:Nat) (h:AH):fLt (.int a) (.int b) h = .ok (.bl (decide (a<b))) h:=by
 have:decide ((a:Int)<b)=decide (a<b):=by apply decide_eq_decide.mpr;lia
 simp only [fLt,this]
theorem gt0D (a:Nat) (h:AH):fGt (.int a) (.int 0) h = .ok (.bl (decide (0<a))) h:=by
 have:decide ((a:Int) > 0)=decide (0<a):=by apply decide_eq_decide.mpr;lia
 simp only [fGt,this]
theorem leD (a b:Nat) (h:AH):fLe (.int a) (.int b) h = .ok (.bl (decide (a<=b))) h:=by
 have:decide ((a:Int)<=b)=decide (a<=b):=by apply decide_eq_decide.mpr;lia
 simp only [fLe,this]
theorem zg4 {x:Bk} {fs:List AV} {v0:Option AV} (eR:hh[R]? = some (.lst fs)) (hf:fs.length<=1000) (o:Bw x) (o5:Option AV) :
  ∃ c5,ybj [v0,some (.int a),some (.ref R),some (.str x.1),some (.int x.2),o5] hh = .nx [v0,some (.int ((a-x.1.length*x.2:Nat):Int)),some (.ref R),some (.str x.1),some (.int x.2),c5] (hh.set R (.lst (fs++(fA x a).map bv))):=by
 have lR:=yaW eR
 have g0:=gt0D a hh
 obtain ⟨P,m⟩:=x
 dsimp only
 by_cases a0:0<a
 ·obtain ⟨f1,f2,_,_⟩:=zdL o a hh
  obtain ⟨h1,eh1⟩:∃ h1,h1=hh.set R (.lst (fs++[bv (P,fuB (P,m) a)])):=⟨_,rfl⟩
  have R1:h1[R]? = some (.lst (fs++[bv (P,fuB (P,m) a)])):=by rw [eh1];exact List.getElem?_set_self lR
  have x1:=ap1 eR (by lia) (bv (P,fuB (P,m) a))
  rw [<- eh1] at x1
  obtain ⟨_,_,f3,f4⟩:=zdL o a h1
  have lt1:=ltD (fuB (P,m) a) m h1
  have g1:=gt0D (rsB (P,m) a) h1
  have ln:∀ hx,fLen [.str P] hx = .ok (.int P.length) hx:=λhx=>by simp
  have il:yat (.ref R) hh=true:=by simp [eR]
  have il1:yat (.ref R) h1=true:=by simp [R1]
  have cs:=ydw (x:=(P,m)) o.a a
  dsimp only at f1 f2 f3 f4 cs
  have eA:fA (P,m) a=(P,fuB (P,m) a)::(if fuB (P,m) a<m/\0<rsB (P,m) a then [(tkS P (rsB (P,m) a),1)] else []):=by unfold fA;rw [if_pos a0]
  rw [eA]
  rw [decide_eq_true a0] at g0
  by_cases c:fuB (P,m) a<m/\0<rsB (P,m) a
  ·rw [if_pos c]
   have ct:ybe (.str P) none (some (rsB (P,m) a:Int)) h1 = .ok (.str (tkS P (rsB (P,m) a))) h1:=ygq h1
   have x2:=ap1 R1 (by simp;lia) (bv (tkS P (rsB (P,m) a),1))
   have e2:h1.set R (.lst (fs++[bv (P,fuB (P,m) a)]++[bv (tkS P (rsB (P,m) a),1)]))=hh.set R (.lst (fs++[(P,fuB (P,m) a),(tkS P (rsB (P,m) a),1)].map bv)):=by
    rw [eh1,List.set_set,List.append_assoc];rfl
   rw [e2] at x2
   have x2':yav (.ref R) [.tup [.str (tkS P (rsB (P,m) a)),.int 1]] h1=_:=x2
   rw [decide_eq_true c.1] at lt1
   rw [decide_eq_true c.2] at g1
   have z:a-P.length*m=0:=by lia
   rw [z]
   refine ⟨some (.int (fuB (P,m) a)),?_⟩
   generalize hh.set R (.lst (fs++[(P,fuB (P,m) a),(tkS P (rsB (P,m) a),1)].map bv))=h2 at *
   clear eA e2 eh1 cs R1 z x2
   simp only [bv] at x1
   generalize ((a / P.length:Nat):Int)=BD at *
   generalize ((fuB (P,m) a*P.length:Nat):Int)=FP at *
   generalize (fuB (P,m) a:Int)=F at *
   generalize tkS P (rsB (P,m) a)=TP at *
   generalize (rsB (P,m) a:Int)=RS at *
   generalize (P.length:Int)=PL at *
   simp [ybj,ln,g0,f1,f2,il,x1,f3,f4,lt1,g1,il1,ct,x2',-fLen,-fMul,-fDiv,-ybQ,-fSub,-yat,-ybe,-yav,-fLt,-fGt]
  ·rw [if_neg c]
   have e2:hh.set R (.lst (fs++[(P,fuB (P,m) a)].map bv))=h1:=by rw [eh1];rfl
   rw [e2]
   have z:rsB (P,m) a=a-P.length*m:=by
    rcases cs with ⟨c1,c2,c3⟩ | ⟨c1,c2,c3,c4⟩
    ·exact c3
    ·lia
   rw [<- z]
   refine ⟨some (.int (fuB (P,m) a)),?_⟩
   have ad:(sAnd (yam (sOp2 fLt (sVar 5) (sVar 4))) (yam (sOp2 fGt (sVar 1) (sLit (.int 0))))) [v0,some (.int (rsB (P,m) a)),some (.ref R),some (.str P),some (.int m),some (.int (fuB (P,m) a))] h1 = .ok false h1:=by
    by_cases q:fuB (P,m) a<m
    ·have : ¬ 0<rsB (P,m) a:=λz=>c ⟨q,z⟩
     rw [decide_eq_true q] at lt1
     rw [decide_eq_false this] at g1
     simp [lt1,g1,-fLt,-fGt]
    ·rw [decide_eq_false q] at lt1
     simp [lt1,-fLt,-fGt]
   clear eA e2 eh1 cs R1 z lt1 g1
   simp only [bv] at x1
   unfold ybj
   generalize (sAnd (yam (sOp2 fLt (sVar 5) (sVar 4))) (yam (sOp2 fGt (sVar 1) (sLit (.int 0)))))=AD at *
   generalize ((a / P.length:Nat):Int)=BD at *
   generalize ((fuB (P,m) a*P.length:Nat):Int)=FP at *
   generalize (fuB (P,m) a:Int)=F at *
   generalize (rsB (P,m) a:Int)=RS at *
   generalize (P.length:Int)=PL at *
   simp [ln,g0,f1,f2,il,x1,f3,f4,ad,-fLen,-fMul,-fDiv,-ybQ,-fSub,-yat,-yav,-fLt,-fGt]
 ·have z:a=0:=by lia
  have eA:fA (P,m) a=[]:=by unfold fA;rw [if_neg a0]
  rw [eA,List.map_nil,List.append_nil,zi6 eR]
  rw [decide_eq_false a0] at g0
  refine ⟨o5,?_⟩
  rw [show a-P.length*m=a by lia]
  simp [ybj,g0,-fGt]
theorem zh9 {x:Bk} {fs:List AV} {v0:Option AV} (eR:hh[R]? = some (.lst fs)) (hf:fs.length<=1000) (o:Bw x) (o5:Option AV) :
  ∃ c5,ybo [v0,some (.int a),some (.ref R),some (.str x.1),some (.int x.2),o5] hh = .nx [v0,some (.int ((a-x.1.length*x.2:Nat):Int)),some (.ref R),some (.str x.1),some (.int x.2),c5] (hh.set R (.lst (fs++(fD x a).map bv))):=by
 have lR:=yaW eR
 obtain ⟨P,m⟩:=x
 dsimp only
 obtain ⟨f1,f2,f3,f4⟩:=zdL o a hh
 have lt1:=ltD (fuB (P,m) a) m hh
 have g1:=gt0D (rsB (P,m) a) hh
 have ln:∀ hx,fLen [.str P] hx = .ok (.int P.length) hx:=λhx=>by simp
 have il:yat (.ref R) hh=true:=by simp [eR]
 have cs:=ydw (x:=(P,m)) o.a a
 dsimp only at f1 f2 f3 f4 cs
 have fm:fuB (P,m) a<=m:=Nat.min_le_left _ _
 unfold fD
 dsimp only
 by_cases c:fuB (P,m) a<m/\0<rsB (P,m) a
 ·rw [if_pos c]
  have rl:rsB (P,m) a<=P.length:=by lia
  have ct:ybe (.str P) (some (rsB (P,m) a:Int)) none hh = .ok (.str (dpS P (rsB (P,m) a))) hh:=ygr rl hh
  obtain ⟨h1,eh1⟩:∃ h1,h1=hh.set R (.lst (fs++[bv (dpS P (rsB (P,m) a),1)])):=⟨_,rfl⟩
  have R1:h1[R]? = some (.lst (fs++[bv (dpS P (rsB (P,m) a),1)])):=by rw [eh1];exact List.getElem?_set_self lR
  have x1:yav (.ref R) [.tup [.str (dpS P (rsB (P,m) a)),.int 1]] hh=_:=ap1 eR (by lia) (bv (dpS P (rsB (P,m) a),1))
  rw [<- eh1] at x1
  have il1:yat (.ref R) h1=true:=by simp [R1]
  have ad1:fAdd (.int (fuB (P,m) a)) (.int 1) h1 = .ok (.int ((fuB (P,m) a+1:Nat):Int)) h1:=ydv rfl h1
  have sb1:fSub (.int m) (.int ((fuB (P,m) a+1:Nat):Int)) h1 = .ok (.int ((m-(fuB (P,m) a+1):Nat):Int)) h1:=yem (by lia) h1
  have x2:=ap1 R1 (by simp;lia) (bv (P,m-(fuB (P,m) a+1)))
  have e2:h1.set R (.lst (fs++[bv (dpS P (rsB (P,m) a),1)]++[bv (P,m-(fuB (P,m) a+1))]))=hh.set R (.lst (fs++[(dpS P (rsB (P,m) a),1),(P,m-(fuB (P,m) a+1))].map bv)):=by
   rw [eh1,List.set_set,List.append_assoc];rfl
  rw [e2] at x2
  rw [decide_eq_true c.1] at lt1
  rw [decide_eq_true c.2] at g1
  have z:a-P.length*m=0:=by lia
  rw [z]
  refine ⟨some (.int ((fuB (P,m) a+1:Nat):Int)),?_⟩
  generalize hh.set R (.lst (fs++[(dpS P (rsB (P,m) a),1),(P,m-(fuB (P,m) a+1))].map bv))=h2 at *
  clear e2 eh1 cs R1 z fm rl
  simp only [bv] at x2
  generalize ((a / P.length:Nat):Int)=BD at *
  generalize ((fuB (P,m) a*P.length:Nat):Int)=FP at *
  generalize ((m-(fuB (P,m) a+1):Nat):Int)=MF at *
  generalize ((fuB (P,m) a+1:Nat):Int)=F1 at *
  generalize (fuB (P,m) a:Int)=F at *
  generalize dpS P (rsB (P,m) a)=TP at *
  generalize (rsB (P,m) a:Int)=RS at *
  generalize (P.length:Int)=PL at *
  simp [ybo,ln,f1,f2,il,x1,f3,f4,lt1,g1,il1,ct,ad1,sb1,x2,-fLen,-fMul,-fDiv,-ybQ,-fSub,-fAdd,-yat,-ybe,-yav,-fLt,-fGt]
 ·rw [if_neg c]
  have sb1:fSub (.int m) (.int (fuB (P,m) a)) hh = .ok (.int ((m-fuB (P,m) a:Nat):Int)) hh:=yem (by lia) hh
  have x1:=ap1 eR (by lia) (bv (P,m-fuB (P,m) a))
  have e2:hh.set R (.lst (fs++[(P,m-fuB (P,m) a)].map bv))=hh.set R (.lst (fs++[bv (P,m-fuB (P,m) a)])):=rfl
  rw [e2]
  have z:rsB (P,m) a=a-P.length*m:=by
   rcases cs with ⟨c1,c2,c3⟩ | ⟨c1,c2,c3,c4⟩
   ·exact c3
   ·lia
  rw [<- z]
  refine ⟨some (.int (fuB (P,m) a)),?_⟩
  have ad:(sAnd (yam (sOp2 fLt (sVar 5) (sVar 4))) (yam (sOp2 fGt (sVar 1) (sLit (.int 0))))) [v0,some (.int (rsB (P,m) a)),some (.ref R),some (.str P),some (.int m),some (.int (fuB (P,m) a))] hh = .ok false hh:=by
   by_cases q:fuB (P,m) a<m
   ·have : ¬ 0<rsB (P,m) a:=λz=>c ⟨q,z⟩
    rw [decide_eq_true q] at lt1
    rw [decide_eq_false this] at g1
    simp [lt1,g1,-fLt,-fGt]
   ·rw [decide_eq_false q] at lt1
    simp [lt1,-fLt,-fGt]
  generalize hh.set R (.lst (fs++[bv (P,m-fuB (P,m) a)]))=h2 at *
  clear e2 cs z lt1 g1
  simp only [bv] at x1
  unfold ybo
  generalize (sAnd (yam (sOp2 fLt (sVar 5) (sVar 4))) (yam (sOp2 fGt (sVar 1) (sLit (.int 0)))))=AD at *
  generalize ((a / P.length:Nat):Int)=BD at *
  generalize ((fuB (P,m) a*P.length:Nat):Int)=FP at *
  generalize ((m-fuB (P,m) a:Nat):Int)=MF at *
  generalize (fuB (P,m) a:Int)=F at *
  generalize (rsB (P,m) a:Int)=RS at *
  generalize (P.length:Int)=PL at *
  simp [ln,f1,f2,il,x1,f3,f4,ad,sb1,-fLen,-fMul,-fDiv,-ybQ,-fSub,-yat,-yav,-fLt,-fGt]
theorem ze6 (h:AH) (a b:AO):(h++[a]).set h.length b=h++[b]:=by simp
theorem yfU {bs:List Bk} {x:Bk} (e:bs[j]? = some x):(fB (bs.take (j+1))).length=(fB (bs.take j)).length+x.1.length*x.2:=by
 rw [zcq e,ycC,yck,List.length_append,zaZ]
theorem ze7 {bs:List Bk} (e:hh[R]? = some (.lst (bs.map bv))) (hl:bs.length<=1000) (o0 o1 o3 o4 o5:Option AV) :
  ybd [] (iVal (sVar 2)) (yam (sOp2 fGt (sOp2 fIx (sVar 0) (sLit (.int 1))) (sLit (.int 0)))) (sVar 0) [o0,o1,some (.ref R),o3,o4,o5] hh = .ok (.fl ((flt bs).map bv)) hh:=by
 have lv:ybV (some R) (bs.map bv) hh=true:=by simp [e]
 have c1:=zaS (js:=[]) (en:=[o0,o1,some (.ref R),o3,o4,o5]) (w:=some R) (all:=bs.map bv) (c:=yam (sOp2 fGt (sOp2 fIx (sVar 0) (sLit (.int 1))) (sLit (.int 0)))) (e:=sVar 0) (g:=bv) (f:=bv) (p:=λq=>decide (0<q.2)) (h:=hh) lv bs [] (by
  intro q hq
  have x1:fIx (bv q) (.int 1) hh = .ok (.int q.2) hh:=rfl
  have gt:=gt0D q.2 hh
  generalize (q.2:Int)=A at *
  generalize bv q=Q at *
  simp [x1,gt,-fIx,-fGt]) (λ_ _ _=>rfl) (by exact Nat.le_trans (m:=1000) (by simpa using hl) (by decide))
 rw [List.nil_append] at c1
 have it:iVal (sVar 2) [o0,o1,some (.ref R),o3,o4,o5] hh = .ok (bs.map bv,some R) hh:=by simp [e]
 simp only [ybd,it,c1];rfl
theorem zcW {bs:List Bk} (ok:∀ x∈bs,Bo x) (hl:bs.length<=900):ya3 [.fl (bs.map bv),.int a] h = .ok (.fl ((flt (frA a bs)).map bv)) (h++[.lst ((frA a bs).map bv)]):=by
 obtain ⟨Z,eZ⟩:∃ Z,Z=AV.fl (bs.map bv):=⟨_,rfl⟩
 obtain ⟨e',h',r1,o3,o4,o5,rfl,rfl⟩:=yct (w:=none) (all:=bs.map bv) (t:=.tup [3,4]) (b:=ybj) (xs:=bs.map bv) (en:=[some Z,some (.int a),some (.ref h.length),none,none,none]) (h:=h++[.lst []])
  (λj en hh=>∃ o3 o4 o5,en=[some Z,some (.int ((a-(fB (bs.take j)).length:Nat):Int)),some (.ref h.length),o3,o4,o5]/\hh=h++[.lst ((frA a (bs.take j)).map bv)]) ⟨none,none,none,rfl,rfl⟩ (λ_ _ _ _=>rfl) (by
   rintro j u en hh hu ⟨o3,o4,o5,rfl,rfl⟩
   rw [List.getElem?_map] at hu
   obtain ⟨x,ex,rfl⟩:=Option.map_eq_some_iff.mp hu
   have ox:=ok x (List.mem_of_getElem? ex)
   have eR:(h++[AO.lst ((frA a (bs.take j)).map bv)])[h.length]? = some (.lst ((frA a (bs.take j)).map bv)):=by simp
   have ll:=(zaU (bs.take j) a λy hy=>ok y (List.mem_of_mem_take hy)).1
   have lt:(bs.take j).length<=900:=by rw [List.length_take];lia
   obtain ⟨c5,e⟩:=zg4 (v0:=some Z) (a:=a-(fB (bs.take j)).length) eR (by rw [List.length_map];lia) ⟨ox.a,ox.b⟩ o5
   obtain ⟨BB,hB⟩:∃ BB,BB=ybj:=⟨_,rfl⟩
   rw [<- hB] at e ⊢
   show thn (BB [some Z,some (.int ((a-(fB (bs.take j)).length:Nat):Int)),some (.ref h.length),some (.str x.1),some (.int x.2),o5] (h++[AO.lst ((frA a (bs.take j)).map bv)])) _
   rw [e]
   refine ⟨some (.str x.1),some (.int x.2),c5,?_,?_⟩
   ·rw [yfU ex,Nat.sub_sub]
   ·rw [ze6,zcq ex,(zdK ..).1,List.map_append])
 rw [List.length_map,List.take_of_length_le (Nat.le_refl _)] at r1
 have fl:=ze7 (R:=h.length) (hh:=h++[AO.lst ((frA a bs).map bv)]) (bs:=frA a bs) (by simp) (by have:=(zaU bs a ok).1;lia) (some Z) (some (.int ((a-(fB bs).length:Nat):Int))) o3 o4 o5
 have it:ybz (sVar 0) [some Z,some (.int a),some (.ref h.length),none,none,none] (h++[AO.lst []]) = .ok (bs.map bv,none) (h++[AO.lst []]):=by
  rw [eZ]
  generalize bs.map bv=W
  simp
 have f1:=(yb1 (t:=.tup [3,4]) (b:=ybj) it).trans r1
 rw [<- eZ]
 unfold ya3
 generalize ybd [] (iVal (sVar 2)) (yam (sOp2 fGt (sOp2 fIx (sVar 0) (sLit (.int 1))) (sLit (.int 0)))) (sVar 0)=SC at *
 generalize sFor (ybz (sVar 0)) (.tup [3,4]) ybj=FF at *
 generalize ((a-(fB bs).length:Nat):Int)=AF at *
 generalize (a:Int)=A at *
 generalize (frA a bs).map bv=FA at *
 generalize (flt (frA a bs)).map bv=FL at *
 simp [f1,fl]
theorem zdM {bs:List Bk} (ok:∀ x∈bs,Bo x) (hl:bs.length<=900):ybc [.fl (bs.map bv),.int a] h = .ok (.fl ((flt (frD a bs)).map bv)) (h++[.lst ((frD a bs).map bv)]):=by
 obtain ⟨Z,eZ⟩:∃ Z,Z=AV.fl (bs.map bv):=⟨_,rfl⟩
 obtain ⟨e',h',r1,o3,o4,o5,rfl,rfl⟩:=yct (w:=none) (all:=bs.map bv) (t:=.tup [3,4]) (b:=ybo) (xs:=bs.map bv) (en:=[some Z,some (.int a),some (.ref h.length),none,none,none]) (h:=h++[.lst []])
  (λj en hh=>∃ o3 o4 o5,en=[some Z,some (.int ((a-(fB (bs.take j)).length:Nat):Int)),some (.ref h.length),o3,o4,o5]/\hh=h++[.lst ((frD a (bs.take j)).map bv)]) ⟨none,none,none,rfl,rfl⟩ (λ_ _ _ _=>rfl) (by
   rintro j u en hh hu ⟨o3,o4,o5,rfl,rfl⟩
   rw [List.getElem?_map] at hu
   obtain ⟨x,ex,rfl⟩:=Option.map_eq_some_iff.mp hu
   have ox:=ok x (List.mem_of_getElem? ex)
   have eR:(h++[AO.lst ((frD a (bs.take j)).map bv)])[h.length]? = some (.lst ((frD a (bs.take j)).map bv)):=by simp
   have ll:=(zaU (bs.take j) a λy hy=>ok y (List.mem_of_mem_take hy)).2
   have lt:(bs.take j).length<=900:=by rw [List.length_take];lia
   obtain ⟨c5,e⟩:=zh9 (v0:=some Z) (a:=a-(fB (bs.take j)).length) eR (by rw [List.length_map];lia) ⟨ox.a,ox.b⟩ o5
   obtain ⟨BB,hB⟩:∃ BB,BB=ybo:=⟨_,rfl⟩
   rw [<- hB] at e ⊢
   show thn (BB [some Z,some (.int ((a-(fB (bs.take j)).length:Nat):Int)),some (.ref h.length),some (.str x.1),some (.int x.2),o5] (h++[AO.lst ((frD a (bs.take j)).map bv)])) _
   rw [e]
   refine ⟨some (.str x.1),some (.int x.2),c5,?_,?_⟩
   ·rw [yfU ex,Nat.sub_sub]
   ·rw [ze6,zcq ex,(zdK ..).2,List.map_append])
 rw [List.length_map,List.take_of_length_le (Nat.le_refl _)] at r1
 have fl:=ze7 (R:=h.length) (hh:=h++[AO.lst ((frD a bs).map bv)]) (bs:=frD a bs) (by simp) (by have:=(zaU bs a ok).2;lia) (some Z) (some (.int ((a-(fB bs).length:Nat):Int))) o3 o4 o5
 have it:ybz (sVar 0) [some Z,some (.int a),some (.ref h.length),none,none,none] (h++[AO.lst []]) = .ok (bs.map bv,none) (h++[AO.lst []]):=by
  rw [eZ]
  generalize bs.map bv=W
  simp
 have f1:=(yb1 (t:=.tup [3,4]) (b:=ybo) it).trans r1
 rw [<- eZ]
 unfold ybc
 generalize ybd [] (iVal (sVar 2)) (yam (sOp2 fGt (sOp2 fIx (sVar 0) (sLit (.int 1))) (sLit (.int 0)))) (sVar 0)=SC at *
 generalize sFor (ybz (sVar 0)) (.tup [3,4]) ybo=FF at *
 generalize ((a-(fB bs).length:Nat):Int)=AF at *
 generalize (a:Int)=A at *
 generalize (frD a bs).map bv=FA at *
 generalize (flt (frD a bs)).map bv=FL at *
 simp [f1,fl]
theorem yfc {bs:List Bk} (ok:∀ x∈bs,Bo x) (a:Nat):(∀ x∈flt (frA a bs),Bo x)/\∀ x∈flt (frD a bs),Bo x:=⟨ygu (yfS bs a ok).1,ygu (yfS bs a ok).2⟩
theorem zi9 {P:Str} {m:Nat} (o0 o1 o2:Option AV) (hm:y.length+P.length*m<=1000) (hP:1<=P.length):ybr [o0,o1,o2,some (.str y),some (.str P),some (.int m)] hh = .nx [o0,o1,o2,some (.str (y++repS P m)),some (.str P),some (.int m)] hh:=by
 have lr:=zbG P m
 have mu:yeK (.str P) (.int m) hh = .ok (.str (repS P m)) hh:=by
  have q1:m<=P.length*m:=Nat.le_mul_of_pos_left m hP
  have c:((m:Int)).natAbs<2 ^ 40/\P.length*((m:Int)).toNat<=1000000:=⟨Nat.lt_of_le_of_lt (m:=1000) (by lia) (by decide),by rw [Int.toNat_natCast];lia⟩
  simp only [yeK,c,and_self,if_true]
  rfl
 have ad:fAdd (.str y) (.str (repS P m)) hh = .ok (.str (y++repS P m)) hh:=by
  have:y.length+(repS P m).length<=sizeLine:=Nat.le_trans (m:=1000) (by lia) (by decide)
  simp only [fAdd,this,if_true]
 simp [ybr,mu,ad,-yeK,-fAdd]
theorem zja {bs:List Bk} (ok:∀ x∈bs,Bo x) (hl:bs.length<=800) (be:b<=e) (w:e-b<=100) :
  ∃ (z:Str) (r:AH),ycA [.fl (bs.map bv),.int b,.int e] h = .ok (.str z) (h++r)/\z.cps.toList=clip b e (fB bs) 0:=by
 have lD:=(zaU bs b ok).2
 obtain ⟨X,eX⟩:∃ X,X=flt (frD b bs):=⟨_,rfl⟩
 have okX:∀ x∈X,Bo x:=by rw [eX];exact (yfc ok b).2
 have lX:X.length<=801:=by have:=ydK (frD b bs);rw [eX];lia
 have f1:=zdM (h:=h) (a:=b) ok (by lia)
 rw [<- eX] at f1
 obtain ⟨Y,eY⟩:∃ Y,Y=flt (frA (e-b) X):=⟨_,rfl⟩
 have okY:∀ x∈Y,Bo x:=by rw [eY];exact (yfc okX (e-b)).1
 have lY:Y.length<=802:=by have:=ydK (frA (e-b) X);have:=(zaU X (e-b) okX).1;rw [eY];lia
 obtain ⟨R1,eR1⟩:∃ R1,R1=AO.lst ((frD b bs).map bv):=⟨_,rfl⟩
 rw [<- eR1] at f1
 have f2:=zcW (h:=h++[R1]) (a:=e-b) okX (by lia)
 obtain ⟨R2,eR2⟩:∃ R2,R2=AO.lst ((frA (e-b) X).map bv):=⟨_,rfl⟩
 rw [<- eY,<- eR2] at f2
 have fY:fB Y=clip b e (fB bs) 0:=by
  rw [eY,yei,(yfb X _ okX).1,eX,yei,(yfb bs _ ok).2]
  unfold clip
  rw [Nat.sub_zero,Nat.sub_zero,List.drop_take]
 have lfY:(fB Y).length<=100:=by rw [fY];unfold clip;rw [List.length_drop,List.length_take];lia
 have sb:fSub (.int e) (.int b) (h++[R1]) = .ok (.int ((e-b:Nat):Int)) (h++[R1]):=yem (by lia) _
 obtain ⟨Z,eZ⟩:∃ Z,Z=AV.fl (bs.map bv):=⟨_,rfl⟩
 rw [<- eZ] at f1 ⊢
 obtain ⟨e',h',r1,y,o4,o5,rfl,rfl,ey⟩:=yct (w:=none) (all:=Y.map bv) (t:=.tup [4,5]) (b:=ybr) (xs:=Y.map bv) (en:=[some Z,some (.int b),some (.int e),some (.str ""),none,none]) (h:=h++[R1]++[R2])
  (λj en hh=>∃ (y:Str) (o4 o5:Option AV),en=[some Z,some (.int b),some (.int e),some (.str y),o4,o5]/\hh=h++[R1]++[R2]/\y.cps.toList=fB (Y.take j)) ⟨"",none,none,rfl,rfl,rfl⟩ (λ_ _ _ _=>rfl) (by
   rintro j u en hh hu ⟨y,o4,o5,rfl,rfl,ey⟩
   rw [List.getElem?_map] at hu
   obtain ⟨x,ex,rfl⟩:=Option.map_eq_some_iff.mp hu
   have ox:=okY x (List.mem_of_getElem? ex)
   have l1:=yfU ex
   have l2:(fB (Y.take (j+1))).length<=(fB Y).length:=by
    have:fB Y=fB (Y.take (j+1))++fB (Y.drop (j+1)):=by rw [<- ycC,List.take_append_drop]
    rw [this,List.length_append];lia
   have ly:y.length=(fB (Y.take j)).length:=by rw [zad,ey]
   have st:=zi9 (y:=y) (P:=x.1) (m:=x.2) (hh:=h++[R1]++[R2]) (some Z) (some (.int b)) (some (.int e)) (by lia) ox.a
   obtain ⟨BB,hB⟩:∃ BB,BB=ybr:=⟨_,rfl⟩
   rw [<- hB] at st ⊢
   show thn (BB [some Z,some (.int b),some (.int e),some (.str y),some (.str x.1),some (.int x.2)] (h++[R1]++[R2])) _
   rw [st]
   refine ⟨_,_,_,rfl,rfl,?_⟩
   rw [zae,ey,zcq ex,ycC,yck,zbh];rfl)
 rw [List.length_map,List.take_of_length_le (Nat.le_refl _)] at ey
 refine ⟨y,[R1]++[R2],?_,ey.trans fY⟩
 have it:ybz (yae ya3 (yab (yae ybc (yab (sVar 0) (yab (sVar 1) sNil))) (yab (sOp2 fSub (sVar 2) (sVar 1)) sNil))) [some Z,some (.int b),some (.int e),some (.str ""),none,none] h = .ok (Y.map bv,none) (h++[R1]++[R2]):=by
  generalize ya3=G1 at *
  generalize ybc=G2 at *
  generalize Y.map bv=YB at *
  generalize X.map bv=XB at *
  generalize ((e-b:Nat):Int)=EB at *
  clear eZ r1
  simp [f1,sb,f2,-fSub]
 have lp:=(yb1 (t:=.tup [4,5]) (b:=ybr) it).trans r1
 unfold ycA
 generalize sFor (ybz (yae ya3 (yab (yae ybc (yab (sVar 0) (yab (sVar 1) sNil))) (yab (sOp2 fSub (sVar 2) (sVar 1)) sNil)))) (.tup [4,5]) ybr=FF at *
 rw [<- List.append_assoc]
 simp [lp]
structure Hs (h:AH) (q p t L:Nat) (ps:List Pc):Prop where
 ob:h[q]? = some (.ins 1 [some (.ref p),some (.ref t),some (.ref (t+1)),some (.ref (t+2))])
 sh:ShelfAt h p ps
 gd:Good ps
 lo:q<p/\p+8<t/\t+2<L
 st:∃ N:Int,h[L]? = some (.lst [.int N])
theorem Hs.fr {h h':AH} {q p t L:Nat} {ps:List Pc} (H:Hs h q p t L ps) (F:Fr L h h'):Hs h' q p t L ps:=by
 have lo:=H.lo
 obtain ⟨N,e⟩:=H.st
 have lL:=yaW e
 exact ⟨(F.fr q (by lia) (by lia)).trans H.ob,H.sh.keep λi _ i8=>F.fr i (by lia) (by lia),H.gd,lo,F.ro⟩
theorem Hs.app {h:AH} {q p t L:Nat} {ps:List Pc} (H:Hs h q p t L ps) (r:AH):Hs (h++r) q p t L ps:=H.fr ((⟨λ_ _ _=>rfl,Nat.le_refl _,H.st⟩:Fr L h h).app r)
theorem ze8 {q t:Nat} (H:Hs h q p t L ps):ybs [.ref q] h = .ok (.ref p) h:=by
 have ob:=H.ob
 simp [ybs,ob]
structure Rd85 (ps:List Pc) (n:Nat) (y:Str) (bs:List Bk):Prop where
 tx:TxZ ps n y
 ey:y.cps.toList=fB bs
 ok:∀ x∈bs,Bo x
 hy:y.length<=100000000000000000
theorem zia {q t v:Nat} {bs:List Bk} (H:Hs hh q p t L ps) (R:Rd85 ps n y bs) (hl:bs.length<=800) (hv:v<=y.length) (o6:Option AV) :
  ∃ (e:Nat) (r:AH),ybK [some (.ref q),some (.fl (bs.map bv)),some (.int n),some (.ref L),some (.int y.length),some (.int v),o6] hh = .nx [some (.ref q),some (.fl (bs.map bv)),some (.int n),some (.ref L),some (.int y.length),some (.int v),some (.int e)] (hh++r):=by
 obtain ⟨e,ee⟩:∃ e,e=min y.length (v+40):=⟨_,rfl⟩
 have ad:fAdd (.int v) (.int 40) hh = .ok (.int ((v+40:Nat):Int)) hh:=ydv rfl hh
 have mn:ybQ [.int y.length,.int ((v+40:Nat):Int)] hh = .ok (.int e) hh:=by rw [ee];exact yfR _ _ hh
 have hs:=ze8 H
 obtain ⟨z1,r1,e1,c1⟩:=zh8 H.sh H.gd R.tx (b:=v) (e:=e) (by lia) (by lia) (by lia)
 have ln:=zad y
 obtain ⟨z2,r2,e2,c2⟩:=zja (h:=hh++r1) (b:=v) (e:=e) R.ok hl (by lia) (by lia)
 have zz:z1=z2:=zaf (by rw [c1,c2,R.ey])
 subst zz
 have nn:∀ hx,fNe (.str z1) (.str z1) hx = .ok (.bl false) hx:=λhx=>by simp
 refine ⟨e,r1++r2,?_⟩
 rw [<- List.append_assoc]
 have ob:=H.ob
 have obp:=H.sh.ob
 unfold ybK
 generalize bs.map bv=Z at *
 generalize (y.length:Int)=Y at *
 generalize ((v+40:Nat):Int)=V4 at *
 generalize (v:Int)=V at *
 generalize (e:Int)=E at *
 generalize ybs=G1 at *
 generalize yci=G2 at *
 generalize ycA=G3 at *
 simp [ad,mn,hs,ob,e1,e2,nn,-fAdd,-ybQ,-fNe]
theorem yfF {q t:Nat} {bs:List Bk} (H:Hs h q p t L ps) (R:Rd85 ps n y bs) (hl:bs.length<=800) :
  ∃ h',yaS [.ref q,.fl (bs.map bv),.int n,.ref L] h = .ok (.bl true) h'/\Fr L h h' := by
 have hy:=R.hy
 have ly:(fB bs).length=y.length:=by rw [<- R.ey,<- zad]
 have lg:=ygv (h:=h) (ygU R.ok) (by lia)
 rw [ly] at lg
 obtain ⟨m,em,sm⟩:=R.tx.meas
 have sg:=zah H.sh em
 rw [sm] at sg
 have hs:=ze8 H
 have ne:fNe (.int y.length) (.int y.length) h = .ok (.bl false) h:=by simp
 have F0:Fr L h h:=⟨λ_ _ _=>rfl,Nat.le_refl _,H.st⟩
 obtain ⟨v1,N1,hv1,t1,F1⟩:=F0.take (y.length+1) (Nat.succ_pos _) (Nat.le_trans (Nat.succ_le_succ hy) (by decide))
 obtain ⟨h1,eh1⟩:∃ h1,h1=h.set L (.lst [.int N1]):=⟨_,rfl⟩
 rw [<- eh1] at t1 F1
 obtain ⟨v2,N2,hv2,t2,F2⟩:=F1.take (y.length+1) (Nat.succ_pos _) (Nat.le_trans (Nat.succ_le_succ hy) (by decide))
 obtain ⟨h2,eh2⟩:∃ h2,h2=h1.set L (.lst [.int N2]):=⟨_,rfl⟩
 rw [<- eh2] at t2 F2
 have ad:∀ hx,fAdd (.int y.length) (.int 1) hx = .ok (.int ((y.length+1:Nat):Int)) hx:=λhx=>ydv rfl hx
 obtain ⟨w,ew⟩:∃ w:Nat,w=y.length-40:=⟨_,rfl⟩
 have sb:fSub (.int y.length) (.int 40) h = .ok (.int ((y.length:Int)-40)) h:=rfl
 have mx:ycE [.int 0,.int ((y.length:Int)-40)] h = .ok (.int w) h:=by
  have:(if (y.length:Int)-40 > 0 then (y.length:Int)-40 else 0)=(w:Int):=by split<;>lia
  simp only [ycE,this]
 obtain ⟨Z,eZ⟩:∃ Z,Z=AV.fl (bs.map bv):=⟨_,rfl⟩
 obtain ⟨pl,epl⟩:∃ pl:List Nat,pl=[0,w,v1,v2]:=⟨_,rfl⟩
 have pok:∀ v∈pl,v<=y.length:=by
  intro v hv
  rw [epl] at hv
  simp at hv
  lia
 obtain ⟨e',h',r1,o5,o6,rfl,F3⟩:=yct (w:=none) (all:=pl.map λv:Nat=>AV.int v) (t:=.nm 5) (b:=ybK) (xs:=pl.map λv:Nat=>AV.int v) (en:=[some (.ref q),some Z,some (.int n),some (.ref L),some (.int y.length),none,none]) (h:=h2)
  (λj en hh=>∃ o5 o6,en=[some (.ref q),some Z,some (.int n),some (.ref L),some (.int y.length),o5,o6]/\Fr L h hh) ⟨none,none,rfl,F2⟩ (λ_ _ _ _=>rfl) (by
   rintro j u en hh hu ⟨o5,o6,rfl,F⟩
   rw [List.getElem?_map] at hu
   obtain ⟨v,ev,rfl⟩:=Option.map_eq_some_iff.mp hu
   obtain ⟨e,r,st⟩:=zia (H.fr F) R hl (pok v (List.mem_of_getElem? ev)) o6
   rw [<- eZ] at st
   obtain ⟨BB,hB⟩:∃ BB,BB=ybK:=⟨_,rfl⟩
   rw [<- hB] at st ⊢
   show thn (BB [some (.ref q),some Z,some (.int n),some (.ref L),some (.int y.length),some (.int v),o6] hh) _
   rw [st]
   exact ⟨_,_,rfl,F.app r⟩)
 refine ⟨h',?_,F3⟩
 have ob:=H.ob
 have obp:=H.sh.ob
 have pv:pl.map (λv:Nat=>AV.int v)=[.int 0,.int w,.int v1,.int v2]:=by rw [epl];rfl
 have it:iVal (sLst (yab (sLit (.int 0)) (yab (yae ycE (yab (sLit (.int 0)) (yab (sOp2 fSub (sVar 4) (sLit (.int 40))) sNil))) (yab (yae yau (yab (sVar 3) (yab (sOp2 fAdd (sVar 4) (sLit (.int 1))) sNil))) (yab (yae yau (yab (sVar 3) (yab (sOp2 fAdd (sVar 4) (sLit (.int 1))) sNil))) sNil))))) [some (.ref q),some Z,some (.int n),some (.ref L),some (.int y.length),none,none] h = .ok (pl.map λv:Nat=>AV.int v,none) h2:=by
  rw [pv]
  clear r1 eZ epl ew
  generalize yau=G at *
  generalize ((y.length+1:Nat):Int)=Y1 at *
  generalize (y.length:Int)-40=Y4 at *
  generalize (y.length:Int)=Y at *
  simp [sb,mx,ad,t1,t2,-fSub,-ycE,-fAdd]
 have lp:=(yb1 (t:=.nm 5) (b:=ybK) it).trans r1
 rw [<- eZ] at lg ⊢
 unfold yaS
 generalize sFor (iVal (sLst (yab (sLit (.int 0)) (yab (yae ycE (yab (sLit (.int 0)) (yab (sOp2 fSub (sVar 4) (sLit (.int 40))) sNil))) (yab (yae yau (yab (sVar 3) (yab (sOp2 fAdd (sVar 4) (sLit (.int 1))) sNil))) (yab (yae yau (yab (sVar 3) (yab (sOp2 fAdd (sVar 4) (sLit (.int 1))) sNil))) sNil)))))) (.nm 5) ybK=FF at *
 generalize ya7=G1 at *
 generalize ybs=G2 at *
 generalize yay=G3 at *
 generalize (y.length:Int)=Y at *
 simp [lg,hs,ob,obp,sg,ne,lp,-fNe]
def nm (i:Nat):Str:=⟨#[97+i]⟩
theorem nm_inj:nm i=nm j ↔ i=j:=⟨λh=>by
 injection h with h
 have:=congrArg Array.toList h
 simp at this
 exact this,λh=>by rw [h]⟩
theorem yfd (h:i<3):ycf (nm i)=true:=by
 rcases (show i=0\/i=1\/i=2 by lia) with rfl | rfl | rfl<;>decide +kernel
theorem zgz:(Str.ofString "abc")=⟨#[97,98,99]⟩:=by decide +kernel
theorem ygw {v:Nat} (hv:v<3) (h:AH):fIx (.str "abc") (.int v) h = .ok (.str (nm v)) h:=by
 rw [zgz]
 rcases (show v=0\/v=1\/v=2 by lia) with rfl | rfl | rfl<;>rfl
abbrev Sg:=Nat->Nat×Str
def set3 {α:Type} (f:Nat->α) (i:Nat) (v:α):Nat->α:=λj=>if j=i then v else f j
theorem za0 (f:Nat->α) (i:Nat) (v:α):set3 f i v i=v:=if_pos rfl
theorem zcr (f:Nat->α) (v:α) (h:j≠i):set3 f i v j=f j:=if_neg h
theorem zib (f:Nat->α) (i:Nat) (v:α):set3 (set3 f i v) i (f i)=f:=by
 funext j
 unfold set3
 by_cases h:j=i
 ·rw [if_pos h,h]
 ·rw [if_neg h,if_neg h]
def k3 (σ:Sg):List (Str×Nat×Str):=[(nm 0,σ 0),(nm 1,σ 1),(nm 2,σ 2)]
theorem ycF (σ:Sg) (h:i<3):lk (k3 σ) (nm i)=some (σ i):=by
 unfold k3
 simp only [zdH,nm_inj]
 rcases (show i=0\/i=1\/i=2 by lia) with rfl | rfl | rfl<;>rfl
theorem yfG (σ:Sg) (h:i<3) (v:Nat×Str):put (k3 σ) (nm i) v=k3 (set3 σ i v):=by
 unfold put
 rw [ycF σ h]
 unfold k3
 simp only [Option.isSome_some,if_true,List.map_cons,List.map_nil,nm_inj]
 rcases (show i=0\/i=1\/i=2 by lia) with rfl | rfl | rfl<;>rfl
abbrev Bg:=Nat->List Bk
def flB8 (bs:List Bk):AV:=.fl (bs.map bv)
def d3 (β:Bg):List (AV×AV):=[(.str (nm 0),flB8 (β 0)),(.str (nm 1),flB8 (β 1)),(.str (nm 2),flB8 (β 2))]
theorem nmA:(AV.str (nm i)=AV.str (nm j)) ↔ i=j:=⟨λh=>by injection h with h;exact nm_inj.mp h,λh=>by rw [h]⟩
theorem yif (β:Bg) (h:i<3):valA (d3 β) (.str (nm i))=some (flB8 (β i)):=by
 unfold valA d3
 have e:∀ a b:Nat,decide (AV.str (nm a)=AV.str (nm b))=decide (a=b):=λa b=>by apply decide_eq_decide.mpr;exact nmA
 simp only [List.find?_cons,e]
 rcases (show i=0\/i=1\/i=2 by lia) with rfl | rfl | rfl<;>rfl
theorem yig (β:Bg) (h:i<3) (bs:List Bk):putA (d3 β) (.str (nm i)) (flB8 bs)=d3 (set3 β i bs):=by
 unfold putA d3
 simp only [List.any_cons,List.map_cons,List.map_nil,nmA]
 rcases (show i=0\/i=1\/i=2 by lia) with rfl | rfl | rfl<;>simp [set3]
variable {β:Bg}
theorem yeM {K:Nat} (e:h[K]? = some (.dct false (d3 β))) (hi:i<3):fIx (.ref K) (.str (nm i)) h = .ok (flB8 (β i)) h:=by
 have k1:ybP false (.str (nm i))=true:=rfl
 simp only [fIx,e,k1,yif β hi];rfl
def Dk (F:Out AV) (h:AH) (ps:List Pc) (σ:Sg) (ds:List (Str×Option Nat×Nat)) (i:Nat) (y:Str):Prop :=
 ∃ n ps' h',F = .ok .non h'/\Ho h' 0 1 10 ps' (k3 (set3 σ i (n,y))) (ds++[(nm i,some (σ i).1,n)]) []/\Fh 1 10 h h'/\ps <+: ps'/\ps'.length<=ps.length+240000/\TxZ ps' n y
section
variable {h:AH} {ps:List Pc} {σ:Sg} {ds bs:List (Str×Option Nat×Nat)} {i:Nat}
theorem dk_of {F:Out AV} (H:Ho h 0 1 10 ps (k3 σ) ds bs) (D:Dd 1 h h1 ps ps1 c) (T:TxZ ps1 n y) (hi:i<3) (hc:c<=240000) (ld:ds.length<=100) (e:∀ h',ya2 [.ref 0,.str (nm i),.int n] h1 = .ok .non h'->F = .ok .non h'):Dk F h ps σ ds i y:=by
 obtain ⟨h',fd,H',Fr'⟩:=f_do (H.dd D) (yfd hi) T (show (k3 σ).length<50 by show 3<50;lia) ld
 rw [yfG σ hi,ycF σ hi] at H'
 exact ⟨n,ps1,h',e h' fd,H',(Fh.dd D).trans Fr',D.pre,by have:=D.len;lia,T⟩
theorem yih (H:Ho h 0 1 10 ps (k3 σ) ds bs) (hi:i<3) (py:yaK y=true) (ly:y.length<=10000) (hz:ps.length<13000000) (ld:ds.length<=100):Dk (ybh [.ref 0,.str (nm i),.str y] h) h ps σ ds i y:=by
 obtain ⟨n,ps',h1,fb,D,T⟩:=zgs H.sh H.gd py ly (by lia)
 have ck:=zdf (yfd hi) h
 refine dk_of H D T hi (by lia) ld λh' fd=>?_
 unfold ybh
 generalize yc4=G at *
 generalize ya2=G2 at *
 simp [ck,H.ob,fb,fd]
theorem yjf (H:Ho h 0 1 10 ps (k3 σ) ds bs) {k:Nat} (hi:i<3) (hk:k<2 ^ 50) (hm:(σ i).2.length*k<=1000000000000000000) (hz:ps.length<13000000) (ld:ds.length<=100):Dk (ybZ [.ref 0,.str (nm i),.int k] h) h ps σ ds i (repS (σ i).2 k):=by
 have l:=ycF σ hi
 obtain ⟨m,ps',h1,D,T⟩:=zg2 H.sh H.gd (H.tz _ (ycV l)).1 hk (by decide) hm (by lia)
 have ft:=ycW H l
 have ev:=D.ev
 refine dk_of H D.dd T hi (by decide) ld λh' fd=>?_
 unfold ybZ
 generalize yb4=G at *
 generalize ya2=G2 at *
 generalize yaz=G3 at *
 simp [H.ob,ft,ev,fd]
theorem yii (H:Ho h 0 1 10 ps (k3 σ) ds bs) (hi:i<3) (hj:j<3) (hm:(σ i).2.length+(σ j).2.length<=1000000000000000000) (hz:ps.length<13000000) (ld:ds.length<=100):Dk (ybS [.ref 0,.str (nm i),.str (nm j)] h) h ps σ ds i ((σ i).2++(σ j).2):=by
 have l:=ycF σ hi
 have l2:=ycF σ hj
 obtain ⟨m,ps',h1,ev,D,T⟩:=zcp H.sh H.gd (H.tz _ (ycV l)).1 (H.tz _ (ycV l2)).1 hm (by lia)
 have ft:=ycW H l
 have ft2:=ycW H l2
 refine dk_of H D T hi (by decide) ld λh' fd=>?_
 unfold ybS
 generalize yaB=G at *
 generalize ya2=G2 at *
 generalize yaz=G3 at *
 simp [H.ob,ft,ft2,ev,fd]
theorem yjg (H:Ho h 0 1 10 ps (k3 σ) ds bs) (hi:i<3) (hj:j<3) (ha:a<=(σ i).2.length) (hm:(σ i).2.length+(σ j).2.length<=1000000000000000000) (hz:ps.length<13000000) (ld:ds.length<=100) :
  Dk (ybJ [.ref 0,.str (nm i),.int a,.str (nm j)] h) h ps σ ds i ((tkS (σ i).2 a++(σ j).2)++dpS (σ i).2 a):=by
 have l:=ycF σ hi
 have l2:=ycF σ hj
 obtain ⟨m,ps',h1,ev,D,T⟩:=yh7 H.sh H.gd (H.tz _ (ycV l)).1 (H.tz _ (ycV l2)).1 ha hm hz
 have ft:=ycW H l
 have ft2:=ycW H l2
 refine dk_of H D T hi (by decide) ld λh' fd=>?_
 unfold ybJ
 generalize ydI=G at *
 generalize ya2=G2 at *
 generalize yaz=G3 at *
 simp [H.ob,ft,ft2,ev,fd]
theorem yij (H:Ho h 0 1 10 ps (k3 σ) ds bs) (hi:i<3) (ab:a<=b) (hb:b<=(σ i).2.length) (hm:(σ i).2.length<=1000000000000000000) (hz:ps.length<13000000) (ld:ds.length<=100) :
  Dk (ybx [.ref 0,.str (nm i),.int a,.int b] h) h ps σ ds i (tkS (σ i).2 a++dpS (σ i).2 b):=by
 have l:=ycF σ hi
 obtain ⟨m,ps',h1,ev,D,T⟩:=zi4 H.sh H.gd (H.tz _ (ycV l)).1 ab hb hm hz
 have ft:=ycW H l
 refine dk_of H D T hi (by decide) ld λh' fd=>?_
 unfold ybx
 generalize ycz=G at *
 generalize ya2=G2 at *
 generalize yaz=G3 at *
 simp [H.ob,ft,ev,fd]
end
def yen:OutS->Out AV
 | .nx _ h=>.ok .non h
 | .rt v h=>.ok v h
 | .ex c _ h=>.ex c h
 | _=>.bad
section
variable {P:OutS->Prop} {a b x y z:SS} {c:SB} {en e2:En} {h h1 h2 h3:AH} {v:AV}
theorem seqP (s:a en h = .nx e2 h2) (r:P (b e2 h2)):P (sSeq a b en h):=by
 have:sSeq a b en h=b e2 h2:=by simp only [sSeq,s]
 rw [this];exact r
theorem seqT (s:c en h = .ok true h1) (s1:x en h1 = .nx e2 h2) (s2:y e2 h2 = .rt v h3) (r:P (.rt v h3)):P (sSeq (sIf c (sSeq x y) yaw) b en h):=by
 have:sSeq (sIf c (sSeq x y) yaw) b en h = .rt v h3:=by simp only [sSeq,sIf,s,Out.go,if_true,s1,s2]
 rw [this];exact r
theorem seqF (s:c en h = .ok false h1) (r:P (b en h1)):P (sSeq (sIf c z yaw) b en h):=by
 have:sSeq (sIf c z yaw) b en h=b en h1:=by simp [s]
 rw [this];exact r
end
theorem zgA {P:Out AV->Prop} {m:Nat} {b:SS} {args:List AV} (hn:args.length=n) (r:P (yen (b (args.map some++List.replicate (m-n) none) h))):P (mkFn n m b args h):=by
 have:mkFn n m b args h=yen (b (args.map some++List.replicate (m-n) none) h):=by
  simp only [mkFn]
  rw [if_pos hn]
  generalize b (args.map some++List.replicate (m-n) none) h=o
  cases o<;>rfl
 rw [this];exact r
structure Fd (L:Nat) (h h':AH):Prop where
 fr:∀ i,12<i->i<h.length->i≠L->h'[i]? = h[i]?
 hl:h.length<=h'.length
 st:∃ N:Int,h'[L]? = some (.lst [.int N])
theorem Fd.of (F:Fr L h h'):Fd L h h' := ⟨λi _ a b=>F.fr i a b,F.hl,F.ro⟩
theorem Fd.fh {h'':AH} (a:Fd L h h') (b:Fh 1 10 h' h'') (hL:12<L):Fd L h h'' := by
 obtain ⟨N,e⟩:=a.st
 have hl:=a.hl
 exact ⟨λi h1 h2 h3=>(b.fr i (by lia) (by lia) (by lia) (by lia)).trans (a.fr i h1 h2 h3),by rw [b.hl];exact a.hl,N,(b.fr L (by lia) (by lia) (by lia) (by lia)).trans e⟩
theorem Fd.app (a:Fd L h h') (r:AH):Fd L h (h' ++ r):=by
 obtain ⟨N,e⟩:=a.st
 have hl:=a.hl
 exact ⟨λi h1 h2 h3=>by rw [List.getElem?_append_left (by lia)];exact a.fr i h1 h2 h3,by rw [List.length_append];lia,N,by rw [List.getElem?_append_left (yaW e)];exact e⟩
theorem Ho.fr {h h':AH} {L:Nat} {ps:List Pc} {kx:List (Str×Nat×Str)} {ds bs:List (Str×Option Nat×Nat)} (H:Ho h 0 1 10 ps kx ds bs) (F:Fr L h h') (hL:12<L):Ho h' 0 1 10 ps kx ds bs:=by
 have l:=yaW H.ba
 exact ⟨(F.fr 0 (by lia) (by lia)).trans H.ob,H.sh.keep λi _ _=>F.fr i (by lia) (by lia),H.gd,(F.fr 10 (by lia) (by lia)).trans H.tx,(F.fr 11 (by lia) (by lia)).trans H.de,(F.fr 12 (by lia) (by lia)).trans H.ba,H.tz,H.lo,H.ct⟩
theorem ygx (P:List Nat) (m:Nat):∀ k,rp (rp P m) k=rp P (m*k)
 | 0=>rfl
 | k+1=>by rw [rp_s,ygx P m k,rp_a,Nat.mul_succ,Nat.add_comm]
def yb9 (bs:List Bk) (k:Nat):List Bk:=if 0<k then bs.map λx=>(x.1,x.2*k) else []
theorem zg5 {bs:List Bk} {k:Nat} (ok:∀ x∈bs,Bo x) (hm:∀ x∈bs,x.2<2 ^ 200) (hk:k<2 ^ 200) (hl:bs.length<=1000) (o0 o1 o2 o3 o4 o6 o7 o8 o9 o11:Option AV) :
  ydk [10] (ybz (sVar 5)) (yam (sOp2 fGt (sVar 2) (sLit (.int 0)))) (sTup (yab (sVar 0) (yab (sOp2 fMul (sVar 1) (sVar 2)) sNil))) [o0,o1,o2,o3,o4,some (flB8 bs),o6,o7,o8,o9,some (.int k),o11] h = .ok (flB8 (yb9 bs k)) h:=by
 have g:=gt0D k h
 have c1:=zaS (js:=[10]) (en:=[o0,o1,o2,o3,o4,some (flB8 bs),o6,o7,o8,o9,some (.int k),o11]) (w:=none) (all:=bs.map bv) (c:=un2 (yam (sOp2 fGt (sVar 2) (sLit (.int 0))))) (e:=un2 (sTup (yab (sVar 0) (yab (sOp2 fMul (sVar 1) (sVar 2)) sNil)))) (g:=bv) (f:=λx:Bk=>bv (x.1,x.2*k)) (p:=λ_=>decide (0<k)) (h:=h) rfl bs [] (by
  intro x _
  have u:un2 (yam (sOp2 fGt (sVar 2) (sLit (.int 0)))) (some (bv x)::[10].map λj=>(([o0,o1,o2,o3,o4,some (flB8 bs),o6,o7,o8,o9,some (.int k),o11]:En)[j]?).join) h=yam (sOp2 fGt (sVar 2) (sLit (.int 0))) [some (.str x.1),some (.int x.2),some (.int k)] h:=rfl
  rw [u]
  generalize (k:Int)=K at *
  simp [g,-fGt]) (by
  intro x hx _
  have u:un2 (sTup (yab (sVar 0) (yab (sOp2 fMul (sVar 1) (sVar 2)) sNil))) (some (bv x)::[10].map λj=>(([o0,o1,o2,o3,o4,some (flB8 bs),o6,o7,o8,o9,some (.int k),o11]:En)[j]?).join) h=sTup (yab (sVar 0) (yab (sOp2 fMul (sVar 1) (sVar 2)) sNil)) [some (.str x.1),some (.int x.2),some (.int k)] h:=rfl
  rw [u]
  have mu:fMul (.int x.2) (.int k) h = .ok (.int ((x.2*k:Nat):Int)) h:=by
   have big:(2:Nat) ^ 200<=2 ^ 4000:=Nat.pow_le_pow_right (by decide) (by decide)
   have:=hm x hx
   rw [ye9 (by lia) (by lia)]
   rfl
  show _=Out.ok (AV.tup [.str x.1,.int ((x.2*k:Nat):Int)]) h
  generalize ((x.2*k:Nat):Int)=XK at *
  generalize (k:Int)=K at *
  simp [mu,-fMul]) (by exact Nat.le_trans (m:=1000) (by simpa using hl) (by decide))
 rw [List.nil_append] at c1
 have it:ybz (sVar 5) [o0,o1,o2,o3,o4,some (flB8 bs),o6,o7,o8,o9,some (.int k),o11] h = .ok (bs.map bv,none) h:=by
  unfold flB8
  generalize bs.map bv=Z
  simp
 have e:((bs.filter λ_=>decide (0<k)).map λx:Bk=>bv (x.1,x.2*k))=(yb9 bs k).map bv:=by
  unfold yb9
  by_cases q:0<k
  ·rw [if_pos q,List.map_map,List.filter_eq_self.mpr (λ_ _=>decide_eq_true q)];rfl
  ·rw [if_neg q,List.filter_eq_nil_iff.mpr (λ_ _=>by simp [q])];rfl
 rw [e] at c1
 simp only [ydk,ybd,it,c1];rfl
theorem zjb {bs:List Bk} {k:Nat} (ok:∀ x∈bs,Bo x):∀ x∈yb9 bs k,Bo x:=by
 intro x hx
 unfold yb9 at hx
 split at hx
 ·rename_i q
  obtain ⟨y,hy,rfl⟩:=List.mem_map.mp hx
  have o:=ok y hy
  exact ⟨o.a,o.b,Nat.mul_pos o.c q⟩
 ·cases hx
theorem zjc {bs:List Bk} {k:Nat} (l:bs.length<2) (e:y.cps.toList=fB bs):(repS y k).cps.toList=fB (yb9 bs k):=by
 rw [zbh]
 show rp y.cps.toList k=_
 rw [e]
 have z:∀ n,rp ([]:List Nat) n=[]:=λn=>List.eq_nil_of_length_eq_zero (by rw [yeC];simp)
 cases bs with
 | nil=>unfold yb9;split<;>exact z k
 | cons x r =>
  have:r=[]:=List.eq_nil_of_length_eq_zero (by simp at l;lia)
  subst this
  rw [yck,ygx]
  unfold yb9
  split
  ·rw [List.map_cons,List.map_nil,yck]
  ·have:k=0:=by lia
   rw [this];rfl
structure Kn (h:AH) (K:Nat) (ps:List Pc) (σ:Sg) (β:Bg) (c:Nat):Prop where
 dk:h[K]? = some (.dct false (d3 β))
 rd:∀ i,i<3->Rd85 ps (σ i).1 (σ i).2 (β i)
 fw:∀ i,i<3->(β i).length<=c
def Rz (L:Nat) (h:AH) (ps:List Pc) (σ:Sg) (ds:List (Str×Option Nat×Nat)) (c:Nat) (F:Out AV):Prop :=
 ∃ i v bs' h' ps',i<3/\F = .ok (.tup [.str (nm i),flB8 bs']) h'/\Ho h' 0 1 10 ps' (k3 (set3 σ i v)) (ds++[(nm i,some (σ i).1,v.1)]) []/\Rd85 ps' v.1 v.2 bs'/\bs'.length<=c+3/\ps <+: ps'/\ps'.length<=ps.length+240000/\Fd L h h'
variable {σ:Sg} {ds:List (Str×Option Nat×Nat)}
theorem yfe {h9 r:AH} {bs':List Bk} {F:Out AV} (hi:i<3) (e:F = .ok (.tup [.str (nm i),flB8 bs']) (h9++r)) (H9:Ho h9 0 1 10 ps' (k3 (set3 σ i (n,y))) (ds++[(nm i,some (σ i).1,n)]) []) (fd:Fd L h h9) (T:TxZ ps' n y) (ey:y.cps.toList=fB bs') (ok:∀ x∈bs',Bo x) (hy:y.length<=100000000000000000) (fw:bs'.length<=c+3) (pre:ps <+: ps') (len:ps'.length<=ps.length+240000):Rz L h ps σ ds c F :=
 ⟨i,(n,y),bs',h9++r,ps',hi,e,H9.app r,⟨T,ey,ok,hy⟩,fw,pre,len,fd.app r⟩
variable {en:En}
theorem and3 {a b c:SB} {x y z:Bool} (ha:a en h = .ok x h) (hb:b en h = .ok y h) (hc:c en h = .ok z h):sAnd a (sAnd b c) en h = .ok (x && (y && z)) h:=by
 simp only [sAnd,ha,hb,hc,Out.bind]
 cases x<;>cases y<;>rfl
theorem and2 {a b:SB} {x y:Bool} (ha:a en h = .ok x h) (hb:b en h = .ok y h):sAnd a b en h = .ok (x && y) h:=by
 simp only [sAnd,ha,hb,Out.bind]
 cases x<;>rfl
theorem eqI (a b:Nat) (h:AH):fEq (.int a) (.int b) h = .ok (.bl (decide (a=b))) h:=by
 by_cases q:a=b
 ·rw [q];simp
 ·have : ¬ (a:Int)=b:=by lia
  simp [q,this]
theorem lenB (bs:List Bk) (h:AH):fLen [flB8 bs] h = .ok (.int bs.length) h:=by
 show Out.ok (AV.int (bs.map bv).length) h=_
 rw [List.length_map]
theorem addB (a b:List Bk) (h:AH) (hl:a.length+b.length<=1000):fAdd (flB8 a) (flB8 b) h = .ok (flB8 (a++b)) h:=by
 have:(a.map bv).length+(b.map bv).length<=sizeLine:=by rw [List.length_map,List.length_map];exact Nat.le_trans hl (by decide)
 show (if (a.map bv).length+(b.map bv).length<=sizeLine then Out.ok (AV.fl (a.map bv++b.map bv)) h else .bad)=_
 rw [if_pos this,<- List.map_append];rfl
theorem yjh (h:AH):fPow (.int 10) (.int 15) h = .ok (.int 1000000000000000) h:=by
 simp [fPow]
theorem yji (h:AH):fPow (.int 10) (.int 17) h = .ok (.int 100000000000000000) h:=by
 simp [fPow]
theorem yjj (a b u:Nat) (hu:u<2):∃ m,(m=a\/m=b)/\∀ h,fIx (.fl [.int a,.int b]) (.int u) h = .ok (.int m) h:=by
 rcases (show u=0\/u=1 by lia) with rfl | rfl
 ·exact ⟨a,.inl rfl,λ_=>rfl⟩
 ·exact ⟨b,.inr rfl,λ_=>rfl⟩
theorem yjk (u:Nat) (hu:u<3):∃ m:Nat,1<=m/\m<=1000000000000000/\∀ h,fIx (.fl [.int 4,.int 1000,.int 1000000000000000]) (.int u) h = .ok (.int m) h:=by
 rcases (show u=0\/u=1\/u=2 by lia) with rfl | rfl | rfl
 ·exact ⟨4,by decide,by decide,λ_=>rfl⟩
 ·exact ⟨1000,by decide,by decide,λ_=>rfl⟩
 ·exact ⟨1000000000000000,by decide,by decide,λ_=>rfl⟩
theorem zgB {bs:List Bk} (ok:∀ x∈bs,Bo x) (ey:y.cps.toList=fB bs) (hl:bs.length<=1000):ya7 [flB8 bs] h = .ok (.int y.length) h:=by
 have:=ygv (h:=h) (ygU ok) hl
 rw [<- ey,<- zad] at this
 exact this
theorem zbl {a b:SE} {x y:AV} (ha:a en h = .ok x h1) (hb:b en h1 = .ok y h2):sRet (sTup (yab a (yab b sNil))) en h = .rt (.tup [x,y]) h2:=by
 simp [ha,hb]
theorem retP {P:OutS->Prop} {a:SE} {v:AV} (s:sRet a en h = .rt v h') (r:P (.rt v h')):P (sRet a en h):=by rw [s];exact r
theorem tkD (y:Str) (a:Nat):(tkS y a).length=min a y.length:=by rw [zad,ycj,List.length_take,<- zad]
theorem yfw (x y:Str):(x++y).length=x.length+y.length:=by rw [zad,zae,List.length_append,<- zad,<- zad]
def ydW (y:Str):List Bk:=if y = "" then [] else [(y,1)]
theorem yik (y:Str):y.cps.toList=fB (ydW y):=by
 unfold ydW
 split
 ·rename_i q;rw [q];rfl
 ·rw [yck,rp_1]
theorem yil (h:y.length<=30):∀ x∈ydW y,Bo x:=by
 intro x hx
 unfold ydW at hx
 split at hx
 ·cases hx
 ·rename_i q
  rw [List.mem_singleton] at hx
  subst hx
  refine ⟨?_,h,Nat.le_refl _⟩
  apply Classical.byContradiction
  intro z
  have:y.length=0:=by show y.length=0;have : ¬ 1<=y.length:=z;lia
  exact q (zaf (by rw [zad] at this;rw [List.length_eq_zero_iff.mp this];rfl))
theorem yjl (y:Str) (h:AH):ye6 (.fl [.tup [.str y,.int 1]]) (.int (if y = "" then 0 else 1)) h = .ok (flB8 (ydW y)) h:=by
 unfold ydW
 by_cases q:y = ""
 ·rw [if_pos q,if_pos q];rfl
 ·rw [if_neg q,if_neg q];rfl
theorem neE (y:Str) (h:AH):fNe (.str y) (.str "") h = .ok (.bl (!decide (y = ""))) h:=by
 by_cases q:y = ""
 ·simp [q]
 ·simp [q]
theorem yim {K:Nat} {bs:List (Str×Option Nat×Nat)} (H:Ho h 0 1 10 ps (k3 σ) ds bs) (eL:∃ N:Int,h[L]? = some (.lst [.int N])) (hL:12<L) (hK:12<K) (KL:K≠L) (KN:Kn h K ps σ β c) (hc:43<=c) (hc2:c<=200) (hz:ps.length<12000000) (ld:ds.length<=100) :
  Rz L h ps σ ds c (ycS [.ref 0,.ref L,.ref K] h):=by
 have F0:Fr L h h:=⟨λ_ _ _=>rfl,Nat.le_refl _,eL⟩
 have lK:=yaW KN.dk
 obtain ⟨i,N1,hi,t1,F1⟩:=F0.take 3 (by decide) (by decide)
 have t1:yau [.ref L,.int 3] h = .ok (.int i) (h.set L (.lst [.int N1])):=t1
 obtain ⟨h1,eh1⟩:∃ h1,h1=h.set L (.lst [.int N1]):=⟨_,rfl⟩
 rw [<- eh1] at t1 F1
 obtain ⟨j,N2,hj,t2,F2⟩:=F1.take 3 (by decide) (by decide)
 have t2:yau [.ref L,.int 3] h1 = .ok (.int j) (h1.set L (.lst [.int N2])):=t2
 obtain ⟨h2,eh2⟩:∃ h2,h2=h1.set L (.lst [.int N2]):=⟨_,rfl⟩
 rw [<- eh2] at t2 F2
 have R1:=KN.rd i hi
 have R2:=KN.rd j hj
 have l1:=KN.fw i hi
 have l2:=KN.fw j hj
 have ixi:=yeM ((F2.fr K lK KL).trans KN.dk) hi
 obtain ⟨y1,ey1⟩:∃ y1,y1=(σ i).2:=⟨_,rfl⟩
 obtain ⟨y2,ey2⟩:∃ y2,y2=(σ j).2:=⟨_,rfl⟩
 have ln1:=zad y1
 have ln2:=zad y2
 have fy1:y1.cps.toList=fB (β i):=by rw [ey1];exact R1.ey
 have fy2:y2.cps.toList=fB (β j):=by rw [ey2];exact R2.ey
 have hy1:y1.length<=100000000000000000:=by rw [ey1];exact R1.hy
 have hy2:y2.length<=100000000000000000:=by rw [ey2];exact R2.hy
 have lg1:∀ hx,ya7 [flB8 (β i)] hx = .ok (.int y1.length) hx:=λhx=>zgB R1.ok fy1 (by lia)
 have lg2:∀ hx,ya7 [flB8 (β j)] hx = .ok (.int y2.length) hx:=λhx=>zgB R2.ok fy2 (by lia)
 obtain ⟨b,N3,hb,t3,F3⟩:=F2.take (y1.length+1) (Nat.succ_pos _) (Nat.le_trans (Nat.succ_le_succ hy1) (by decide))
 obtain ⟨h3,eh3⟩:∃ h3,h3=h2.set L (.lst [.int N3]):=⟨_,rfl⟩
 rw [<- eh3] at t3 F3
 have ad1:∀ hx,fAdd (.int y1.length) (.int 1) hx = .ok (.int ((y1.length+1:Nat):Int)) hx:=λhx=>ydv rfl hx
 have sb1:∀ hx,fSub (.int y1.length) (.int b) hx = .ok (.int ((y1.length-b:Nat):Int)) hx:=λhx=>yem (by lia) hx
 have ad2:∀ hx,fAdd (.int ((y1.length-b:Nat):Int)) (.int 1) hx = .ok (.int ((y1.length-b+1:Nat):Int)) hx:=λhx=>ydv rfl hx
 have mn:∀ hx,ybQ [.int 40,.int ((y1.length-b+1:Nat):Int)] hx = .ok (.int ((min 40 (y1.length-b+1):Nat):Int)) hx:=λhx=>yfR 40 _ hx
 obtain ⟨u,N4,hu,t4,F4⟩:=F3.take 2 (by decide) (by decide)
 have t4:yau [.ref L,.int 2] h3 = .ok (.int u) (h3.set L (.lst [.int N4])):=t4
 obtain ⟨h4,eh4⟩:∃ h4,h4=h3.set L (.lst [.int N4]):=⟨_,rfl⟩
 rw [<- eh4] at t4 F4
 obtain ⟨mm,hmm,pk⟩:=yjj (y1.length-b+1) (min 40 (y1.length-b+1)) u hu
 obtain ⟨w,N5,hw,t5,F5⟩:=F4.take mm (by lia) (Nat.le_trans (m:=100000000000000001) (by lia) (by decide))
 obtain ⟨h5,eh5⟩:∃ h5,h5=h4.set L (.lst [.int N5]):=⟨_,rfl⟩
 rw [<- eh5] at t5 F5
 obtain ⟨e,ee⟩:∃ e,e=b+w:=⟨_,rfl⟩
 have ad3:fAdd (.int b) (.int w) h5 = .ok (.int e) h5:=ydv ee.symm h5
 have ey:e<=y1.length:=by lia
 obtain ⟨kd,N6,hkd,t6,F6⟩:=F5.take 5 (by decide) (by decide)
 have t6:yau [.ref L,.int 5] h5 = .ok (.int kd) (h5.set L (.lst [.int N6])):=t6
 obtain ⟨h6,eh6⟩:∃ h6,h6=h5.set L (.lst [.int N6]):=⟨_,rfl⟩
 rw [<- eh6] at t6 F6
 have ixj:=yeM ((F6.fr K lK KL).trans KN.dk) hj
 have ad4:fAdd (.int (β i).length) (.int (β j).length) h6 = .ok (.int (((β i).length+(β j).length:Nat):Int)) h6:=ydv rfl h6
 have gt4:fGt (.int (((β i).length+(β j).length:Nat):Int)) (.int 40) h6 = .ok (.bl (decide (40<(β i).length+(β j).length))) h6:=by
  have:decide ((((β i).length+(β j).length:Nat):Int) > 40)=decide (40<(β i).length+(β j).length):=by apply decide_eq_decide.mpr;lia
  simp only [fGt,this]
 have lb1:=lenB (β i)
 have lb2:=lenB (β j)
 obtain ⟨k,hk5,hk3,ek⟩:∃ k:Nat,k<5/\(k<3->(β i).length+(β j).length<=40)/\((40<(β i).length+(β j).length/\k=3+kd % 2)\/(¬ 40<(β i).length+(β j).length/\k=kd)):=by
  by_cases q:40<(β i).length+(β j).length
  ·exact ⟨3+kd % 2,by lia,by lia,.inl ⟨q,rfl⟩⟩
  ·exact ⟨kd,hkd,by lia,.inr ⟨q,rfl⟩⟩
 obtain ⟨u2,N7,hu2,t7,F7⟩:=F6.take 3 (by decide) (by decide)
 have t7:yau [.ref L,.int 3] h6 = .ok (.int u2) (h6.set L (.lst [.int N7])):=t7
 obtain ⟨h7,eh7⟩:∃ h7,h7=h6.set L (.lst [.int N7]):=⟨_,rfl⟩
 rw [<- eh7] at t7 F7
 obtain ⟨mx,m1,m2,pk3⟩:=yjk u2 hu2
 obtain ⟨m,N8,hm,t8,F8⟩:=F7.take mx m1 (Nat.le_trans m2 (by decide))
 obtain ⟨h8,eh8⟩:∃ h8,h8=h7.set L (.lst [.int N8]):=⟨_,rfl⟩
 rw [<- eh8] at t8 F8
 have H8:=H.fr F8 hL
 have K8:=(F8.fr K lK KL).trans KN.dk
 have D8:=Fd.of F8
 have ob8:=H8.ob
 have l8:=F8.hl
 have ab:=λhx=>ygw hi hx
 have ab2:=λhx=>ygw hj hx
 clear H KN F0 F1 F2 F3 F4 F5 F6 F7 F8 eh1 eh2 eh3 eh4 eh5 eh6 eh7 eh8
 obtain ⟨B1,eB1⟩:∃ B1,B1=flB8 (β i):=⟨_,rfl⟩
 obtain ⟨B2,eB2⟩:∃ B2,B2=flB8 (β j):=⟨_,rfl⟩
 unfold ycS
 refine zgA (P:=Rz L h ps σ ds c) rfl ?_
 obtain ⟨PP,ePP⟩:∃ PP:OutS->Prop,PP=λo=>Rz L h ps σ ds c (yen o):=⟨_,rfl⟩
 have toP:∀ o,PP o->Rz L h ps σ ds c (yen o):=λo z=>by rw [ePP] at z;exact z
 have ofP:∀ o,Rz L h ps σ ds c (yen o)->PP o:=λo z=>by rw [ePP];exact z
 clear ePP
 refine toP _ ?_
 refine seqP (e2:=[some (.ref 0),some (.ref L),some (.ref K),some (.str (nm i)),none,none,none,none,none,none,none,none]) (h2:=h1) ?_ ?_
 ·clear ixi ixj lg1 lg2 mn pk pk3 t2 t3 t4 t5 t6 t7 t8
  generalize (i:Int)=I at *
  simp [t1,ab,-fIx]
 refine seqP (e2:=[some (.ref 0),some (.ref L),some (.ref K),some (.str (nm i)),some (.str (nm j)),none,none,none,none,none,none,none]) (h2:=h2) ?_ ?_
 ·clear ixi ixj lg1 lg2 mn pk pk3 t1 t3 t4 t5 t6 t7 t8
  generalize (j:Int)=J at *
  simp [t2,ab2,-fIx]
 refine seqP (e2:=[some (.ref 0),some (.ref L),some (.ref K),some (.str (nm i)),some (.str (nm j)),some B1,none,none,none,none,none,none]) (h2:=h2) ?_ ?_
 ·rw [<- eB1] at ixi
  simp [ixi,-fIx]
 refine seqP (e2:=[some (.ref 0),some (.ref L),some (.ref K),some (.str (nm i)),some (.str (nm j)),some B1,some (.int y1.length),none,none,none,none,none]) (h2:=h2) ?_ ?_
 ·have q:=lg1 h2
  rw [<- eB1] at q
  generalize ya7=G at *
  simp [q]
 refine seqP (e2:=[some (.ref 0),some (.ref L),some (.ref K),some (.str (nm i)),some (.str (nm j)),some B1,some (.int y1.length),some (.int b),none,none,none,none]) (h2:=h3) ?_ ?_
 ·have q:=ad1 h2
  clear ad1 ad2 sb1 mn lg1 lg2 pk
  generalize ((y1.length+1:Nat):Int)=Y1 at *
  generalize (y1.length:Int)=Y at *
  simp [q,t3,-fAdd]
 refine seqP (e2:=[some (.ref 0),some (.ref L),some (.ref K),some (.str (nm i)),some (.str (nm j)),some B1,some (.int y1.length),some (.int b),some (.int e),none,none,none]) (h2:=h5) ?_ ?_
 ·have q1:=sb1 h3
  have q2:=ad2 h3
  have q3:=mn h3
  have q4:=pk h4
  clear ad1 ad2 sb1 mn lg1 lg2 pk
  generalize ((min 40 (y1.length-b+1):Nat):Int)=Y3 at *
  generalize ((y1.length-b+1:Nat):Int)=Y2 at *
  generalize ((y1.length-b:Nat):Int)=Y1 at *
  generalize (y1.length:Int)=Y at *
  generalize (e:Int)=E at *
  generalize (w:Int)=W at *
  generalize (mm:Int)=M at *
  generalize (u:Int)=U at *
  simp [q1,q2,q3,t4,q4,t5,ad3,-fAdd,-fSub,-ybQ,-fIx]
 refine seqP (e2:=[some (.ref 0),some (.ref L),some (.ref K),some (.str (nm i)),some (.str (nm j)),some B1,some (.int y1.length),some (.int b),some (.int e),some (.int kd),none,none]) (h2:=h6) ?_ ?_
 ·simp [t6]
 refine seqP (e2:=[some (.ref 0),some (.ref L),some (.ref K),some (.str (nm i)),some (.str (nm j)),some B1,some (.int y1.length),some (.int b),some (.int e),some (.int k),none,none]) (h2:=h6) ?_ ?_
 ·have q1:=lb1 h6
  have q2:=lb2 h6
  rw [<- eB1] at q1
  rw [<- eB2] at q2 ixj
  clear lb1 lb2 lg1 lg2 pk pk3 mn ad1 ad2 sb1
  rcases ek with ⟨q,rfl⟩ | ⟨q,rfl⟩
  ·rw [decide_eq_true q] at gt4
   have md:fMod (.int kd) (.int 2) h6 = .ok (.int ((kd % 2:Nat):Int)) h6:=rfl
   have ad5:fAdd (.int 3) (.int ((kd % 2:Nat):Int)) h6 = .ok (.int ((3+kd % 2:Nat):Int)) h6:=ydv (a:=3) rfl h6
   clear t6 t7 t8 t5 t4 t3 t2 t1
   generalize ((3+kd % 2:Nat):Int)=K3 at *
   generalize ((kd % 2:Nat):Int)=K2 at *
   generalize (kd:Int)=KD at *
   generalize (((β i).length+(β j).length:Nat):Int)=LL at *
   generalize ((β i).length:Int)=L1 at *
   generalize ((β j).length:Int)=L2 at *
   simp [q1,q2,ixj,ad4,gt4,md,ad5,-fLen,-fIx,-fAdd,-fGt,-fMod]
  ·rw [decide_eq_false q] at gt4
   clear t6 t7 t8 t5 t4 t3 t2 t1
   generalize (k:Int)=KD at *
   generalize (((β i).length+(β j).length:Nat):Int)=LL at *
   generalize ((β i).length:Int)=L1 at *
   generalize ((β j).length:Int)=L2 at *
   simp [q1,q2,ixj,ad4,gt4,-fLen,-fIx,-fAdd,-fGt,-fMod]
 refine seqP (e2:=[some (.ref 0),some (.ref L),some (.ref K),some (.str (nm i)),some (.str (nm j)),some B1,some (.int y1.length),some (.int b),some (.int e),some (.int k),some (.int m),none]) (h2:=h8) ?_ ?_
 ·have q1:=yjh h6
  have q2:=pk3 h7
  clear lb1 lb2 lg1 lg2 pk pk3 mn ad1 ad2 sb1 t6 t5 t4 t3 t2 t1
  generalize (1000000000000000:Int)=T15 at *
  generalize (u2:Int)=U2 at *
  generalize (mx:Int)=MX at *
  generalize (m:Int)=M at *
  simp [q1,t7,q2,t8,-fPow,-fIx]
 clear t1 t2 t3 t4 t5 t6 t7 t8 ad1 ad2 ad3 ad4 gt4 sb1 mn pk pk3 ixi ixj
 have sum3:fAdd (.int y1.length) (.int y2.length) h8 = .ok (.int ((y1.length+y2.length:Nat):Int)) h8:=ydv rfl h8
 have le17:∀ a:Nat,fLe (.int a) (.int 100000000000000000) h8 = .ok (.bl (decide (a<=100000000000000000))) h8:=λa=>leD a 100000000000000000 h8
 have p17:=yji h8
 have e17:(100000000000000000:Nat)<=1000000000000000000:=by decide
 have s12:∀ c:Nat,(yam (sOp2 fEq (sVar 9) (sLit (.int c)))) [some (.ref 0),some (.ref L),some (.ref K),some (.str (nm i)),some (.str (nm j)),some B1,some (.int y1.length),some (.int b),some (.int e),some (.int k),some (.int m),none] h8 = .ok (decide (k=c)) h8:=λc=>by
  have:=eqI k c h8
  generalize (k:Int)=KK at *
  generalize (c:Int)=CC at *
  simp [this,-fEq]
 have sle:(yam (sOp2 fLe (sOp2 fAdd (sVar 6) (yae ya7 (yab (sOp2 fIx (sVar 2) (sVar 4)) sNil))) (sOp2 fPow (sLit (.int 10)) (sLit (.int 17))))) [some (.ref 0),some (.ref L),some (.ref K),some (.str (nm i)),some (.str (nm j)),some B1,some (.int y1.length),some (.int b),some (.int e),some (.int k),some (.int m),none] h8 = .ok (decide (y1.length+y2.length<=100000000000000000)) h8:=by
  have ix:=yeM K8 hj
  have q1:=lg2 h8
  rw [<- eB2] at ix q1
  have q2:=le17 (y1.length+y2.length)
  clear le17 lg1 lg2 lb1 lb2 s12
  generalize ((y1.length+y2.length:Nat):Int)=YY at *
  generalize ya7=G at *
  generalize (100000000000000000:Int)=T17 at *
  generalize (y1.length:Int)=Y1 at *
  generalize (y2.length:Int)=Y2 at *
  simp [ix,q1,sum3,p17,q2,-fIx,-fAdd,-fLe,-fPow]
 have kept:∀ {h9:AH},Fh 1 10 h8 h9->∀ r:AH,(h9++r)[K]? = some (.dct false (d3 β)):=λ{h9} f r=>by
  have l9:K<h9.length:=by rw [f.hl];lia
  rw [List.getElem?_append_left l9]
  exact (f.fr K (by lia) (by lia) (by lia) (by lia)).trans K8
 have lt2:=ltD (β i).length 2 h8
 have bl:(β i).length<=900:=by lia
 by_cases q1:k=0/\y1.length*m<=100000000000000000/\(β i).length<2
 ·obtain ⟨n,ps',h9,e9,H9,fh9,pre,len,T9⟩:=yjf H8 hi (k:=m) (Nat.lt_of_lt_of_le (m:=1000000000000000) (by lia) (by decide)) (by rw [<- ey1];lia) (by lia) ld
  rw [<- ey1] at H9 T9
  refine seqT (h1:=h8) (e2:=[some (.ref 0),some (.ref L),some (.ref K),some (.str (nm i)),some (.str (nm j)),some B1,some (.int y1.length),some (.int b),some (.int e),some (.int k),some (.int m),none]) (h2:=h9) (v:=.tup [.str (nm i),flB8 (yb9 (β i) m)]) (h3:=h9) ?_ ?_ ?_ (ofP _ ?_)
  ·refine (and3 (s12 0) (y:=decide (y1.length*m<=100000000000000000)) (z:=decide ((β i).length<2)) ?_ ?_).trans (by rw [decide_eq_true q1.1,decide_eq_true q1.2.1,decide_eq_true q1.2.2];rfl)
   ·have mu:fMul (.int y1.length) (.int m) h8 = .ok (.int ((y1.length*m:Nat):Int)) h8:=by
     have b1:(100000000000000001:Nat)<2 ^ 4000:=by decide
     rw [ye9 (by lia) (by lia)];rfl
    have q2:=le17 (y1.length*m)
    clear le17 s12 sle
    generalize ((y1.length*m:Nat):Int)=YM at *
    generalize (100000000000000000:Int)=T17 at *
    generalize (y1.length:Int)=Y1 at *
    generalize (m:Int)=M at *
    simp [mu,p17,q2,-fMul,-fLe,-fPow]
   ·have q2:=lb1 h8
    rw [<- eB1] at q2
    have lt3:fLt (.int (β i).length) (.int 2) h8 = .ok (.bl (decide ((β i).length<2))) h8:=lt2
    generalize ((β i).length:Int)=LI at *
    simp [q2,lt3,-fLen,-fLt]
  ·generalize ybZ=G at *
   simp [ob8,e9]
  ·refine zbl (h1:=h9) rfl ?_
   rw [eB1]
   exact zg5 R1.ok (λx hx=>by
    have o:=R1.ok x hx
    have:=ygs hx
    rw [<- fy1,<- zad] at this
    have oa:=o.a
    have:x.2<=x.1.length*x.2:=Nat.le_mul_of_pos_left _ oa
    exact Nat.lt_of_le_of_lt (m:=100000000000000000) (by lia) (by decide)) (Nat.lt_of_le_of_lt (m:=1000000000000000) (by lia) (by decide)) (by lia) ..
  ·refine yfe (h9:=h9) (r:=[]) hi ?_ H9 (D8.fh fh9 hL) T9 (zjc q1.2.2 fy1) (zjb R1.ok) (by rw [zbG];exact q1.2.1) ?_ pre len
   ·rw [List.append_nil];rfl
   ·unfold yb9;split
    ·rw [List.length_map];lia
    ·simp
 refine seqF (h1:=h8) ?_ ?_
 ·refine (and3 (s12 0) (y:=decide (y1.length*m<=100000000000000000)) (z:=decide ((β i).length<2)) ?_ ?_).trans ?_
  ·have mu:fMul (.int y1.length) (.int m) h8 = .ok (.int ((y1.length*m:Nat):Int)) h8:=by
    have b1:(100000000000000001:Nat)<2 ^ 4000:=by decide
    rw [ye9 (by lia) (by lia)];rfl
   have q2:=le17 (y1.length*m)
   clear le17 s12 sle
   generalize ((y1.length*m:Nat):Int)=YM at *
   generalize (100000000000000000:Int)=T17 at *
   generalize (y1.length:Int)=Y1 at *
   generalize (m:Int)=M at *
   simp [mu,p17,q2,-fMul,-fLe,-fPow]
  ·have q2:=lb1 h8
   rw [<- eB1] at q2
   have lt3:fLt (.int (β i).length) (.int 2) h8 = .ok (.bl (decide ((β i).length<2))) h8:=lt2
   generalize ((β i).length:Int)=LI at *
   simp [q2,lt3,-fLen,-fLt]
  ·congr 1
   rw [<- Bool.decide_and,<- Bool.decide_and]
   exact decide_eq_false q1
 by_cases q2:k=1/\y1.length+y2.length<=100000000000000000
 ·obtain ⟨n,ps',h9,e9,H9,fh9,pre,len,T9⟩:=yii H8 hi hj (by rw [<- ey1,<- ey2];lia) (by lia) ld
  rw [<- ey1,<- ey2] at H9 T9
  have b40:=hk3 (by lia)
  refine seqT (h1:=h8) (e2:=[some (.ref 0),some (.ref L),some (.ref K),some (.str (nm i)),some (.str (nm j)),some B1,some (.int y1.length),some (.int b),some (.int e),some (.int k),some (.int m),none]) (h2:=h9) (v:=.tup [.str (nm i),flB8 (β i++β j)]) (h3:=h9) ?_ ?_ ?_ (ofP _ ?_)
  ·refine (and2 (s12 1) sle).trans ?_
   rw [decide_eq_true q2.1,decide_eq_true q2.2];rfl
  ·generalize ybS=G at *
   simp [ob8,e9]
  ·have ix:=yeM (kept fh9 []) hj
   rw [List.append_nil] at ix
   have ad:=addB (β i) (β j) h9 (by lia)
   rw [<- eB1,<- eB2] at ad
   rw [<- eB2] at ix
   refine zbl (h1:=h9) rfl ?_
   simp [ix,ad,-fIx,-fAdd]
  ·refine yfe (h9:=h9) (r:=[]) hi ?_ H9 (D8.fh fh9 hL) T9 (by rw [zae,fy1,fy2,ycC]) (λx hx=>(List.mem_append.mp hx).elim (R1.ok x) (R2.ok x)) (by rw [yfw];exact q2.2) (by rw [List.length_append];lia) pre len
   rw [List.append_nil];rfl
 refine seqF (h1:=h8) ?_ ?_
 ·refine (and2 (s12 1) sle).trans ?_
  congr 1
  rw [<- Bool.decide_and]
  exact decide_eq_false q2
 have few:=yfE (β i) b b R1.ok (Nat.le_refl _)
 have ok1:=yfc R1.ok b
 have ok2:=yfc R1.ok e
 have few2:=yfE (β i) b e R1.ok (by lia)
 have tk1:∀ a,(tkS y1 a).cps.toList=fB (flt (frA a (β i))):=λa=>by rw [ycj,fy1,yei,(yfb _ a R1.ok).1]
 have dp1:∀ a,(dpS y1 a).cps.toList=fB (flt (frD a (β i))):=λa=>by rw [ycB,fy1,yei,(yfb _ a R1.ok).2]
 by_cases q3:k=2/\y1.length+y2.length<=100000000000000000
 ·obtain ⟨n,ps',h9,e9,H9,fh9,pre,len,T9⟩:=yjg H8 hi hj (a:=b) (by rw [<- ey1];lia) (by rw [<- ey1,<- ey2];lia) (by lia) ld
  rw [<- ey1,<- ey2] at H9 T9
  have b40:=hk3 (by lia)
  obtain ⟨r1,er1⟩:∃ r1,r1=AO.lst ((frA b (β i)).map bv):=⟨_,rfl⟩
  obtain ⟨r2,er2⟩:∃ r2,r2=AO.lst ((frD b (β i)).map bv):=⟨_,rfl⟩
  have f1:ya3 [B1,.int b] h9 = .ok (flB8 (flt (frA b (β i)))) (h9++[r1]):=by rw [eB1,er1];exact zcW R1.ok bl
  have f2:ybc [B1,.int b] (h9++[r1]) = .ok (flB8 (flt (frD b (β i)))) (h9++[r1]++[r2]):=by rw [eB1,er2];exact zdM R1.ok bl
  refine seqT (h1:=h8) (e2:=[some (.ref 0),some (.ref L),some (.ref K),some (.str (nm i)),some (.str (nm j)),some B1,some (.int y1.length),some (.int b),some (.int e),some (.int k),some (.int m),none]) (h2:=h9) (v:=.tup [.str (nm i),flB8 (flt (frA b (β i))++β j++flt (frD b (β i)))]) (h3:=h9++[r1]++[r2]) ?_ ?_ ?_ (ofP _ ?_)
  ·refine (and2 (s12 2) sle).trans ?_
   rw [decide_eq_true q3.1,decide_eq_true q3.2];rfl
  ·generalize ybJ=G at *
   simp [ob8,e9]
  ·have ix:=yeM (kept fh9 [r1]) hj
   have ad:=addB (flt (frA b (β i))) (β j) (h9++[r1]) (by lia)
   have ad2:=addB (flt (frA b (β i))++β j) (flt (frD b (β i))) (h9++[r1]++[r2]) (by rw [List.length_append];lia)
   refine zbl (h1:=h9) rfl ?_
   clear s12 sle le17 lt2 lg1 lg2 lb1 lb2
   generalize ya3=G1 at *
   generalize ybc=G2 at *
   generalize flB8 (flt (frA b (β i))++β j++flt (frD b (β i)))=V1 at *
   generalize flB8 (flt (frA b (β i))++β j)=V2 at *
   generalize flB8 (flt (frA b (β i)))=V3 at *
   generalize flB8 (flt (frD b (β i)))=V4 at *
   generalize flB8 (β j)=V5 at *
   generalize (b:Int)=BB at *
   generalize h9++[r1]++[r2]=h11 at *
   generalize h9++[r1]=h10 at *
   simp [f1,ix,ad,f2,ad2,-fIx,-fAdd]
  ·refine yfe (h9:=h9) (r:=[r1]++[r2]) hi ?_ H9 (D8.fh fh9 hL) T9 (by rw [zae,zae,tk1,dp1,fy2,ycC,ycC]) (λx hx=>(List.mem_append.mp hx).elim (λz=>(List.mem_append.mp z).elim (ok1.1 x) (R2.ok x)) (ok1.2 x)) (by rw [yfw,yfw,tkD,ydl];lia) (by rw [List.length_append,List.length_append];lia) pre len
   rw [<- List.append_assoc];rfl
 refine seqF (h1:=h8) ?_ ?_
 ·refine (and2 (s12 2) sle).trans ?_
  congr 1
  rw [<- Bool.decide_and]
  exact decide_eq_false q3
 have lt4:(yam (sOp2 fLt (sVar 9) (sLit (.int 4)))) [some (.ref 0),some (.ref L),some (.ref K),some (.str (nm i)),some (.str (nm j)),some B1,some (.int y1.length),some (.int b),some (.int e),some (.int k),some (.int m),none] h8 = .ok (decide (k<4)) h8:=by
  have lt3:fLt (.int k) (.int 4) h8 = .ok (.bl (decide (k<4))) h8:=ltD k 4 h8
  generalize (k:Int)=KK at *
  simp [lt3,-fLt]
 by_cases q4:k<4
 ·obtain ⟨n,ps',h9,e9,H9,fh9,pre,len,T9⟩:=yij H8 hi (a:=b) (b:=e) (by lia) (by rw [<- ey1];lia) (by rw [<- ey1];lia) (by lia) ld
  rw [<- ey1] at H9 T9
  obtain ⟨r1,er1⟩:∃ r1,r1=AO.lst ((frA b (β i)).map bv):=⟨_,rfl⟩
  obtain ⟨r2,er2⟩:∃ r2,r2=AO.lst ((frD e (β i)).map bv):=⟨_,rfl⟩
  have f1:ya3 [B1,.int b] h9 = .ok (flB8 (flt (frA b (β i)))) (h9++[r1]):=by rw [eB1,er1];exact zcW R1.ok bl
  have f2:ybc [B1,.int e] (h9++[r1]) = .ok (flB8 (flt (frD e (β i)))) (h9++[r1]++[r2]):=by rw [eB1,er2];exact zdM R1.ok bl
  refine seqT (h1:=h8) (e2:=[some (.ref 0),some (.ref L),some (.ref K),some (.str (nm i)),some (.str (nm j)),some B1,some (.int y1.length),some (.int b),some (.int e),some (.int k),some (.int m),none]) (h2:=h9) (v:=.tup [.str (nm i),flB8 (flt (frA b (β i))++flt (frD e (β i)))]) (h3:=h9++[r1]++[r2]) ?_ ?_ ?_ (ofP _ ?_)
  ·rw [lt4,decide_eq_true q4]
  ·generalize ybx=G at *
   generalize (b:Int)=BB at *
   generalize (e:Int)=EE at *
   simp [ob8,e9]
  ·have ad:=addB (flt (frA b (β i))) (flt (frD e (β i))) (h9++[r1]++[r2]) (by lia)
   refine zbl (h1:=h9) rfl ?_
   clear s12 sle le17 lt2 lg1 lg2 lb1 lb2 lt4
   generalize ya3=G1 at *
   generalize ybc=G2 at *
   generalize flB8 (flt (frA b (β i))++flt (frD e (β i)))=V1 at *
   generalize flB8 (flt (frA b (β i)))=V3 at *
   generalize flB8 (flt (frD e (β i)))=V4 at *
   generalize (b:Int)=BB at *
   generalize (e:Int)=EE at *
   generalize h9++[r1]++[r2]=h11 at *
   generalize h9++[r1]=h10 at *
   simp [f1,ad,f2,-fIx,-fAdd]
  ·refine yfe (h9:=h9) (r:=[r1]++[r2]) hi ?_ H9 (D8.fh fh9 hL) T9 (by rw [zae,tk1,dp1,ycC]) (λx hx=>(List.mem_append.mp hx).elim (ok1.1 x) (ok2.2 x)) (by rw [yfw,tkD,ydl];lia) (by rw [List.length_append];lia) pre len
   rw [<- List.append_assoc];rfl
 refine seqF (h1:=h8) ?_ ?_
 ·rw [lt4,decide_eq_false q4]
 obtain ⟨N9,e9L⟩:=D8.st
 obtain ⟨y,N10,fp,py,ly,_⟩:=zh5 30 (by decide) e9L
 have fp:yb8 [.ref L,.int 30] h8 = .ok (.str y) (h8.set L (.lst [.int N10])):=fp
 have F9:Fr L h8 (h8.set L (.lst [.int N10])):=(⟨λ_ _ _=>rfl,Nat.le_refl _,N9,e9L⟩:Fr L h8 h8).set N10
 have D9:Fd L h (h8.set L (.lst [.int N10])):=⟨λi a b c=>(F9.fr i (by lia) c).trans (D8.fr i a b c),by rw [List.length_set];exact l8,F9.ro⟩
 obtain ⟨h9,eh9⟩:∃ h9,h9=h8.set L (.lst [.int N10]):=⟨_,rfl⟩
 rw [<- eh9] at fp F9 D9
 have H9:=H8.fr F9 hL
 obtain ⟨n,ps',h10,e10,H10,fh10,pre,len,T10⟩:=yih H9 hi py (by lia) (by lia) ld
 refine seqP (e2:=[some (.ref 0),some (.ref L),some (.ref K),some (.str (nm i)),some (.str (nm j)),some B1,some (.int y1.length),some (.int b),some (.int e),some (.int k),some (.int m),some (.str y)]) (h2:=h9) ?_ ?_
 ·generalize yb8=G at *
  simp [fp]
 refine seqP (e2:=[some (.ref 0),some (.ref L),some (.ref K),some (.str (nm i)),some (.str (nm j)),some B1,some (.int y1.length),some (.int b),some (.int e),some (.int k),some (.int m),some (.str y)]) (h2:=h10) ?_ ?_
 ·have ob9:=H9.ob
  generalize ybh=G at *
  simp [ob9,e10]
 refine retP (v:=.tup [.str (nm i),flB8 (ydW y)]) (h' := h10) ?_ (ofP _ ?_)
 ·refine zbl (h1:=h10) rfl ?_
  have ml:=yjl y h10
  have ne:=neE y h10
  have fi:fInt [.bl (!decide (y = ""))] h10 = .ok (.int (if y = "" then 0 else 1)) h10:=by
   by_cases q:y = ""
   ·rw [if_pos q,decide_eq_true q];rfl
   ·rw [if_neg q,decide_eq_false q];rfl
  generalize (if y = "" then (0:Int) else 1)=IC at *
  generalize (!decide (y = ""))=BC at *
  simp [ml,ne,fi,-ye6,-fNe,-fInt]
 ·refine yfe (h9:=h10) (r:=[]) hi ?_ H10 (D9.fh fh10 hL) T10 (yik y) (yil ly) (by lia) (by unfold ydW;split<;>simp) pre len
  rw [List.append_nil];rfl
theorem Ho.keep {h h':AH} {ps:List Pc} {kx:List (Str×Nat×Str)} {ds bs:List (Str×Option Nat×Nat)} (H:Ho h 0 1 10 ps kx ds bs) (k:∀ i,i<=12->h'[i]? = h[i]?):Ho h' 0 1 10 ps kx ds bs :=
 ⟨(k 0 (by lia)).trans H.ob,H.sh.keep λi _ _=>k i (by lia),H.gd,(k 10 (by lia)).trans H.tx,(k 11 (by lia)).trans H.de,(k 12 (by lia)).trans H.ba,H.tz,H.lo,H.ct⟩
theorem Ho.hs {kx:List (Str×Nat×Str)} {bs:List (Str×Option Nat×Nat)} (H:Ho h 0 1 10 ps kx ds bs) (hL:12<L) (e:∃ N:Int,h[L]? = some (.lst [.int N])):Hs h 0 1 10 L ps:=⟨H.ob,H.sh,H.gd,⟨by lia,by lia,by lia⟩,e⟩
theorem Rd85.pre {ps ps':List Pc} {n:Nat} {y:Str} {bs:List Bk} (R:Rd85 ps n y bs) (p:ps <+: ps'):Rd85 ps' n y bs:=⟨R.tx.pre p,R.ey,R.ok,R.hy⟩
def ext {α:Type} (f:Nat->α) (n:Nat) (v:α):Nat->α:=λj=>if j<n then f j else v
theorem yb2 (f:Nat->α) (v:α) (h:j<n):ext f n v j=f j:=if_pos h
theorem ycl (f:Nat->α) (n:Nat) (v:α):ext f n v n=v:=if_neg (Nat.lt_irrefl _)
theorem zdN {γ:Type} (f:Nat->α) (n:Nat) (v:α) (F:α->γ):(List.range (n+1)).map (λj=>F (ext f n v j))=(List.range n).map (λj=>F (f j))++[F v]:=by
 rw [List.range_succ,List.map_append,List.map_cons,List.map_nil,ycl]
 congr 1
 exact List.map_congr_left λj hj=>by rw [yb2 f v (List.mem_range.mp hj)]
abbrev De:=Str×Option Nat×Nat
structure St85 (h:AH) (m:Nat) (K:Nat->Nat) (σ:Nat->Sg) (β:Nat->Bg) (d:Nat->De) (d0:List De) (ev:Nat->List Bk×Nat) (ps:List Pc):Prop where
 ho:Ho h 0 1 10 ps (k3 (σ m)) (d0++(List.range m).map λj=>d j) []
 l0:d0.length=3
 kk:∀ j,j<=m->(K j=13\/15<K j)/\h[K j]? = some (.dct false (d3 (β j)))
 rd:∀ j,j<=m->∀ i,i<3->Rd85 ps (σ j i).1 (σ j i).2 (β j i)
 fw:∀ j,j<=m->∀ i,i<3->(β j i).length<=43+3*j
 st:∀ j,j<m->∃ i v,i<3/\σ (j+1)=set3 (σ j) i v/\d j=(nm i,some (σ j i).1,v.1)
 pa:h[14]? = some (.lst ((List.range (m+1)).map λj=>AV.ref (K j)))
 ee:h[15]? = some (.lst ((List.range m).map λj=>AV.tup [flB8 (ev j).1,.int (ev j).2]))
 er:∀ j,j<m->(∃ y,Rd85 ps (ev j).2 y (ev j).1)/\(ev j).1.length<=200
theorem yin {m:Nat} {K:Nat->Nat} {σ:Nat->Sg} {β:Nat->Bg} {d:Nat->De} {d0:List De} {ev:Nat->List Bk×Nat} (S:St85 h m K σ β d d0 ev ps) (hm:m<25) (hp:ps.length<12000000) (c kk:Int) (sc o3 o8 o9 o10 o11 o12:Option AV) :
  ∃ h' K' σ' β' d' ev' ps' a3 a8 a9,ydB [sc,some (.ref 0),some (.ref (K m)),o3,some (.ref 14),some (.ref 15),some (.int kk),some (.int c),o8,o9,o10,o11,o12] h = .nx [sc,some (.ref 0),some (.ref (K' (m+1))),a3,some (.ref 14),some (.ref 15),some (.int kk),some (.int c),a8,a9,o10,o11,o12] h'/\St85 h' (m+1) K' σ' β' d' d0 ev' ps'/\ps'.length<=ps.length+240000:=by
 have l15:=yaW S.ee
 obtain ⟨N,st⟩:=ze0 [c,kk] (by simp) 0 (by decide) h
 have st:ybg [.fl [.int c,.int kk],.int 0] h = .ok (.ref h.length) (h++[.lst [.int N]]):=st
 obtain ⟨L,eL⟩:∃ L,L=h.length:=⟨_,rfl⟩
 obtain ⟨h1,eh1⟩:∃ h1,h1=h++[AO.lst [.int N]]:=⟨_,rfl⟩
 rw [<- eL,<- eh1] at st
 have k1:∀ i,i<L->h1[i]? = h[i]? := λi hi=>by rw [eh1,List.getElem?_append_left (by lia)]
 have L1:h1[L]? = some (.lst [.int N]):=by rw [eh1,eL];simp
 have n1:h1.length=L+1:=by rw [eh1,List.length_append,eL];rfl
 have H1:Ho h1 0 1 10 ps (k3 (σ m)) (d0++(List.range m).map λj=>d j) []:=by rw [eh1];exact S.ho.app _
 obtain ⟨kc,ke⟩:=S.kk m (Nat.le_refl _)
 have lk:=yaW ke
 have KN:Kn h1 (K m) ps (σ m) (β m) (43+3*m):=⟨(k1 _ (by lia)).trans ke,S.rd m (Nat.le_refl _),S.fw m (Nat.le_refl _)⟩
 obtain ⟨i,v,bs',h2,ps',hi,fd,H2,R2,fw2,pre,len,D2⟩:=yim H1 ⟨N,L1⟩ (by lia) (by lia) (by lia) KN (by lia) (by lia) hp (by rw [List.length_append,S.l0,List.length_map,List.length_range];lia)
 have hl2:=D2.hl
 obtain ⟨K',eK'⟩:∃ K',K'=h2.length:=⟨_,rfl⟩
 have k2:∀ i,12<i->i<L->h2[i]? = h[i]? := λi a b=>(D2.fr i a (by lia) (by lia)).trans (k1 i b)
 have dc:yee [.ref (K m)] h2 = .ok (.ref K') (h2++[.dct false (d3 (β m))]):=by
  have:=(k2 (K m) (by lia) (by lia)).trans ke
  simp only [yee,this,<- eK']
 obtain ⟨h3,eh3⟩:∃ h3,h3=h2++[AO.dct false (d3 (β m))]:=⟨_,rfl⟩
 rw [<- eh3] at dc
 have k3':∀ i,i<K'->h3[i]? = h2[i]? := λi hi=>by rw [eh3,List.getElem?_append_left (by lia)]
 have e3:h3[K']? = some (.dct false (d3 (β m))):=by rw [eh3,eK'];simp
 have n3:h3.length=K'+1:=by rw [eh3,List.length_append,eK'];rfl
 obtain ⟨h4,eh4⟩:∃ h4,h4=h3.set K' (.dct false (d3 (set3 (β m) i bs'))):=⟨_,rfl⟩
 have e4:h4[K']? = some (.dct false (d3 (set3 (β m) i bs'))):=by rw [eh4];exact List.getElem?_set_self (by lia)
 have k4:∀ i,i<K'->h4[i]? = h2[i]? := λi hi=>by rw [eh4,List.getElem?_set_ne (by lia)];exact k3' i hi
 have n4:h4.length=K'+1:=by rw [eh4,List.length_set];exact n3
 have six:ybv (sVar 2) (sVar 3) (sVar 9) [sc,some (.ref 0),some (.ref K'),some (.str (nm i)),some (.ref 14),some (.ref 15),some (.int kk),some (.int c),some (.ref L),some (flB8 bs'),o10,o11,o12] h3 = .nx [sc,some (.ref 0),some (.ref K'),some (.str (nm i)),some (.ref 14),some (.ref 15),some (.int kk),some (.int c),some (.ref L),some (flB8 bs'),o10,o11,o12] h4:=by
  have a1:ybP false (.str (nm i))=true:=rfl
  have a2:(d3 (β m)).length<sizeLine:=by show 3<sizeLine;decide
  simp only [ybv,sVar,List.getElem?_cons_succ,List.getElem?_cons_zero,Out.go,e3]
  rw [if_pos ⟨a1,a2⟩,yig _ hi,eh4]
 have p4:h4[14]? = some (.lst ((List.range (m+1)).map λj=>AV.ref (K j))):=(k4 14 (by lia)).trans ((k2 14 (by lia) (by lia)).trans S.pa)
 have ap5:=ap1 p4 (by simp;lia) (.ref K')
 obtain ⟨h5,eh5⟩:∃ h5,h5=h4.set 14 (.lst (((List.range (m+1)).map λj=>AV.ref (K j))++[.ref K'])):=⟨_,rfl⟩
 rw [<- eh5] at ap5
 have k5:∀ i,i≠14->h5[i]? = h4[i]? := λi hi=>by rw [eh5,List.getElem?_set_ne (Ne.symm hi)]
 have n5:h5.length=K'+1:=by rw [eh5,List.length_set];exact n4
 have p5:h5[15]? = some (.lst ((List.range m).map λj=>AV.tup [flB8 (ev j).1,.int (ev j).2])):=(k5 15 (by lia)).trans ((k4 15 (by lia)).trans ((k2 15 (by lia) (by lia)).trans S.ee))
 have H5:Ho h5 0 1 10 ps' (k3 (set3 (σ m) i v)) (d0++(List.range m).map (λj=>d j)++[(nm i,some (σ m i).1,v.1)]) []:=H2.keep λi a=>(k5 i (by lia)).trans (k4 i (by lia))
 have ft5:=ycW H5 (ycF _ hi)
 rw [za0] at ft5
 have ap6:=ap1 p5 (by simp;lia) (.tup [flB8 bs',.int v.1])
 obtain ⟨h6,eh6⟩:∃ h6,h6=h5.set 15 (.lst (((List.range m).map λj=>AV.tup [flB8 (ev j).1,.int (ev j).2])++[.tup [flB8 bs',.int v.1]])):=⟨_,rfl⟩
 rw [<- eh6] at ap6
 have k6:∀ i,i≠15->h6[i]? = h5[i]? := λi hi=>by rw [eh6,List.getElem?_set_ne (Ne.symm hi)]
 have H6:=H5.keep (h' := h6) λi a=>k6 i (by lia)
 have ft6:=ycW H6 (ycF _ hi)
 rw [za0] at ft6
 obtain ⟨N2,eN2⟩:=D2.st
 have s6:∃ N:Int,h6[L]? = some (.lst [.int N]):=⟨N2,(k6 L (by lia)).trans ((k5 L (by lia)).trans ((k4 L (by lia)).trans eN2))⟩
 obtain ⟨h7,sm,F7⟩:=yfF (H6.hs (by lia) s6) R2 (by lia)
 have n6:h6.length=K'+1:=by rw [eh6,List.length_set];exact n5
 have k7:∀ i,i<K'+1->i≠L->h7[i]? = h6[i]? := λi a b=>F7.fr i (by lia) b
 have kf:∀ i,12<i->i<L->i≠14->i≠15->h7[i]? = h[i]? := λi a b c e=>(k7 i (by lia) (by lia)).trans ((k6 i e).trans ((k5 i c).trans ((k4 i (by lia)).trans (k2 i a b))))
 refine ⟨h7,ext K (m+1) K',ext σ (m+1) (set3 (σ m) i v),ext β (m+1) (set3 (β m) i bs'),ext d m (nm i,some (σ m i).1,v.1),ext ev m (bs',v.1),ps',some (.str (nm i)),some (.ref L),some (flB8 bs'),?_,⟨?_,S.l0,?_,?_,?_,?_,?_,?_,?_⟩,len⟩
 ·have sm':yaS [.ref 0,flB8 bs',.int v.1,.ref L] h6 = .ok (.bl true) h7:=sm
  have ob5:=H5.ob
  have ob6:=H6.ob
  have il4:yat (.ref 14) h4=true:=by simp only [yat,ybi,p4];rfl
  have il5:yat (.ref 15) h5=true:=by simp only [yat,ybi,p5];rfl
  rw [ycl]
  unfold ydB
  clear eh1 eh3 eh4 eh5 eh6 k1 k2 k3' k4 k5 k6 k7 kf e3 e4 p4 p5
  generalize ybv (sVar 2) (sVar 3) (sVar 9)=SX at *
  generalize ybg=G1 at *
  generalize ycS=G2 at *
  generalize yaz=G3 at *
  generalize yaS=G4 at *
  generalize flB8 bs'=Z at *
  generalize yee=G5 at *
  simp [st,fd,dc,six,ap5,il4,ob5,ft5,ap6,il5,ob6,ft6,sm',-yav,-yat]
 ·rw [ycl,zdN (F:=λx=>x),<- List.append_assoc]
  exact H6.keep λi a=>k7 i (by lia) (by lia)
 ·intro j hj
  by_cases q:j<m+1
  ·rw [yb2 K K' q,yb2 β _ q]
   obtain ⟨a,b⟩:=S.kk j (by lia)
   have:=yaW b
   exact ⟨a,(kf (K j) (by lia) (by lia) (by lia) (by lia)).trans b⟩
  ·obtain rfl:j=m+1:=by lia
   rw [ycl,ycl]
   exact ⟨.inr (by lia),(k7 K' (by lia) (by lia)).trans ((k6 K' (by lia)).trans ((k5 K' (by lia)).trans e4))⟩
 ·intro j hj u hu
  by_cases q:j<m+1
  ·rw [yb2 σ _ q,yb2 β _ q]
   exact (S.rd j (by lia) u hu).pre pre
  ·obtain rfl:j=m+1:=by lia
   rw [ycl,ycl]
   by_cases z:u=i
   ·subst z;rw [za0,za0];exact R2
   ·rw [zcr _ _ z,zcr _ _ z];exact (S.rd m (Nat.le_refl _) u hu).pre pre
 ·intro j hj u hu
  by_cases q:j<m+1
  ·rw [yb2 β _ q]
   exact S.fw j (by lia) u hu
  ·obtain rfl:j=m+1:=by lia
   rw [ycl]
   by_cases z:u=i
   ·subst z;rw [za0];lia
   ·rw [zcr _ _ z];have:=S.fw m (Nat.le_refl _) u hu;lia
 ·intro j hj
  by_cases q:j<m
  ·obtain ⟨a,w,b,e,f⟩:=S.st j q
   exact ⟨a,w,b,by rw [yb2 σ _ (by lia),yb2 σ _ (by lia)];exact e,by rw [yb2 d _ q,yb2 σ _ (by lia)];exact f⟩
  ·obtain rfl:j=m:=by lia
   exact ⟨i,v,hi,by rw [ycl,yb2 σ _ (by lia)],by rw [ycl,yb2 σ _ (by lia)]⟩
 ·rw [zdN (F:=λx=>AV.ref x)]
  exact (k7 14 (by lia) (by lia)).trans ((k6 14 (by lia)).trans (by rw [eh5];exact List.getElem?_set_self (by lia)))
 ·rw [zdN (F:=λx:List Bk×Nat=>AV.tup [flB8 x.1,.int x.2])]
  exact (k7 15 (by lia) (by lia)).trans (by rw [eh6];exact List.getElem?_set_self (by lia))
 ·intro j hj
  by_cases q:j<m
  ·rw [yb2 ev _ q]
   obtain ⟨⟨y,a⟩,b⟩:=S.er j q
   exact ⟨⟨y,a.pre pre⟩,b⟩
  ·obtain rfl:j=m:=by lia
   rw [ycl]
   exact ⟨⟨v.2,R2⟩,by show bs'.length<=200;lia⟩
theorem zgC (d:Nat->De) (d0:List De) (r:Nat):d0++(List.range (r+1)).map (λj=>d j)=(d0++(List.range r).map λj=>d j)++[d r]:=by
 rw [List.range_succ,List.map_append,<- List.append_assoc];rfl
section
variable {h hh:AH} {M b:Nat} {K:Nat->Nat} {σ:Nat->Sg} {β:Nat->Bg} {d:Nat->De} {d0:List De} {ev:Nat->List Bk×Nat} {ps:List Pc}
structure Bk85 (M:Nat) (σ:Nat->Sg) (d:Nat->De) (d0:List De) (ps:List Pc) (H0 hh:AH) (r:Nat):Prop where
 ho:Ho hh 0 1 10 ps (k3 (σ r)) (d0++(List.range r).map λj=>d j) ((List.range (M-r)).map λs=>d (M-1-s))
 fr:∀ i,12<i->hh[i]? = H0[i]?
 hl:hh.length=H0.length
theorem Bk85.fh {r':Nat} (B:Bk85 M σ d d0 ps H0 h1 r) (F:Fh 1 10 h1 h2) (H:Ho h2 0 1 10 ps (k3 (σ r')) (d0++(List.range r').map λj=>d j) ((List.range (M-r')).map λs=>d (M-1-s))):Bk85 M σ d d0 ps H0 h2 r' :=
 ⟨H,λi hi=>(F.fr i (by lia) (by lia) (by lia) (by lia)).trans (B.fr i hi),F.hl.trans B.hl⟩
theorem zjd (S:St85 h M K σ β d d0 ev ps) (hM:M<=60) (hr:r<M) (B:Bk85 M σ d d0 ps H0 hh (r+1)):∃ h',yb0 [.ref 0] hh = .ok .non h'/\Bk85 M σ d d0 ps H0 h' r:=by
 obtain ⟨i,v,hi,e1,e2⟩:=S.st r hr
 have H:=B.ho
 rw [zgC,e2] at H
 obtain ⟨h',f,H',F⟩:=zkq H (yfd hi) (S.rd r (by lia) i hi).tx (by show 3<50;lia) (by simp;lia)
 refine ⟨h',f,B.fh F ?_⟩
 rw [yfG _ hi] at H'
 have z:set3 (σ (r+1)) i ((σ r i).1,(σ r i).2)=σ r:=by rw [e1];exact zib _ _ _
 rw [z] at H'
 have w:M-r=(M-(r+1))+1:=by lia
 rw [w,List.range_succ,List.map_append,List.map_cons,List.map_nil,show M-1-(M-(r+1))=r by lia,e2]
 exact H'
theorem zic (S:St85 h M K σ β d d0 ev ps) (hM:M<=60) (hr:r<M) (B:Bk85 M σ d d0 ps H0 hh r):∃ h',ybN [.ref 0] hh = .ok .non h'/\Bk85 M σ d d0 ps H0 h' (r+1):=by
 obtain ⟨i,v,hi,e1,e2⟩:=S.st r hr
 have H:=B.ho
 have w:M-r=(M-(r+1))+1:=by lia
 rw [w,List.range_succ,List.map_append,List.map_cons,List.map_nil,show M-1-(M-(r+1))=r by lia,e2] at H
 have R:=S.rd (r+1) (by lia) i hi
 rw [e1,za0] at R
 obtain ⟨h',f,H',F⟩:=zi8 H (yfd hi) R.tx (by show 3<50;lia) (by rw [List.length_append,S.l0,List.length_map,List.length_range];lia)
 refine ⟨h',f,B.fh F ?_⟩
 rw [yfG _ hi] at H'
 have z:set3 (σ r) i (v.1,v.2)=σ (r+1):=e1.symm
 rw [z,<- e2] at H'
 rw [zgC]
 exact H'
abbrev eL (e0 e2 e3 e6 e7:Option AV) (L:Nat) (e9 e10 e11 e12:Option AV):En:=[e0,some (.ref 0),e2,e3,some (.ref 14),some (.ref 15),e6,e7,some (.ref L),e9,e10,e11,e12]
theorem zid (S:St85 h M K σ β d d0 ev ps) (hM:M<=60) (hb:b<=M) (B:Bk85 M σ d d0 ps H0 hh M) (e0 e2 e3 e6 e7:Option AV) (L:Nat) (e9 e10 e11 e12:Option AV) :
  ∃ h' c11,ybu none (yaX 0 b) (.nm 11) yc6 (yaX 0 b) (eL e0 e2 e3 e6 e7 L e9 e10 e11 e12) hh = .nx (eL e0 e2 e3 e6 e7 L e9 e10 c11 e12) h'/\Bk85 M σ d d0 ps H0 h' (M-b):=by
 obtain ⟨e',h',r1,c11,rfl,B'⟩:=yct (w:=none) (all:=yaX 0 b) (t:=.nm 11) (b:=yc6) (xs:=yaX 0 b) (en:=eL e0 e2 e3 e6 e7 L e9 e10 e11 e12) (h:=hh)
  (λt en hx=>∃ c11,en=eL e0 e2 e3 e6 e7 L e9 e10 c11 e12/\Bk85 M σ d d0 ps H0 hx (M-t)) ⟨e11,rfl,B⟩ (λ_ _ _ _=>rfl) (by
   rintro t u en hx hu ⟨c11,rfl,B⟩
   have tb:t<b:=by have:=(List.getElem?_eq_some_iff.mp hu).1;rwa [zaL] at this
   obtain ⟨h',f,B'⟩:=zjd S hM (r:=M-(t+1)) (by lia) (by rw [show M-(t+1)+1=M-t by lia];exact B)
   have ob:=B.ho.ob
   have e:yc6 (eL e0 e2 e3 e6 e7 L e9 e10 (some u) e12) hx = .nx (eL e0 e2 e3 e6 e7 L e9 e10 (some u) e12) h' := by
    unfold yc6
    generalize yb0=G at *
    simp [ob,f]
   show thn (yc6 (eL e0 e2 e3 e6 e7 L e9 e10 (some u) e12) hx) _
   rw [e]
   exact ⟨_,rfl,B'⟩)
 rw [zaL] at B'
 exact ⟨h',c11,r1,B'⟩
theorem zg6 (S:St85 h M K σ β d d0 ev ps) (hM:M<=60) (hb:b<=M) (B:Bk85 M σ d d0 ps H0 hh (M-b)) (e0 e2 e3 e6 e7:Option AV) (L:Nat) (e9 e10 e11 e12:Option AV) :
  ∃ h' c11,ybu none (yaX 0 b) (.nm 11) yc7 (yaX 0 b) (eL e0 e2 e3 e6 e7 L e9 e10 e11 e12) hh = .nx (eL e0 e2 e3 e6 e7 L e9 e10 c11 e12) h'/\Bk85 M σ d d0 ps H0 h' M:=by
 obtain ⟨e',h',r1,c11,rfl,B'⟩:=yct (w:=none) (all:=yaX 0 b) (t:=.nm 11) (b:=yc7) (xs:=yaX 0 b) (en:=eL e0 e2 e3 e6 e7 L e9 e10 e11 e12) (h:=hh)
  (λt en hx=>∃ c11,en=eL e0 e2 e3 e6 e7 L e9 e10 c11 e12/\Bk85 M σ d d0 ps H0 hx (M-b+t)) ⟨e11,rfl,B⟩ (λ_ _ _ _=>rfl) (by
   rintro t u en hx hu ⟨c11,rfl,B⟩
   have tb:t<b:=by have:=(List.getElem?_eq_some_iff.mp hu).1;rwa [zaL] at this
   obtain ⟨h',f,B'⟩:=zic S hM (r:=M-b+t) (by lia) B
   have ob:=B.ho.ob
   have e:yc7 (eL e0 e2 e3 e6 e7 L e9 e10 (some u) e12) hx = .nx (eL e0 e2 e3 e6 e7 L e9 e10 (some u) e12) h' := by
    unfold yc7
    generalize ybN=G at *
    simp [ob,f]
   show thn (yc7 (eL e0 e2 e3 e6 e7 L e9 e10 (some u) e12) hx) _
   rw [e]
   exact ⟨_,rfl,B'⟩)
 rw [zaL,show M-b+b=M by lia] at B'
 exact ⟨h',c11,r1,B'⟩
structure Ls (M:Nat) (K:Nat->Nat) (β:Nat->Bg) (ev:Nat->List Bk×Nat) (L:Nat) (hh:AH):Prop where
 kk:∀ j,j<=M->hh[K j]? = some (.dct false (d3 (β j)))
 pa:hh[14]? = some (.lst ((List.range (M+1)).map λj=>AV.ref (K j)))
 ee:hh[15]? = some (.lst ((List.range M).map λj=>AV.tup [flB8 (ev j).1,.int (ev j).2]))
 st:∃ N:Int,hh[L]? = some (.lst [.int N])
 lo:15<L/\∀ j,j<=M->K j<L/\12<K j
theorem Ls.fr {L:Nat} {hh h':AH} (S:Ls M K β ev L hh) (F:Fr L hh h'):Ls M K β ev L h' := by
 have l:=S.lo
 obtain ⟨N,e⟩:=S.st
 have lL:=yaW e
 exact ⟨λj hj=>(F.fr _ (by have:=(l.2 j hj).1;lia) (by have:=(l.2 j hj).1;lia)).trans (S.kk j hj),(F.fr 14 (by lia) (by lia)).trans S.pa,(F.fr 15 (by lia) (by lia)).trans S.ee,F.ro,l⟩
theorem Ls.bk {hh:AH} (S:Ls M K β ev L H0) (B:Bk85 M σ d d0 ps H0 hh r):Ls M K β ev L hh:=by
 have l:=S.lo
 obtain ⟨N,e⟩:=S.st
 exact ⟨λj hj=>(B.fr _ (l.2 j hj).2).trans (S.kk j hj),(B.fr 14 (by lia)).trans S.pa,(B.fr 15 (by lia)).trans S.ee,⟨N,(B.fr L (by lia)).trans e⟩,l⟩
theorem Bk85.fs {hh:AH} (B:Bk85 M σ d d0 ps H0 hh r) (F:Fr L hh h') (hL:12<L):Bk85 M σ d d0 ps h' h' r:=⟨B.ho.fr F hL,λ_ _=>rfl,rfl⟩
theorem Ls.at {hh:AH} (S:Ls M K β ev L hh) (hj:j<=M):fIx (.ref 14) (.int j) hh = .ok (.ref (K j)) hh:=by
 have e:((List.range (M+1)).map λj=>AV.ref (K j))[j]? = some (.ref (K j)):=by rw [List.getElem?_map,List.getElem?_range (by lia)];rfl
 simp only [fIx,S.pa,zck e]
theorem ygV (S:St85 h M K σ β d d0 ev ps) (hM:M<=60) (hr:r<=M) (B:Bk85 M σ d d0 ps H0 hh r) (E:Ls M K β ev L hh) (hi:i<3) :
  ∃ h',yaz [.ref 0,.str (nm i)] hh = .ok (.int (σ r i).1) hh/\fIx (.ref (K r)) (.str (nm i)) hh = .ok (flB8 (β r i)) hh/\yaS [.ref 0,flB8 (β r i),.int (σ r i).1,.ref L] hh = .ok (.bl true) h'/\Fr L hh h' := by
 have lo:=E.lo
 obtain ⟨h',f,F⟩:=yfF (B.ho.hs (by lia) E.st) (S.rd r hr i hi) (by have:=S.fw r hr i hi;lia)
 exact ⟨h',ycW B.ho (ycF _ hi),yeM (E.kk r hr) hi,f,F⟩
end
theorem yjm (l:List AV) (k:Nat) (h:AH):ybe (.fl l) none (some (k:Int)) h = .ok (.fl (l.take k)) h:=by
 simp only [ybe]
 congr 2
 unfold cutA
 rw [HT.sIx_nat,HT.sIx_none]
 show (l.drop 0).take (min k l.length-0)=_
 rw [List.drop_zero,Nat.sub_zero]
 by_cases q:k<=l.length
 ·rw [Nat.min_eq_left q]
 ·rw [Nat.min_eq_right (by lia),List.take_of_length_le (by simp),List.take_of_length_le (by lia)]
theorem zkr (h:j<3) (v:Nat×Str):put ((k3 σ).take j) (nm j) v=(k3 (set3 σ j v)).take (j+1):=by
 have ne:∀ a b:Nat,decide (nm a=nm b)=decide (a=b):=λa b=>by apply decide_eq_decide.mpr;exact nm_inj
 unfold put lk k3
 rcases (show j=0\/j=1\/j=2 by lia) with rfl | rfl | rfl<;>simp [nm_inj,set3]
theorem zks (hb:β=λ_=>[]) (h:j<3):putA ((d3 β).take j) (.str (nm j)) (.fl [])=(d3 β).take (j+1):=by
 subst hb
 unfold putA d3 flB8
 rcases (show j=0\/j=1\/j=2 by lia) with rfl | rfl | rfl<;>simp [nm_inj]
abbrev xsA:List AV:=[.str (nm 0),.str (nm 1),.str (nm 2)]
theorem yfH (en:En) (h:AH):iVal (sLit (.str "abc")) en h = .ok (xsA,none) h:=by
 show Out.ok ((Str.ofString "abc").cps.toList.map (λc=>AV.str ⟨#[c]⟩),none) h=_
 rw [zgz];rfl
theorem yfI {u:AV} (h:xsA[j]? = some u):j<3/\u = .str (nm j):=by
 have hj:j<3:=(List.getElem?_eq_some_iff.mp h).1
 rcases (show j=0\/j=1\/j=2 by lia) with rfl | rfl | rfl<;>(cases h;exact ⟨hj,rfl⟩)
theorem zg7 (sc o3:Option AV) (H:Ho h 0 1 10 [] [] [] []) (e:h[13]? = some (.dct false [])) :
  ∃ h' σ ps d0 c3,ybu none xsA (.nm 3) yc5 xsA [sc,some (.ref 0),some (.ref 13),o3,none,none,none,none,none,none,none,none,none] h = .nx [sc,some (.ref 0),some (.ref 13),c3,none,none,none,none,none,none,none,none,none] h'/\Ho h' 0 1 10 ps (k3 σ) d0 []/\d0.length=3/\h'[13]? = some (.dct false (d3 λ_=>[]))/\h'.length=h.length/\ps.length<=3/\∀ i,i<3->(σ i).2 = "" := by
 obtain ⟨e',h',r1,σ,ps,d0,c3,rfl,H',l0,ed,hl,lp,hs⟩:=yct (w:=none) (all:=xsA) (t:=.nm 3) (b:=yc5) (xs:=xsA) (en:=[sc,some (.ref 0),some (.ref 13),o3,none,none,none,none,none,none,none,none,none]) (h:=h)
  (λj en hh=>∃ (σ:Sg) (ps:List Pc) (d0:List De) (c3:Option AV),en=[sc,some (.ref 0),some (.ref 13),c3,none,none,none,none,none,none,none,none,none]/\Ho hh 0 1 10 ps ((k3 σ).take j) d0 []/\d0.length=j/\hh[13]? = some (.dct false ((d3 λ_=>[]).take j))/\hh.length=h.length/\ps.length<=j/\∀ i,i<j->(σ i).2 = "")
  ⟨λ_=>(0, ""),[],[],o3,rfl,H,rfl,e,rfl,Nat.le_refl _,λi hi=>absurd hi (Nat.not_lt_zero _)⟩ (λ_ _ _ _=>rfl) (by
   rintro j u en hh hu ⟨σ,ps,d0,c3,rfl,H,l0,ed,hl,lp,hs⟩
   obtain ⟨hj,rfl⟩:=yfI hu
   obtain ⟨n,ps',h1,fg,H1,F,lp'⟩:=yie H (yfd hj) (y := "") (by decide) (by decide) (by show ps.length+2*0<16000000;lia) (by rw [List.length_take];show min j 3<50;lia) (by lia)
   rw [zkr hj] at H1
   have l13:=yaW ed
   have e1:h1[13]? = some (.dct false ((d3 λ_=>[]).take j)):=(F.fr 13 (by lia) (by lia) (by lia) (by lia)).trans ed
   obtain ⟨h2,eh2⟩:∃ h2,h2=h1.set 13 (.dct false ((d3 λ_=>[]).take (j+1))):=⟨_,rfl⟩
   have six:ybv (sVar 2) (sVar 3) (sLst sNil) [sc,some (.ref 0),some (.ref 13),some (.str (nm j)),none,none,none,none,none,none,none,none,none] h1 = .nx [sc,some (.ref 0),some (.ref 13),some (.str (nm j)),none,none,none,none,none,none,none,none,none] h2:=by
    have a1:ybP false (.str (nm j))=true:=rfl
    have a2:((d3 λ_=>[]).take j).length<sizeLine:=by rw [List.length_take];exact Nat.lt_of_le_of_lt (m:=3) (Nat.min_le_right _ _) (by decide)
    have a3:sLst sNil [sc,some (.ref 0),some (.ref 13),some (.str (nm j)),none,none,none,none,none,none,none,none,none] h1 = .ok (.fl []) h1:=rfl
    simp only [ybv,a3,sVar,List.getElem?_cons_succ,List.getElem?_cons_zero,Out.go,e1]
    rw [if_pos ⟨a1,a2⟩,zks rfl hj,eh2]
   have ob:=H.ob
   have fg':ybh [.ref 0,.str (nm j),.str ""] hh = .ok .non h1:=fg
   have eb:yc5 [sc,some (.ref 0),some (.ref 13),some (.str (nm j)),none,none,none,none,none,none,none,none,none] hh = .nx [sc,some (.ref 0),some (.ref 13),some (.str (nm j)),none,none,none,none,none,none,none,none,none] h2:=by
    unfold yc5
    clear eh2 e1 ed
    generalize ybv (sVar 2) (sVar 3) (sLst sNil)=SX at *
    generalize ybh=G at *
    simp [ob,fg',six]
   show thn (yc5 [sc,some (.ref 0),some (.ref 13),some (.str (nm j)),none,none,none,none,none,none,none,none,none] hh) _
   rw [eb]
   refine ⟨set3 σ j (n, ""),ps',_,_,rfl,H1.keep λi hi=>by rw [eh2,List.getElem?_set_ne (by lia)],by simp [l0],by rw [eh2];exact List.getElem?_set_self (by rw [F.hl];lia),by rw [eh2,List.length_set,F.hl,hl],?_,λi hi=>?_⟩
   ·have:ps'.length<=ps.length+2*0:=lp'
    lia
   ·by_cases q:i=j
    ·rw [q,za0]
    ·rw [zcr _ _ q];exact hs i (by lia))
 exact ⟨h',σ,ps,d0,c3,r1,H',l0,ed,hl,lp,hs⟩
theorem ln85 {k:Nat} (h1:a<=3+k*j) (h2:b<=a+k):b<=3+k*(j+1):=by
 rw [Nat.mul_succ]
 lia
theorem law_true (ns:List Int) (hl:ns.length<=63):∃ h',yfQ [.fl (ns.map AV.int)] [] = .ok (.bl true) h' := by
 obtain ⟨sc,esc⟩:∃ sc:Option AV,sc=some (.fl (ns.map AV.int)):=⟨_,rfl⟩
 obtain ⟨h0,eh0⟩:∃ h0:AH,h0 = .ins 1 [some (.ref 1),some (.ref 10),some (.ref 11),some (.ref 12)]::(yfu 1++[.dct false [],.lst [],.lst []]):=⟨_,rfl⟩
 have mk:yeI 1 4 ybY sNil [sc,none,none,none,none,none,none,none,none,none,none,none,none] [] = .ok (.ref 0) h0:=by rw [eh0];exact zkp _ []
 have H0:Ho h0 0 1 10 [] [] [] []:=by
  rw [eh0]
  exact ⟨rfl,yh0 [.ins 1 [some (.ref 1),some (.ref 10),some (.ref 11),some (.ref 12)]] [AO.dct false [],.lst [],.lst []],.nil,rfl,rfl,rfl,nofun,⟨by decide,by decide⟩,by decide⟩
 have l0:h0.length=13:=by rw [eh0];rfl
 obtain ⟨h1,eh1⟩:∃ h1,h1=h0++[AO.dct false []]:=⟨_,rfl⟩
 have H1:Ho h1 0 1 10 [] [] [] []:=by rw [eh1];exact H0.app _
 have e1:h1[13]? = some (.dct false []):=by rw [eh1,<- l0];simp
 have l1:h1.length=14:=by rw [eh1,List.length_append,l0];rfl
 obtain ⟨h2,σ0,ps0,d0,c3,r2,H2,ld0,e2,l2,lp0,z0⟩:=zg7 sc none H1 e1
 rw [l1] at l2
 obtain ⟨h3,eh3⟩:∃ h3,h3=h2++[AO.lst [.ref 13]]++[.lst []]:=⟨_,rfl⟩
 have H3:Ho h3 0 1 10 ps0 (k3 σ0) d0 []:=by rw [eh3];exact (H2.app _).app _
 have k3a:∀ i,i<14->h3[i]? = h2[i]? := λi hi=>by rw [eh3,List.append_assoc,List.getElem?_append_left (by lia)]
 have S0:St85 h3 0 (λ_=>13) (λ_=>σ0) (λ_ _=>[]) (λ_=>("",none,0)) d0 (λ_=>([],0)) ps0:=by
  refine ⟨by rw [List.range_zero,List.map_nil,List.append_nil];exact H3,ld0,λj hj=>⟨.inl rfl,(k3a 13 (by lia)).trans e2⟩,λj hj i hi=>?_,λj hj i hi=>Nat.zero_le _,λj hj=>absurd hj (Nat.not_lt_zero _),?_,?_,λj hj=>absurd hj (Nat.not_lt_zero _)⟩
  ·have t:=(H3.tz _ (ycV (ycF σ0 hi))).1
   have z:=z0 i hi
   exact ⟨t,by rw [z];rfl,nofun,by rw [z];exact Nat.zero_le _⟩
  ·rw [eh3,List.append_assoc,List.getElem?_append_right (by lia),l2];rfl
  ·rw [eh3,List.append_assoc,List.getElem?_append_right (by lia),l2];rfl
 obtain ⟨cells,ecl⟩:∃ cells:List Int,cells=ns.take 20++[0,1,2,3,4]:=⟨_,rfl⟩
 have lc:cells.length<=25:=by rw [ecl,List.length_append,List.length_take];show min 20 ns.length+5<=25;lia
 obtain ⟨e',h4,r4,q4⟩:=yct (w:=none) (all:=Sm.numbered 0 (cells.map AV.int)) (t:=.tup [6,7]) (b:=ydB) (xs:=Sm.numbered 0 (cells.map AV.int)) (en:=[sc,some (.ref 0),some (.ref 13),c3,some (.ref 14),some (.ref 15),none,none,none,none,none,none,none]) (h:=h3)
  (λj en hh=>j<=25->∃ (K:Nat->Nat) (σ:Nat->Sg) (β:Nat->Bg) (d:Nat->De) (ev:Nat->List Bk×Nat) (ps:List Pc) (o3 o6 o7 o8 o9:Option AV),en=[sc,some (.ref 0),some (.ref (K j)),o3,some (.ref 14),some (.ref 15),o6,o7,o8,o9,none,none,none]/\St85 hh j K σ β d d0 ev ps/\ps.length<=3+240000*j)
  (λ_=>⟨_,_,_,_,_,ps0,c3,none,none,none,none,rfl,S0,by lia⟩) (λ_ _ _ _=>rfl) (by
   intro j u en hh hu hp
   rw [Sm.numbered_get,List.getElem?_map] at hu
   obtain ⟨w,ev',rfl⟩:=Option.map_eq_some_iff.mp hu
   obtain ⟨c,ec,rfl⟩:=Option.map_eq_some_iff.mp ev'
   have hj:j<cells.length:=(List.getElem?_eq_some_iff.mp ec).1
   obtain ⟨K,σ,β,d,ev,ps,o3,o6,o7,o8,o9,rfl,S,lp⟩:=hp (by lia)
   obtain ⟨h',K',σ',β',d',ev2,ps',a3,a8,a9,e,S',lp'⟩:=yin S (by lia) (by lia) c ((0+j:Nat):Int) sc o3 o8 o9 none none none
   obtain ⟨BB,hB⟩:∃ BB,BB=ydB:=⟨_,rfl⟩
   rw [<- hB] at e ⊢
   show thn (BB [sc,some (.ref 0),some (.ref (K j)),o3,some (.ref 14),some (.ref 15),some (.int ((0+j:Nat):Int)),some (.int c),o8,o9,none,none,none] hh) _
   rw [e]
   exact λ_=>⟨K',σ',β',d',ev2,ps',a3,_,_,a8,a9,rfl,S',ln85 lp lp'⟩)
 have nl:∀ (xs:List AV) (k:Nat),(Sm.numbered k xs).length=xs.length:=λxs=>by
  induction xs with
  | nil=>intro k;rfl
  | cons x xs ih=>intro k;simp [Sm.numbered,ih (k+1)]
 rw [nl,List.length_map] at q4
 obtain ⟨M,eM⟩:∃ M,M=cells.length:=⟨_,rfl⟩
 rw [<- eM] at q4 lc
 obtain ⟨K,σ,β,d,ev,ps,o3,o6,o7,o8,o9,rfl,S,lp⟩:=q4 lc
 have M60:M<=60:=by lia
 obtain ⟨N,st⟩:=ze0 ns hl 1 (by decide) h4
 have st:ybg [.fl (ns.map AV.int),.int 1] h4 = .ok (.ref h4.length) (h4++[.lst [.int N]]):=st
 obtain ⟨L,eL'⟩:∃ L,L=h4.length:=⟨_,rfl⟩
 have l4:=yaW S.ee
 obtain ⟨h5,eh5⟩:∃ h5,h5=h4++[AO.lst [.int N]]:=⟨_,rfl⟩
 rw [<- eL',<- eh5] at st
 have k5:∀ i,i<L->h5[i]? = h4[i]? := λi hi=>by rw [eh5,List.getElem?_append_left (by lia)]
 have E5:Ls M K β ev L h5:=⟨λj hj=>(k5 _ (by have:=yaW (S.kk j hj).2;lia)).trans (S.kk j hj).2,(k5 14 (by lia)).trans S.pa,(k5 15 (by lia)).trans S.ee,⟨N,by rw [eh5,eL'];simp⟩,by lia,λj hj=>⟨by have:=yaW (S.kk j hj).2;lia,by rcases (S.kk j hj).1 with h | h<;>lia⟩⟩
 have H5:Ho h5 0 1 10 ps (k3 (σ M)) (d0++(List.range M).map λj=>d j) []:=by rw [eh5];exact S.ho.app _
 have F5:Fr L h5 h5:=⟨λ_ _ _=>rfl,Nat.le_refl _,E5.st⟩
 obtain ⟨b,N2,hb,tk,F6⟩:=F5.take (M+1) (Nat.succ_pos _) (Nat.le_trans (m:=61) (by lia) (by decide))
 obtain ⟨h6,eh6⟩:∃ h6,h6=h5.set L (.lst [.int N2]):=⟨_,rfl⟩
 rw [<- eh6] at tk F6
 have E6:=E5.fr F6
 have lo6:=E6.lo
 have B6:Bk85 M σ d d0 ps h6 h6 M:=⟨by rw [Nat.sub_self,List.range_zero,List.map_nil];exact H5.fr F6 (by lia),λ_ _=>rfl,rfl⟩
 obtain ⟨h7,c11,r7,B7⟩:=zid S M60 (b:=b) (by lia) B6 sc (some (.ref (K M))) o3 o6 o7 L o9 (some (.int b)) none none
 have E7:=E6.bk B7
 have B7':Bk85 M σ d d0 ps h7 h7 (M-b):=⟨B7.ho,λ_ _=>rfl,rfl⟩
 have plen:∀ {hh:AH},Ls M K β ev L hh->fLen [.ref 14] hh = .ok (.int ((M+1:Nat):Int)) hh:=λ{hh} E=>by
  simp only [fLen,E.pa,List.length_map,List.length_range]
 obtain ⟨e8,h8,r8,c8,rfl,B8,E8⟩:=yct (w:=none) (all:=xsA) (t:=.nm 3) (b:=ydC) (xs:=xsA) (en:=eL sc (some (.ref (K M))) o3 o6 o7 L o9 (some (.int b)) c11 none) (h:=h7)
  (λj en hh=>∃ c8,en=eL sc (some (.ref (K M))) c8 o6 o7 L o9 (some (.int b)) c11 none/\Bk85 M σ d d0 ps hh hh (M-b)/\Ls M K β ev L hh) ⟨o3,rfl,B7',E7⟩ (λ_ _ _ _=>rfl) (by
   rintro j u en hh hu ⟨c8,rfl,B,E⟩
   obtain ⟨hj,rfl⟩:=yfI hu
   obtain ⟨h',ft,ix,sm,F⟩:=ygV S M60 (Nat.sub_le M b) B E hj
   have pl:=plen E
   have s1:fSub (.int ((M+1:Nat):Int)) (.int 1) hh = .ok (.int M) hh:=yem (a:=M+1) (b:=1) (c:=M) (by lia) hh
   have s2:fSub (.int M) (.int b) hh = .ok (.int ((M-b:Nat):Int)) hh:=yem (by lia) hh
   have pt:=E.at (j:=M-b) (Nat.sub_le M b)
   have ob:=B.ho.ob
   have e:ydC (eL sc (some (.ref (K M))) (some (.str (nm j))) o6 o7 L o9 (some (.int b)) c11 none) hh = .nx (eL sc (some (.ref (K M))) (some (.str (nm j))) o6 o7 L o9 (some (.int b)) c11 none) h' := by
    unfold ydC
    clear r7 r4 plen
    generalize yaz=G1 at *
    generalize yaS=G2 at *
    generalize flB8 (β (M-b) j)=Z at *
    generalize ((M-b:Nat):Int)=MB at *
    generalize ((M+1:Nat):Int)=M1 at *
    generalize (M:Int)=MI at *
    generalize (b:Int)=BI at *
    simp [ob,pl,s1,s2,pt,ix,ft,sm,-fLen,-fSub,-fIx]
   show thn (ydC (eL sc (some (.ref (K M))) (some (.str (nm j))) o6 o7 L o9 (some (.int b)) c11 none) hh) _
   rw [e]
   exact ⟨_,rfl,B.fs F (by lia),E.fr F⟩)
 obtain ⟨h9,c12,r9,B9⟩:=zg6 S M60 (b:=b) (by lia) B8 sc (some (.ref (K M))) c8 o6 o7 L o9 (some (.int b)) c11 none
 have E9:=E8.bk B9
 have B9':Bk85 M σ d d0 ps h9 h9 M:=⟨B9.ho,λ_ _=>rfl,rfl⟩
 obtain ⟨js,ejs⟩:∃ js:List Nat,js=cutA (List.range M) (some (-6)) none:=⟨_,rfl⟩
 have mjs:∀ j∈js,j<M:=λj hj=>by
  rw [ejs] at hj
  exact List.mem_range.mp (List.mem_of_mem_drop (List.mem_of_mem_take hj))
 have cut9:ybe (.ref 15) (some (-6)) none h9 = .ok (.fl (js.map λj=>AV.tup [flB8 (ev j).1,.int (ev j).2])) h9:=by
  have:cutA ((List.range M).map λj=>AV.tup [flB8 (ev j).1,.int (ev j).2]) (some (-6)) none=(cutA (List.range M) (some (-6)) none).map λj=>AV.tup [flB8 (ev j).1,.int (ev j).2]:=by
   unfold cutA
   rw [List.length_map,List.map_take,List.map_drop]
  simp only [ybe,E9.ee,this,ejs]
 obtain ⟨eA,hA,rA,a9,a12,rfl,BA,EA⟩:=yct (w:=none) (all:=js.map λj=>AV.tup [flB8 (ev j).1,.int (ev j).2]) (t:=.tup [9,12]) (b:=ydD) (xs:=js.map λj=>AV.tup [flB8 (ev j).1,.int (ev j).2]) (en:=eL sc (some (.ref (K M))) c8 o6 o7 L o9 (some (.int b)) c12 none) (h:=h9)
  (λj en hh=>∃ a9 a12,en=eL sc (some (.ref (K M))) c8 o6 o7 L a9 (some (.int b)) c12 a12/\Bk85 M σ d d0 ps hh hh M/\Ls M K β ev L hh) ⟨o9,none,rfl,B9',E9⟩ (λ_ _ _ _=>rfl) (by
   rintro j u en hh hu ⟨a9,a12,rfl,B,E⟩
   rw [List.getElem?_map] at hu
   obtain ⟨g,eg,rfl⟩:=Option.map_eq_some_iff.mp hu
   obtain ⟨⟨y,R⟩,lb⟩:=S.er g (mjs g (List.mem_of_getElem? eg))
   obtain ⟨h',sm,F⟩:=yfF (B.ho.hs (by lia) E.st) R (by lia)
   have sm':yaS [.ref 0,flB8 (ev g).1,.int (ev g).2,.ref L] hh = .ok (.bl true) h' := sm
   have e:ydD (eL sc (some (.ref (K M))) c8 o6 o7 L (some (flB8 (ev g).1)) (some (.int b)) c12 (some (.int (ev g).2))) hh = .nx (eL sc (some (.ref (K M))) c8 o6 o7 L (some (flB8 (ev g).1)) (some (.int b)) c12 (some (.int (ev g).2))) h' := by
    unfold ydD
    clear r8 r7 r4 plen cut9 r9
    generalize yaS=G2 at *
    generalize flB8 (ev g).1=Z at *
    simp [sm']
   show thn (ydD (eL sc (some (.ref (K M))) c8 o6 o7 L (some (flB8 (ev g).1)) (some (.int b)) c12 (some (.int (ev g).2))) hh) _
   rw [e]
   exact ⟨_,_,rfl,B.fs F (by lia),E.fr F⟩)
 have lst:∀ {hh:AH},Ls M K β ev L hh->fIx (.ref 14) (.int (-1)) hh = .ok (.ref (K M)) hh:=λ{hh} E=>by
  have z:(List.range (M+1)).map (λj=>AV.ref (K j))=(List.range M).map (λj=>AV.ref (K j))++[.ref (K M)]:=by rw [List.range_succ,List.map_append];rfl
  simp only [fIx,E.pa,z,ziv]
 obtain ⟨zs,hB,rB,B10,E10,ez⟩:=ygl (js:=[1,4,8]) (en:=eL sc (some (.ref (K M))) c8 o6 o7 L a9 (some (.int b)) c12 a12) (all:=xsA) (e:=yae yaS (yab (sVar 1) (yab (sOp2 fIx (sOp2 fIx (sVar 2) (sOp1 fNeg (sLit (.int 1)))) (sVar 0)) (yab (yaj 1 yaz (sVar 1) (yab (sVar 0) sNil)) (yab (sVar 3) sNil))))) (xs:=xsA) (h:=hA)
  (λj ys hh=>Bk85 M σ d d0 ps hh hh M/\Ls M K β ev L hh/\ys=List.replicate j (.bl true)) ⟨BA,EA,rfl⟩ (by
   rintro j u ys hh hu ⟨B,E,rfl⟩
   obtain ⟨hj,rfl⟩:=yfI hu
   obtain ⟨h',ft,ix,sm,F⟩:=ygV S M60 (Nat.le_refl M) B E hj
   have ls:=lst E
   have ob:=B.ho.ob
   have e:yae yaS (yab (sVar 1) (yab (sOp2 fIx (sOp2 fIx (sVar 2) (sOp1 fNeg (sLit (.int 1)))) (sVar 0)) (yab (yaj 1 yaz (sVar 1) (yab (sVar 0) sNil)) (yab (sVar 3) sNil)))) [some (.str (nm j)),some (.ref 0),some (.ref 14),some (.ref L)] hh = .ok (.bl true) h' := by
    clear rA r8 r7 r4 plen cut9 r9 lst
    generalize yaz=G1 at *
    generalize yaS=G2 at *
    generalize flB8 (β M j)=Z at *
    simp [ob,ls,ix,ft,sm,-fIx]
   show ygP (yae yaS (yab (sVar 1) (yab (sOp2 fIx (sOp2 fIx (sVar 2) (sOp1 fNeg (sLit (.int 1)))) (sVar 0)) (yab (yaj 1 yaz (sVar 1) (yab (sVar 0) sNil)) (yab (sVar 3) sNil)))) [some (.str (nm j)),some (.ref 0),some (.ref 14),some (.ref L)] hh) _
   rw [e]
   exact ⟨B.fs F (by lia),E.fr F,by rw [List.replicate_succ']⟩) (by decide)
 have al:fAll [.fl zs] hB = .ok (.bl true) hB:=by rw [ez];rfl
 unfold yfQ
 refine zgA (P:=λo=>∃ h',o = .ok (.bl true) h') rfl ?_
 obtain ⟨PP,ePP⟩:∃ PP:OutS->Prop,PP=λo=>∃ h',yen o = .ok (.bl true) h' := ⟨_,rfl⟩
 have toP:∀ o,PP o->∃ h',yen o = .ok (.bl true) h' := λo z=>by rw [ePP] at z;exact z
 have ofP:∀ h',PP (.rt (.bl true) h'):=λh' => by rw [ePP];exact ⟨h',rfl⟩
 clear ePP
 refine toP _ ?_
 refine seqP (e2:=[sc,some (.ref 0),none,none,none,none,none,none,none,none,none,none,none]) (h2:=h0) ?_ ?_
 ·have mk' := mk
  rw [esc] at mk' ⊢
  generalize yeI 1 4 ybY sNil=MK at *
  simp [mk']
 refine seqP (e2:=[sc,some (.ref 0),some (.ref 13),none,none,none,none,none,none,none,none,none,none]) (h2:=h1) ?_ ?_
 ·rw [eh1]
  simp [l0]
 refine seqP ((yb1 (t:=.nm 3) (b:=yc5) (yfH _ _)).trans r2) ?_
 refine seqP (e2:=[sc,some (.ref 0),some (.ref 13),c3,some (.ref 14),none,none,none,none,none,none,none,none]) (h2:=h2++[AO.lst [.ref 13]]) ?_ ?_
 ·simp [l2]
 refine seqP (e2:=[sc,some (.ref 0),some (.ref 13),c3,some (.ref 14),some (.ref 15),none,none,none,none,none,none,none]) (h2:=h3) ?_ ?_
 ·rw [eh3]
  simp [l2]
 refine seqP ((yb1 (t:=.tup [6,7]) (b:=ydB) (h1:=h3) (w:=none) (xs:=Sm.numbered 0 (cells.map AV.int)) ?_).trans r4) ?_
 ·have sl:min 20 ns.length+5<=sizeLine:=Nat.le_trans (m:=25) (by lia) (by decide)
  have ct:ybe (.fl (ns.map AV.int)) none (some 20) h3 = .ok (.fl ((ns.map AV.int).take 20)) h3:=yjm _ 20 h3
  have ad:fAdd (.fl ((ns.map AV.int).take 20)) (.fl [.int 0,.int 1,.int 2,.int 3,.int 4]) h3 = .ok (.fl (cells.map AV.int)) h3:=by
   have q:((ns.map AV.int).take 20).length+[AV.int 0,.int 1,.int 2,.int 3,.int 4].length<=sizeLine:=by rw [List.length_take,List.length_map];exact sl
   show (if ((ns.map AV.int).take 20).length+[AV.int 0,.int 1,.int 2,.int 3,.int 4].length<=sizeLine then Out.ok (AV.fl ((ns.map AV.int).take 20++[AV.int 0,.int 1,.int 2,.int 3,.int 4])) h3 else .bad)=_
   rw [if_pos q,ecl,List.map_append,List.map_take];rfl
  rw [esc]
  clear esc ecl
  generalize ns.map AV.int=NS at *
  generalize cells.map AV.int=CS at *
  generalize NS.take 20=NT at *
  simp [ct,ad,-ybe,-fAdd]
 refine seqP (e2:=eL sc (some (.ref (K M))) o3 o6 o7 L o9 none none none) (h2:=h5) ?_ ?_
 ·rw [esc]
  generalize ybg=G at *
  generalize ns.map AV.int=NS at *
  simp [st]
 refine seqP (e2:=eL sc (some (.ref (K M))) o3 o6 o7 L o9 (some (.int b)) none none) (h2:=h6) ?_ ?_
 ·have pl:=plen E5
  clear plen lst
  generalize ((M+1:Nat):Int)=M1 at *
  generalize yau=G at *
  simp [pl,tk,-fLen]
 refine seqP ((yb1 (t:=.nm 11) (b:=yc6) (zbq (n:=b) (h1:=h6) rfl (by lia))).trans r7) ?_
 refine seqP ((yb1 (t:=.nm 3) (b:=ydC) (yfH _ _)).trans r8) ?_
 refine seqP ((yb1 (t:=.nm 11) (b:=yc7) (zbq (n:=b) (h1:=h8) rfl (by lia))).trans r9) ?_
 refine seqP ((yb1 (t:=.tup [9,12]) (b:=ydD) (h1:=h9) (w:=none) (xs:=js.map λj=>AV.tup [flB8 (ev j).1,.int (ev j).2]) ?_).trans rA) ?_
 ·clear rA
  generalize (js.map λj=>AV.tup [flB8 (ev j).1,.int (ev j).2])=W at *
  simp [cut9,-ybe]
 refine retP (v:=.bl true) (h' := hB) ?_ (ofP hB)
 have cm:∀ {f:SE},f=yae yaS (yab (sVar 1) (yab (sOp2 fIx (sOp2 fIx (sVar 2) (sOp1 fNeg (sLit (.int 1)))) (sVar 0)) (yab (yaj 1 yaz (sVar 1) (yab (sVar 0) sNil)) (yab (sVar 3) sNil))))->ybd [1,4,8] (iVal (sLit (.str "abc"))) sYes f (eL sc (some (.ref (K M))) c8 o6 o7 L a9 (some (.int b)) c12 a12) hA = .ok (.fl zs) hB:=λ{f} ef=>by
  subst ef
  unfold ybd
  rw [yfH]
  dsimp only
  rw [rB]
 have cm' := cm rfl
 generalize ybd [1,4,8] (iVal (sLit (.str "abc"))) sYes _=SC at *
 simp [cm',al,-fAll]
def top (i:Nat):Stmt:=PySem.Challenge.pw_skeinwood_k85_whole_long_house.main.body.getD i (.Pass ⟨0,0,0,0⟩)
abbrev ydL:Stmt:=yaO (top 23) 0
abbrev ydM:Stmt:=yaO (top 47) 0
abbrev ydZ:Stmt:=top 53
abbrev ycX:Stmt:=top 54
abbrev yeo:Stmt:=top 55
abbrev ydX:Stmt:=top 19
abbrev ydN:Stmt:=top 48
abbrev ycH:Stmt:=yaO (top 47) 14
abbrev yep:Stmt:=yaO (top 47) 13
abbrev yeq:Stmt:=top 15
abbrev ycu:Stmt:=yaO (top 23) 11
abbrev yca:Stmt:=yaO (top 23) 12
abbrev ycm:Stmt:=yaO (top 23) 14
abbrev yd0:Stmt:=yaO (top 23) 17
abbrev ycI:Stmt:=yaO (top 23) 16
abbrev ydO:Stmt:=yaO (top 23) 2
abbrev yeP:Stmt:=top 36
abbrev ycY:Stmt:=top 17
abbrev ydx:Stmt:=top 16
abbrev yer:Stmt:=top 18
abbrev yeD:Stmt:=top 20
abbrev ycJ:Stmt:=yaO (top 23) 15
abbrev ydP:Stmt:=yaO (top 23) 1
abbrev yeN:Stmt:=top 26
abbrev ydQ:Stmt:=yaO (top 47) 4
abbrev ydy:Stmt:=top 57
abbrev yd1:Stmt:=top 56
abbrev ycn:Stmt:=yaO (top 23) 13
abbrev ydm:Stmt:=yaO (top 23) 5
abbrev yc8:Stmt:=top 28
abbrev ycv:Stmt:=yaO (top 23) 10
abbrev yco:Stmt:=yaO (top 23) 9
abbrev yd2:Stmt:=top 29
abbrev ydn:Stmt:=yaO (top 23) 4
abbrev yd3:Stmt:=top 34
abbrev yc9:Stmt:=yaO (top 23) 8
abbrev ydo:Stmt:=top 31
abbrev ycZ:Stmt:=top 35
abbrev yda:Stmt:=top 32
abbrev yeQ:Stmt:=top 30
abbrev yeR:Stmt:=top 33
abbrev yeS:Stmt:=top 25
abbrev yeE:Stmt:=top 37
abbrev yes:Stmt:=top 27
abbrev ydR:Stmt:=yaO (top 47) 3
abbrev ydb:Stmt:=yaO (top 47) 9
abbrev yc0:Stmt:=yaO (top 47) 6
abbrev yd4:Stmt:=top 39
abbrev yet:Stmt:=top 44
abbrev yeF:Stmt:=top 45
abbrev yeT:Stmt:=top 42
abbrev ycK:Stmt:=yaO (top 47) 7
abbrev yc1:Stmt:=top 40
abbrev yd5:Stmt:=top 43
abbrev ycw:Stmt:=yaO (top 47) 8
abbrev ydz:Stmt:=top 59
abbrev ydi:Stmt:=top 58
abbrev ydA:Stmt:=top 62
abbrev ydS:Stmt:=yaO (top 47) 11
abbrev ydp:Stmt:=yaO (top 47) 12
abbrev yc2:Stmt:=top 51
abbrev ydT:Stmt:=top 50
abbrev yd6:Stmt:=top 60
abbrev ydq:Stmt:=yaO (top 47) 1
abbrev yeu:Stmt:=top 61
abbrev yff:Stmt:=top 63
def flds:Nat->List Str
 | 0=>["pieces", "numbers", "sign_counts", "end_counts", "leaf_counts", "heights", "first_leaves", "last_leaves"]
 | 1=>["own_shelf", "texts", "deeds", "taken_back"]
 | _=>[]
theorem zkt:∀ c,(flds c).Nodup
 | 0=>by decide +kernel
 | 1=>by decide +kernel
 | _+2=>List.nodup_nil
theorem zje:∀ c,(flds c).length<=500
 | 0=>by decide +kernel
 | 1=>by decide +kernel
 | _+2=>Nat.zero_le _
abbrev mkT (K:PySem.W.Frag) (cls exc:Nat->Option Addr):Tb:=⟨K,cls,exc,flds,zkt,zje⟩
structure Facts (P:Program) (w:World) (K:PySem.W.Frag) (cls exc:Nat->Option Addr) (mg:Str->Option Value) (base:Heap):Prop where
 b_abs:mg "abs" = none
 b_all:mg "all" = none
 b_bool:mg "bool" = none
 b_dict:mg "dict" = none
 b_enumerate:mg "enumerate" = none
 b_int:mg "int" = none
 b_isinstance:mg "isinstance" = none
 b_len:mg "len" = none
 b_max:mg "max" = none
 b_min:mg "min" = none
 b_range:mg "range" = none
 b_str:mg "str" = none
 b_sum:mg "sum" = none
 c_LEAF_SIGNS:∃ t,mg "LEAF_SIGNS" = some (.int 8 t)
 c_NAME_SIGNS:∃ t,mg "NAME_SIGNS" = some (.int 8 t)
 c_MOST_PLAIN:∃ t,mg "MOST_PLAIN" = some (.int 10000 t)
 c_MOST_SIGNS:∃ t,mg "MOST_SIGNS" = some (.int 1000000000000000000 t)
 cf_Shelf:CF (mkT K cls exc) 0
 cf_House:CF (mkT K cls exc) 1
 d_Shelf_init:DI K cls mg 0 "Shelf" "Shelf.__init__" ydL ["self"]
 d_House_init:DI K cls mg 1 "House" "House.__init__" ydM ["self"]
 d_law_mixed:DG K mg "_law_mixed" ydZ ["cell", "k"]
 d_law_stream:DG K mg "_law_stream" ycX ["script", "k"]
 d_law_take:DG K mg "_law_take" yeo ["stream", "many"]
 d_is_name:DG K mg "is_name" ydX ["thing"]
 d_check_name:DG K mg "check_name" ydN ["name"]
 d_House_set_text:DMm K cls 1 "set_text" "House.set_text" ycH ["self", "name", "text"]
 d_House_do:DMm K cls 1 "do" "House.do" yep ["self", "name", "text"]
 d_is_whole:DG K mg "is_whole" yeq ["thing"]
 d_Shelf_has_piece:DMm K cls 0 "has_piece" "Shelf.has_piece" ycu ["self", "number"]
 d_Shelf_check_piece:DMm K cls 0 "check_piece" "Shelf.check_piece" yca ["self", "number"]
 d_Shelf_check_fork:DMm K cls 0 "check_fork" "Shelf.check_fork" ycm ["self", "one", "other"]
 d_Shelf_lay:DMm K cls 0 "lay" "Shelf.lay" yd0 ["self", "made"]
 d_Shelf_lay_fork:DMm K cls 0 "lay_fork" "Shelf.lay_fork" ycI ["self", "made"]
 d_Shelf_fork:DMm K cls 0 "fork" "Shelf.fork" ydO ["self", "one", "other"]
 d_halved:DG K mg "halved" yeP ["shelf", "leaves"]
 d_is_plain_sign:DG K mg "is_plain_sign" ycY ["sign"]
 d_is_plain:DG K mg "is_plain" ydx ["thing"]
 d_is_short:DG K mg "is_short" yer ["thing"]
 d_ends_in:DG K mg "ends_in" yeD ["plain"]
 d_Shelf_lay_leaf:DMm K cls 0 "lay_leaf" "Shelf.lay_leaf" ycJ ["self", "made"]
 d_Shelf_leaf:DMm K cls 0 "leaf" "Shelf.leaf" ydP ["self", "plain"]
 d_built:DG K mg "built" yeN ["shelf", "plain"]
 d_House_give:DMm K cls 1 "give" "House.give" ydQ ["self", "name", "plain"]
 d_law_long:DG K mg "_law_long" ydy ["blocks"]
 d_law_plain:DG K mg "_law_plain" yd1 ["stream", "most"]
 d_Shelf_check_text:DMm K cls 0 "check_text" "Shelf.check_text" ycn ["self", "text"]
 d_Shelf_signs:DMm K cls 0 "signs" "Shelf.signs" ydm ["self", "text"]
 d_check_length:DG K mg "check_length" yc8 ["signs"]
 d_Shelf_last_leaf:DMm K cls 0 "last_leaf" "Shelf.last_leaf" ycv ["self", "text"]
 d_Shelf_first_leaf:DMm K cls 0 "first_leaf" "Shelf.first_leaf" yco ["self", "text"]
 d_are_close:DG K mg "are_close" yd2 ["shelf", "one", "other"]
 d_Shelf_piece:DMm K cls 0 "piece" "Shelf.piece" ydn ["self", "number"]
 d_with_last:DG K mg "with_last" yd3 ["shelf", "text", "leaf"]
 d_Shelf_height:DMm K cls 0 "height" "Shelf.height" yc9 ["self", "text"]
 d_turned_left:DG K mg "turned_left" ydo ["shelf", "one", "other"]
 d_without_first:DG K mg "without_first" ycZ ["shelf", "text"]
 d_turned_right:DG K mg "turned_right" yda ["shelf", "one", "other"]
 d_linked:DG K mg "linked" yeQ ["shelf", "one", "other"]
 d_welded:DG K mg "welded" yeR ["shelf", "one", "other"]
 d_joined:DG K mg "joined" yeS ["shelf", "one", "other"]
 d_doubled:DG K mg "doubled" yeE ["shelf", "text", "many"]
 d_repeated:DG K mg "repeated" yes ["shelf", "text", "many"]
 d_House_text:DMm K cls 1 "text" "House.text" ydR ["self", "name"]
 d_House_repeat:DMm K cls 1 "repeat" "House.repeat" ydb ["self", "name", "many"]
 d_House_join_to:DMm K cls 1 "join_to" "House.join_to" yc0 ["self", "name", "other"]
 d_check_gap:DG K mg "check_gap" yd4 ["shelf", "text", "at"]
 d_front_of:DG K mg "front_of" yet ["shelf", "text", "at"]
 d_back_of:DG K mg "back_of" yeF ["shelf", "text", "at"]
 d_put_in:DG K mg "put_in" yeT ["shelf", "text", "at", "other"]
 d_House_put_into:DMm K cls 1 "put_into" "House.put_into" ycK ["self", "name", "at", "other"]
 d_check_stretch:DG K mg "check_stretch" yc1 ["shelf", "text", "begin", "end"]
 d_taken_out:DG K mg "taken_out" yd5 ["shelf", "text", "begin", "end"]
 d_House_take_from:DMm K cls 1 "take_from" "House.take_from" ycw ["self", "name", "begin", "end"]
 d_law_rest:DG K mg "_law_rest" ydz ["blocks", "at"]
 d_law_first:DG K mg "_law_first" ydi ["blocks", "at"]
 d_law_deed:DG K mg "_law_deed" ydA ["house", "stream", "known"]
 d_House_back:DMm K cls 1 "back" "House.back" ydS ["self"]
 d_House_again:DMm K cls 1 "again" "House.again" ydp ["self"]
 d_signs_between:DG K mg "signs_between" yc2 ["shelf", "text", "begin", "end"]
 d_stretch_of:DG K mg "stretch_of" ydT ["shelf", "text", "begin", "end"]
 d_law_signs:DG K mg "_law_signs" yd6 ["blocks", "begin", "end"]
 d_House_shelf:DMm K cls 1 "shelf" "House.shelf" ydq ["self"]
 d_law_same:DG K mg "_law_same" yeu ["house", "blocks", "number", "stream"]
 d_law:DG K mg "law" yff ["script"]
theorem zen:FnScope ["self"] ["self"] (yaf ydL):=fsk
theorem zeo:FnScope ["self"] ["self"] (yaf ydM):=fsk
theorem ze9:FnScope ["cell", "k", "one"] ["cell", "k"] (yaf ydZ):=fsk
theorem zep:FnScope ["script", "k", "cell", "j", "found"] ["script", "k"] (yaf ycX):=fsk
theorem zfw:FnScope ["stream", "many", "digit"] ["stream", "many"] (yaf yeo):=fsk
theorem zg8:FnScope ["thing"] ["thing"] (yaf ydX):=fsk
theorem zeq:FnScope ["name"] ["name"] (yaf ydN):=fsk
theorem zct:FnScope ["self", "name", "text"] ["self", "name", "text"] (yaf ycH):=fsk
theorem zfx:FnScope ["self", "name", "text"] ["self", "name", "text"] (yaf yep):=fsk
theorem zfy:FnScope ["thing"] ["thing"] (yaf yeq):=fsk
theorem zcb:FnScope ["self", "number"] ["self", "number"] (yaf ycu):=fsk
theorem zbX:FnScope ["self", "number"] ["self", "number"] (yaf yca):=fsk
theorem zb2:FnScope ["self", "one", "other", "seam"] ["self", "one", "other"] (yaf ycm):=fsk
theorem zfa:FnScope ["self", "made", "number"] ["self", "made"] (yaf yd0):=fsk
theorem zcu:FnScope ["self", "made", "one", "other"] ["self", "made"] (yaf ycI):=fsk
theorem zer:FnScope ["self", "one", "other", "made"] ["self", "one", "other"] (yaf ydO):=fsk
theorem zeh:FnScope ["shelf", "leaves", "middle"] ["shelf", "leaves"] (yaf yeP):=fsk
theorem zcX:FnScope ["sign"] ["sign"] (yaf ycY):=fsk
theorem zfz:FnScope ["thing"] ["thing"] (yaf ydx):=fsk
theorem zfA:FnScope ["thing"] ["thing"] (yaf yer):=fsk
theorem zg9:FnScope ["plain"] ["plain"] (yaf yeD):=fsk
theorem zcv:FnScope ["self", "made", "number", "plain"] ["self", "made"] (yaf ycJ):=fsk
theorem zes:FnScope ["self", "plain", "made"] ["self", "plain"] (yaf ydP):=fsk
theorem zjf:FnScope ["shelf", "plain", "leaves"] ["shelf", "plain"] (yaf yeN):=fsk
theorem zet:FnScope ["self", "name", "plain"] ["self", "name", "plain"] (yaf ydQ):=fsk
theorem zfB:FnScope ["blocks"] ["blocks"] (yaf ydy):=fsk
theorem zfb:FnScope ["stream", "most", "kinds", "found", "k"] ["stream", "most"] (yaf yd1):=fsk
theorem zb3:FnScope ["self", "text"] ["self", "text"] (yaf ycn):=fsk
theorem zdO:FnScope ["self", "text"] ["self", "text"] (yaf ydm):=fsk
theorem zdg:FnScope ["signs"] ["signs"] (yaf yc8):=fsk
theorem zcc:FnScope ["self", "text"] ["self", "text"] (yaf ycv):=fsk
theorem zb4:FnScope ["self", "text"] ["self", "text"] (yaf yco):=fsk
theorem zfc:FnScope ["shelf", "one", "other"] ["shelf", "one", "other"] (yaf yd2):=fsk
theorem zdP:FnScope ["self", "number"] ["self", "number"] (yaf ydn):=fsk
theorem zcd:FnScope ["shelf", "text", "leaf", "piece"] ["shelf", "text", "leaf"] (yaf yd3):=fsk
theorem zdh:FnScope ["self", "text"] ["self", "text"] (yaf yc9):=fsk
theorem zdQ:FnScope ["shelf", "one", "other", "piece", "near", "far", "inner"] ["shelf", "one", "other"] (yaf ydo):=fsk
theorem zbm:FnScope ["shelf", "text", "piece", "rest"] ["shelf", "text"] (yaf ycZ):=fsk
theorem zdi:FnScope ["shelf", "one", "other", "piece", "far", "near", "inner"] ["shelf", "one", "other"] (yaf yda):=fsk
theorem zei:FnScope ["shelf", "one", "other", "tilt", "piece"] ["shelf", "one", "other"] (yaf yeQ):=fsk
theorem zie:FnScope ["shelf", "one", "other", "seam", "front", "back"] ["shelf", "one", "other"] (yaf yeR):=fsk
theorem zif:FnScope ["shelf", "one", "other"] ["shelf", "one", "other"] (yaf yeS):=fsk
theorem zdj:FnScope ["shelf", "text", "many", "half", "twice"] ["shelf", "text", "many"] (yaf yeE):=fsk
theorem zfC:FnScope ["shelf", "text", "many", "signs"] ["shelf", "text", "many"] (yaf yes):=fsk
theorem zeu:FnScope ["self", "name"] ["self", "name"] (yaf ydR):=fsk
theorem zdk:FnScope ["self", "name", "many"] ["self", "name", "many"] (yaf ydb):=fsk
theorem zcY:FnScope ["self", "name", "other"] ["self", "name", "other"] (yaf yc0):=fsk
theorem zfd:FnScope ["shelf", "text", "at", "signs"] ["shelf", "text", "at"] (yaf yd4):=fsk
theorem zcE:FnScope ["shelf", "text", "at", "piece", "ahead"] ["shelf", "text", "at"] (yaf yet):=fsk
theorem zdl:FnScope ["shelf", "text", "at", "piece", "ahead"] ["shelf", "text", "at"] (yaf yeF):=fsk
theorem zig:FnScope ["shelf", "text", "at", "other", "together", "front"] ["shelf", "text", "at", "other"] (yaf yeT):=fsk
theorem zcw:FnScope ["self", "name", "at", "other"] ["self", "name", "at", "other"] (yaf ycK):=fsk
theorem zcZ:FnScope ["shelf", "text", "begin", "end", "signs"] ["shelf", "text", "begin", "end"] (yaf yc1):=fsk
theorem zfe:FnScope ["shelf", "text", "begin", "end"] ["shelf", "text", "begin", "end"] (yaf yd5):=fsk
theorem zce:FnScope ["self", "name", "begin", "end"] ["self", "name", "begin", "end"] (yaf ycw):=fsk
theorem zfD:FnScope ["blocks", "at", "found", "plain", "many", "full"] ["blocks", "at"] (yaf ydz):=fsk
theorem zff:FnScope ["blocks", "at", "found", "plain", "many", "full"] ["blocks", "at"] (yaf ydi):=fsk
theorem zfE:FnScope ["house", "stream", "known", "name", "other", "blocks", "signs", "begin", "end", "kind", "many", "plain"] ["house", "stream", "known"] (yaf ydA):=fsk
theorem zev:FnScope ["self", "deed"] ["self"] (yaf ydS):=fsk
theorem zdR:FnScope ["self", "deed"] ["self"] (yaf ydp):=fsk
theorem zc0:FnScope ["shelf", "text", "begin", "end", "found", "ahead", "step", "number", "start", "piece"] ["shelf", "text", "begin", "end"] (yaf yc2):=fsk
theorem zew:FnScope ["shelf", "text", "begin", "end"] ["shelf", "text", "begin", "end"] (yaf ydT):=fsk
theorem zfg:FnScope ["blocks", "begin", "end", "found", "plain", "many"] ["blocks", "begin", "end"] (yaf yd6):=fsk
theorem zdS:FnScope ["self"] ["self"] (yaf ydq):=fsk
theorem zfF:FnScope ["house", "blocks", "number", "stream", "signs", "place", "end"] ["house", "blocks", "number", "stream"] (yaf yeu):=fsk
theorem yio:FnScope ["script", "house", "known", "name", "past", "ever", "k", "cell", "stream", "blocks", "back", "turn", "number"] ["script"] (yaf yff):=fsk
section
variable {P:Program} {w:World} {K:PySem.W.Frag} {cls exc:Nat->Option Addr} {mg:Str->Option Value} {base:Heap} (Z:Facts P w K cls exc mg base)
include Z
theorem zfh:GK P w (mkT K cls exc) mg base 1 0 "Shelf" ydH:=gk Z.d_Shelf_init zen λhr C hu nd =>
 (zab (zaC rfl Z.cf_Shelf (yaa 0) (ybl yac))
  (zab (zaC rfl Z.cf_Shelf (yaa 0) zjT)
  (zab (zaC rfl Z.cf_Shelf (yaa 0) (ybl (zaa yad yac)))
  (zab (zaC rfl Z.cf_Shelf (yaa 0) (ybl (zaa yad yac)))
  (zab (zaC rfl Z.cf_Shelf (yaa 0) (ybl (zaa yad yac)))
  (zab (zaC rfl Z.cf_Shelf (yaa 0) (ybl (zaa (yfn yad) yac)))
  (zab (zaC rfl Z.cf_Shelf (yaa 0) (ybl (zaa yad yac)))
  (yag (zaC rfl Z.cf_Shelf (yaa 0) (ybl (zaa yad yac)))))))))))
theorem zfi:GK P w (mkT K cls exc) mg base 3 1 "House" ybY:=gk Z.d_House_init zeo λhr C hu nd =>
 (zab (zaC rfl Z.cf_House (yaa 0) (zf6 rfl C (zfh Z) hr.m rfl))
  (zab (zaC rfl Z.cf_House (yaa 0) zf2)
  (zab (zaC rfl Z.cf_House (yaa 0) (ybl yac))
  (yag (zaC rfl Z.cf_House (yaa 0) (ybl yac))))))
theorem zfG:GF P w (mkT K cls exc) mg base 1 "_law_mixed" ydf:=gf Z.d_law_mixed ze9 λhr C hu nd =>
 (zab (yan (i:=2) nd (yal ydr (yal yb3 (yal (yaM rfl) (yal (yaM rfl) (yal ydr (yaa 0) yad) (yal yb3 yad (yaa 1))) yad) yad) yad))
  (yag (yao (yal ydr (yal yb3 (yal ydr (yal yb3 (yaa 2) (yaa 2)) yad) yad) yad))))
theorem zcf:GF P w (mkT K cls exc) mg base 2 "_law_stream" ybg:=gf Z.d_law_stream zep λ{f cdv A outer s H E} hr C hu nd =>
 (zab (yan (i:=2) nd yad)
  (zab (ycr rfl (zd7 (E:=EN) rfl Z.b_range (yaa 1) (r_bi (b_len rfl) rfl Z.b_len PySem.boot_len (zaa (yaa 0) yac)) yad) (zaQ (i:=3) nd) (yag (yan (i:=2) nd (yal (yaM rfl) (yal yb3 (yaa 2) (yal yb3 (yal yde yad yad) (yal yde yad yad))) (yal ydr (r_ix rfl hu (yaa 0) (yaa 3)) (yal yb3 (yal yde yad yad) (yal yde yad yad)))))))
  (zab (r_if (yaq o_ge (yaa 2) (yal yde yad yad) (yap _)) (yag (yao (ybl (zaa (yaa 2) yac)))) yar)
  (zab (yan (i:=2) nd (yal (yaM rfl) (yaa 2) (r_bi (b_sum rfl) rfl Z.b_sum PyProof.Rows.boot_sum (zaa (yec (jf:=[]) (zaI (N:=["script", "k", "cell", "j", "found"]) (sc:=yaf ycX) rfl (λ_=>rfl) (by decide +kernel)) rfl (ycO (E:=(λ_=>E)) rfl (yaa 0)) (λ_ _ _ _ _=>zbf) (λ_ _ _ _ _=>(yal ydr (yaa 0) (yal yde yad yad)))) yac))))
  (zab (yan (i:=4) nd yad)
  (zab (ycr rfl (zbp (E:=EN) rfl Z.b_range yad) (zaQ (i:=3) nd) (yag (yan (i:=4) nd (yal (yaM rfl) (yal yb3 (yaa 4) yad) (yak rfl (C.nox) (zfG Z) hr.m rfl (zaa (yal (yaM rfl) (yal (yaM rfl) (yaa 2) (yal yb3 yad (yaa 1))) (r_bi (b_len rfl) rfl Z.b_len PySem.boot_len (zaa (yaa 0) yac))) (zaa (yaa 3) yac)))))))
  (yag (yao (ybl (zaa (yaa 4) yac))))))))))
theorem zas:GF P w (mkT K cls exc) mg base 1 "_law_take" yau:=gf Z.d_law_take zfw λhr C hu nd =>
 (zab (yan (i:=2) nd (yal ydr (r_ix rfl hu (yaa 0) yad) (yaa 1)))
  (zab (zbC hu (yaa 0) yad (yal ye0 (r_ix rfl hu (yaa 0) yad) (yaa 1)))
  (yag (yao (yaa 2)))))
theorem zej:GF P w (mkT K cls exc) mg base 1 "is_name" ycL:=gf Z.d_is_name zg8 λ{f cdv A outer s H E} hr C hu nd =>
 (zab (r_if (yb6 (zaE rfl (yfq rfl rfl Z.b_isinstance (yaa 0) rfl Z.b_str yf5 (by decide)))) (yag (yao r_bl)) yar)
  (yag (yao (yfo (zbA o_le o_le yad (r_bi (b_len rfl) rfl Z.b_len PySem.boot_len (zaa (yaa 0) yac)) (r_gI rfl Z.c_NAME_SIGNS)) (ye1 (r_bi (b_all rfl) rfl Z.b_all PyProof.Rows.boot_all (zaa (yec (jf:=[]) (zaI (N:=["thing"]) (sc:=yaf ydX) rfl (λ_=>rfl) (by decide +kernel)) rfl (ycO (E:=(λ_=>E)) rfl (yaa 0)) (λ_ _ _ _ _=>zbf) (λ_ _ _ _ _=>(zbA o_le o_le ya5 (yaa 0) ya5))) yac)))))))
theorem zfj:GF P w (mkT K cls exc) mg base 2 "check_name" ycQ:=gf Z.d_check_name zeq λhr C hu nd =>
 (yag (r_if (yb6 (zaE rfl (yak rfl C (zej Z) hr.m rfl (zaa (yaa 0) yac)))) ya6 yar))
theorem zaP:GM P w (mkT K cls exc) mg base 1 1 "set_text" ya8:=gm Z.d_House_set_text zct (show ("set_text" : Str)∉flds 1 by decide +kernel) λhr C hu nd =>
 (yag (r_if (yaq yiU (yaa 2) yiS (yap _)) ya6 (yag (zbC hu (yaA rfl Z.cf_House (yaa 0)) (yaa 1) (yaa 2)))))
theorem zaX:GM P w (mkT K cls exc) mg base 2 1 "do" ya2:=gm Z.d_House_do zfx (show ("do" : Str)∉flds 1 by decide +kernel) λhr C hu nd =>
 (zab (yas (r_bm rfl PySem.F.plainAttrs_list PySem.F.slot_list_append PySem.F.type_list_append (zak) zaj (yaA rfl Z.cf_House (yaa 0)) (zaa (ybM (zaa (yaa 1) (zaa (yhU hu (yaA rfl Z.cf_House (yaa 0)) (yaa 1)) (zaa (yaa 2) yac)))) yac)))
  (zab (yas (yfr rfl PySem.F.plainAttrs_list PySem.F.slot_list_clear PySem.F.type_list_clear (zj5) zaj (yaA rfl Z.cf_House (yaa 0))))
  (yag (yas (yai rfl C (zaP Z) hr.m (yaa 0) (zaa (yaa 1) (zaa (yaa 2) yac)))))))
theorem zha:GF P w (mkT K cls exc) mg base 1 "is_whole" yds:=gf Z.d_is_whole zfy λhr C hu nd =>
 (yag (yao (yfo (yfq rfl rfl Z.b_isinstance (yaa 0) rfl Z.b_int yf4 (by decide)) (ye1 (yiV (yfq rfl rfl Z.b_isinstance (yaa 0) rfl Z.b_bool zjI (by decide)))))))
theorem zcx:GM P w (mkT K cls exc) mg base 2 0 "has_piece" ybW:=gm Z.d_Shelf_has_piece zcb (show ("has_piece" : Str)∉flds 0 by decide +kernel) λhr C hu nd =>
 (yag (yao (yfo (yak rfl C (zha Z) hr.m rfl (zaa (yaa 1) yac)) (ye1 (zbA o_le o_le yad (yaa 1) (r_bi (b_len rfl) rfl Z.b_len PySem.boot_len (zaa (yaA rfl Z.cf_Shelf (yaa 0)) yac)))))))
theorem zaF:GM P w (mkT K cls exc) mg base 3 0 "check_piece" ya4:=gm Z.d_Shelf_check_piece zbX (show ("check_piece" : Str)∉flds 0 by decide +kernel) λhr C hu nd =>
 (yag (r_if (yb6 (zaE rfl (yai rfl C (zcx Z) hr.m (yaa 0) (zaa (yaa 1) yac)))) ya6 yar))
theorem zcg:GM P w (mkT K cls exc) mg base 4 0 "check_fork" ybm:=gm Z.d_Shelf_check_fork zb2 (show ("check_fork" : Str)∉flds 0 by decide +kernel) λhr C hu nd =>
 (zab (yas (yai rfl C (zaF Z) hr.m (yaa 0) (zaa (yaa 1) yac)))
  (zab (yas (yai rfl C (zaF Z) hr.m (yaa 0) (zaa (yaa 2) yac)))
  (zab (yan (i:=3) nd (yal (yaM rfl) (r_ix rfl hu (yaA rfl Z.cf_Shelf (yaa 0)) (r_ix rfl hu (yaA rfl Z.cf_Shelf (yaa 0)) (yaa 1))) (r_ix rfl hu (yaA rfl Z.cf_Shelf (yaa 0)) (r_ix rfl hu (yaA rfl Z.cf_Shelf (yaa 0)) (yaa 2)))))
  (zab (r_if (yaq o_le (yaa 3) (r_gI rfl Z.c_LEAF_SIGNS) (yap _)) ya6 yar)
  (zab (r_if (yaq o_gt (r_bi (b_abs) rfl Z.b_abs PyProof.Rows.boot_abs (zaa (yal ybA (r_ix rfl hu (yaA rfl Z.cf_Shelf (yaa 0)) (yaa 1)) (r_ix rfl hu (yaA rfl Z.cf_Shelf (yaa 0)) (yaa 2))) yac)) yad (yap _)) ya6 yar)
  (yag (r_if (yaq o_gt (yal (yaM rfl) (r_ix rfl hu (yaA rfl Z.cf_Shelf (yaa 0)) (yaa 1)) (r_ix rfl hu (yaA rfl Z.cf_Shelf (yaa 0)) (yaa 2))) (r_gI rfl Z.c_MOST_SIGNS) (yap _)) ya6 yar)))))))
theorem zcF:GM P w (mkT K cls exc) mg base 1 0 "lay" ycy:=gm Z.d_Shelf_lay zfa (show ("lay" : Str)∉flds 0 by decide +kernel) λhr C hu nd =>
 (zab (yas (r_bm rfl PySem.F.plainAttrs_list PySem.F.slot_list_append PySem.F.type_list_append (zak) zaj (yaA rfl Z.cf_Shelf (yaa 0)) (zaa (yaa 1) yac)))
  (zab (yan (i:=2) nd (r_bi (b_len rfl) rfl Z.b_len PySem.boot_len (zaa (yaA rfl Z.cf_Shelf (yaa 0)) yac)))
  (zab (zbC hu (yaA rfl Z.cf_Shelf (yaa 0)) (yaa 1) (yaa 2))
  (yag (yao (yaa 2))))))
theorem zc1:GM P w (mkT K cls exc) mg base 2 0 "lay_fork" ybG:=gm Z.d_Shelf_lay_fork zcu (show ("lay_fork" : Str)∉flds 0 by decide +kernel) λhr C hu nd =>
 (zab (yas (yai rfl C (zcF Z) hr.m (yaa 0) (zaa (yaa 1) yac)))
  (zab (yan (i:=2) nd (r_ix rfl hu (yaa 1) yad))
  (zab (yan (i:=3) nd (r_ix rfl hu (yaa 1) yad))
  (zab (yas (r_bm rfl PySem.F.plainAttrs_list PySem.F.slot_list_append PySem.F.type_list_append (zak) zaj (yaA rfl Z.cf_Shelf (yaa 0)) (zaa (yal (yaM rfl) (r_ix rfl hu (yaA rfl Z.cf_Shelf (yaa 0)) (yaa 2)) (r_ix rfl hu (yaA rfl Z.cf_Shelf (yaa 0)) (yaa 3))) yac)))
  (zab (yas (r_bm rfl PySem.F.plainAttrs_list PySem.F.slot_list_append PySem.F.type_list_append (zak) zaj (yaA rfl Z.cf_Shelf (yaa 0)) (zaa (yal (yaM rfl) (r_ix rfl hu (yaA rfl Z.cf_Shelf (yaa 0)) (yaa 2)) (r_ix rfl hu (yaA rfl Z.cf_Shelf (yaa 0)) (yaa 3))) yac)))
  (zab (yas (r_bm rfl PySem.F.plainAttrs_list PySem.F.slot_list_append PySem.F.type_list_append (zak) zaj (yaA rfl Z.cf_Shelf (yaa 0)) (zaa (yal (yaM rfl) (r_ix rfl hu (yaA rfl Z.cf_Shelf (yaa 0)) (yaa 2)) (r_ix rfl hu (yaA rfl Z.cf_Shelf (yaa 0)) (yaa 3))) yac)))
  (zab (yas (r_bm rfl PySem.F.plainAttrs_list PySem.F.slot_list_append PySem.F.type_list_append (zak) zaj (yaA rfl Z.cf_Shelf (yaa 0)) (zaa (yal (yaM rfl) (r_bi (yfB) rfl Z.b_max PyProof.Rows.boot_max (zaa (r_ix rfl hu (yaA rfl Z.cf_Shelf (yaa 0)) (yaa 2)) (zaa (r_ix rfl hu (yaA rfl Z.cf_Shelf (yaa 0)) (yaa 3)) yac))) yad) yac)))
  (zab (yas (r_bm rfl PySem.F.plainAttrs_list PySem.F.slot_list_append PySem.F.type_list_append (zak) zaj (yaA rfl Z.cf_Shelf (yaa 0)) (zaa (r_ix rfl hu (yaA rfl Z.cf_Shelf (yaa 0)) (yaa 2)) yac)))
  (yag (yas (r_bm rfl PySem.F.plainAttrs_list PySem.F.slot_list_append PySem.F.type_list_append (zak) zaj (yaA rfl Z.cf_Shelf (yaa 0)) (zaa (r_ix rfl hu (yaA rfl Z.cf_Shelf (yaa 0)) (yaa 3)) yac))))))))))))
theorem zam:GM P w (mkT K cls exc) mg base 5 0 "fork" yah:=gm Z.d_Shelf_fork zer (show ("fork" : Str)∉flds 0 by decide +kernel) λhr C hu nd =>
 (zab (yas (yai rfl C (zcg Z) hr.m (yaa 0) (zaa (yaa 1) (zaa (yaa 2) yac))))
  (zab (yan (i:=3) nd (ybM (zaa ya5 (zaa (yaa 1) (zaa (yaa 2) yac)))))
  (zab (r_if (yaq (zdA rfl hu) (yaa 3) (yaA rfl Z.cf_Shelf (yaa 0)) rfl) (yag (yas (yai rfl C (zc1 Z) hr.m (yaa 0) (zaa (yaa 3) yac)))) yar)
  (yag (yao (r_ix rfl hu (yaA rfl Z.cf_Shelf (yaa 0)) (yaa 3)))))))
theorem zc2:∀ d,GF P w (mkT K cls exc) mg base (5+d+1) "halved" (ybH d)
 | 0=>gf Z.d_halved zeh λ_ _ _ _=>ya6
 | d+1=>gf Z.d_halved zeh λhr C hu nd =>
  (zab (r_if (yaq (o_eq rfl hu) (r_bi (b_len rfl) rfl Z.b_len PySem.boot_len (zaa (yaa 1) yac)) yad (yap _)) (yag (yao (r_ix rfl hu (yaa 1) yad))) yar)
  (zab (yan (i:=2) nd (yal ye0 (r_bi (b_len rfl) rfl Z.b_len PySem.boot_len (zaa (yaa 1) yac)) yad))
  (yag (yao (yai rfl C (zam Z) (hr.mono (show 5<=5+(d+1) by lia)) (yaa 0) (zaa (yak rfl C (zc2 d) (hr.mono (by lia)) rfl (zaa (yaa 0) (zaa (zaM rfl (yaa 1) zaR (zaG (yaa 2))) yac))) (zaa (yak rfl C (zc2 d) (hr.mono (by lia)) rfl (zaa (yaa 0) (zaa (zaM rfl (yaa 1) (zaG (yaa 2)) zaR) yac))) yac)))))))
theorem zdm:GF P w (mkT K cls exc) mg base 1 "is_plain_sign" ybR:=gf Z.d_is_plain_sign zcX λhr C hu nd =>
 (yag (yao (r_or (yfN (o_eq rfl hu) (yaa 0) ya5 (yap _)) (ye1 (zbA o_le o_le ya5 (yaa 0) ya5)))))
theorem zdn:GF P w (mkT K cls exc) mg base 2 "is_plain" ycR:=gf Z.d_is_plain zfz λ{f cdv A outer s H E} hr C hu nd =>
 (zab (r_if (yb6 (zaE rfl (yfq rfl rfl Z.b_isinstance (yaa 0) rfl Z.b_str yf5 (by decide)))) (yag (yao r_bl)) yar)
  (yag (yao (r_bi (b_all rfl) rfl Z.b_all PyProof.Rows.boot_all (zaa (yec (jf:=[]) (zaI (N:=["thing"]) (sc:=yaf ydx) rfl (λ_=>rfl) (by decide +kernel)) rfl (ycO (E:=(λ_=>E)) rfl (yaa 0)) (λ_ _ _ _ _=>zbf) (λ_ _ _ _ _=>(yak rfl (CA.never rfl) (zdm Z) hr.m rfl (zaa (yaa 0) yac)))) yac)))))
theorem zhb:GF P w (mkT K cls exc) mg base 3 "is_short" ydt:=gf Z.d_is_short zfA λhr C hu nd =>
 (yag (yao (yfo (yak rfl C (zdn Z) hr.m rfl (zaa (yaa 0) yac)) (ye1 (zbA o_le o_le yad (r_bi (b_len rfl) rfl Z.b_len PySem.boot_len (zaa (yaa 0) yac)) (r_gI rfl Z.c_LEAF_SIGNS))))))
theorem zih:GF P w (mkT K cls exc) mg base 1 "ends_in" ydU:=gf Z.d_ends_in zg9 λhr C hu nd =>
 (yag (yao (r_bm rfl PySem.F.plainAttrs_str PySem.F.slot_str_count PySem.F.type_str_count (ziT) zf7 (yaa 0) (zaa ya5 yac))))
theorem zc3:GM P w (mkT K cls exc) mg base 2 0 "lay_leaf" ybI:=gm Z.d_Shelf_lay_leaf zcv (show ("lay_leaf" : Str)∉flds 0 by decide +kernel) λhr C hu nd =>
 (zab (yan (i:=2) nd (yai rfl C (zcF Z) hr.m (yaa 0) (zaa (yaa 1) yac)))
  (zab (yan (i:=3) nd (r_ix rfl hu (yaa 1) yad))
  (zab (yas (r_bm rfl PySem.F.plainAttrs_list PySem.F.slot_list_append PySem.F.type_list_append (zak) zaj (yaA rfl Z.cf_Shelf (yaa 0)) (zaa (r_bi (b_len rfl) rfl Z.b_len PySem.boot_len (zaa (yaa 3) yac)) yac)))
  (zab (yas (r_bm rfl PySem.F.plainAttrs_list PySem.F.slot_list_append PySem.F.type_list_append (zak) zaj (yaA rfl Z.cf_Shelf (yaa 0)) (zaa (yak rfl C (zih Z) hr.m rfl (zaa (yaa 3) yac)) yac)))
  (zab (yas (r_bm rfl PySem.F.plainAttrs_list PySem.F.slot_list_append PySem.F.type_list_append (zak) zaj (yaA rfl Z.cf_Shelf (yaa 0)) (zaa yad yac)))
  (zab (yas (r_bm rfl PySem.F.plainAttrs_list PySem.F.slot_list_append PySem.F.type_list_append (zak) zaj (yaA rfl Z.cf_Shelf (yaa 0)) (zaa yad yac)))
  (zab (yas (r_bm rfl PySem.F.plainAttrs_list PySem.F.slot_list_append PySem.F.type_list_append (zak) zaj (yaA rfl Z.cf_Shelf (yaa 0)) (zaa (yaa 2) yac)))
  (yag (yas (r_bm rfl PySem.F.plainAttrs_list PySem.F.slot_list_append PySem.F.type_list_append (zak) zaj (yaA rfl Z.cf_Shelf (yaa 0)) (zaa (yaa 2) yac)))))))))))
theorem zaY:GM P w (mkT K cls exc) mg base 4 0 "leaf" yaH:=gm Z.d_Shelf_leaf zes (show ("leaf" : Str)∉flds 0 by decide +kernel) λhr C hu nd =>
 (zab (r_if (yb6 (zaE rfl (yak rfl C (zhb Z) hr.m rfl (zaa (yaa 1) yac)))) ya6 yar)
  (zab (yan (i:=2) nd (ybM (zaa ya5 (zaa (yaa 1) yac))))
  (zab (r_if (yaq (zdA rfl hu) (yaa 2) (yaA rfl Z.cf_Shelf (yaa 0)) rfl) (yag (yas (yai rfl C (zc3 Z) hr.m (yaa 0) (zaa (yaa 2) yac)))) yar)
  (yag (yao (r_ix rfl hu (yaA rfl Z.cf_Shelf (yaa 0)) (yaa 2)))))))
theorem zku:GF P w (mkT K cls exc) mg base 27 "built" yc4:=gf Z.d_built zjf λ{f cdv A outer s H E} hr C hu nd =>
 (zab (r_if (yb6 (zaE rfl (yak rfl C (zdn Z) hr.m rfl (zaa (yaa 1) yac)))) ya6 yar)
  (zab (r_if (yaq o_gt (r_bi (b_len rfl) rfl Z.b_len PySem.boot_len (zaa (yaa 1) yac)) (r_gI rfl Z.c_MOST_PLAIN) (yap _)) ya6 yar)
  (zab (r_if (yaq (o_eq rfl hu) (yaa 1) ya5 (yap _)) (yag (yao yad)) yar)
  (zab (zjZ (jf:=[(0, "shelf"),(1, "plain")]) (zaI (N:=["shelf", "plain", "leaves"]) (sc:=yaf yeN) rfl (λ_=>rfl) (by decide +kernel)) rfl (zd7 (E:=(λ_=>E)) rfl Z.b_range yad (r_bi (b_len rfl) rfl Z.b_len PySem.boot_len (zaa (yaa 1) yac)) (r_gI rfl Z.c_LEAF_SIGNS)) (λ_ _ _ _ _=>zbf) (λ_ _ _ _ _=>(yai rfl (CA.never rfl) (zaY Z) hr.m (yaa 1) (zaa (zaM rfl (yaa 2) (zaG (yaa 0)) (zaG (yal (yaM rfl) (yaa 0) (r_gI rfl Z.c_LEAF_SIGNS)))) yac))) nd (i:=2))
  (yag (yao (yak rfl C (zc2 Z 20) hr.m rfl (zaa (yaa 0) (zaa (yaa 2) yac)))))))))
theorem zch:GM P w (mkT K cls exc) mg base 28 1 "give" ybh:=gm Z.d_House_give zet (show ("give" : Str)∉flds 1 by decide +kernel) λhr C hu nd =>
 (zab (yas (yak rfl C (zfj Z) hr.m rfl (zaa (yaa 1) yac)))
  (yag (yas (yai rfl C (zaX Z) hr.m (yaa 0) (zaa (yaa 1) (zaa (yak rfl C (zku Z) hr.m rfl (zaa (yaA rfl Z.cf_House (yaa 0)) (zaa (yaa 2) yac))) yac))))))
theorem zba:GF P w (mkT K cls exc) mg base 1 "_law_long" ya7:=gf Z.d_law_long zfB λ{f cdv A outer s H E} hr C hu nd =>
 (yag (yao (r_bi (b_sum rfl) rfl Z.b_sum PyProof.Rows.boot_sum (zaa (zgb rfl (jf:=[]) (zaI (N:=["blocks"]) (sc:=yaf ydy) rfl (λ_=>rfl) (by decide +kernel)) rfl (zbe (E:=(λ_=>E)) rfl (yaa 0)) (λ_ _ _ _ _=>zbf) (λ_ _ _ _ _=>(yal yb3 (r_bi (b_len rfl) rfl Z.b_len PySem.boot_len (zaa (yaa 0) yac)) (yaa 1)))) yac))))
theorem zfH:GF P w (mkT K cls exc) mg base 2 "_law_plain" yb8:=gf Z.d_law_plain zfb λhr C hu nd =>
 (zab (yan (i:=2) nd (r_ix rfl hu (ycN (zaa ya5 (zaa ya5 (zaa ya5 (zaa ya5 (zaa ya5 yac)))))) (yak rfl C (zas Z) hr.m rfl (zaa (yaa 0) (zaa yad yac)))))
  (zab (yan (i:=3) nd ya5)
  (zab (ycr rfl (zbp (E:=EN) rfl Z.b_range (yak rfl (C.nox) (zas Z) hr.m rfl (zaa (yaa 0) (zaa (yal (yaM rfl) (yaa 1) yad) yac)))) (zaQ (i:=4) nd) (yag (yan (i:=3) nd (yal (yaM rfl) (yaa 3) (r_ix rfl hu (yaa 2) (yak rfl (C.nox) (zas Z) hr.m rfl (zaa (yaa 0) (zaa (r_bi (b_len rfl) rfl Z.b_len PySem.boot_len (zaa (yaa 2) yac)) yac))))))))
  (yag (yao (yaa 3))))))
theorem zaJ:GM P w (mkT K cls exc) mg base 4 0 "check_text" ya0:=gm Z.d_Shelf_check_text zb3 (show ("check_text" : Str)∉flds 0 by decide +kernel) λhr C hu nd =>
 (yag (r_if (yaq (o_ne rfl hu) (yaa 1) yad (yap _)) (yag (yas (yai rfl C (zaF Z) hr.m (yaa 0) (zaa (yaa 1) yac)))) yar))
theorem zag:GM P w (mkT K cls exc) mg base 5 0 "signs" yay:=gm Z.d_Shelf_signs zdO (show ("signs" : Str)∉flds 0 by decide +kernel) λhr C hu nd =>
 (zab (yas (yai rfl C (zaJ Z) hr.m (yaa 0) (zaa (yaa 1) yac)))
  (yag (yao (r_ix rfl hu (yaA rfl Z.cf_Shelf (yaa 0)) (yaa 1)))))
theorem za1:GF P w (mkT K cls exc) mg base 1 "check_length" ybE:=gf Z.d_check_length zdg λhr C hu nd =>
 (yag (r_if (yaq o_gt (yaa 0) (r_gI rfl Z.c_MOST_SIGNS) (yap _)) ya6 yar))
theorem za8:GM P w (mkT K cls exc) mg base 5 0 "last_leaf" ybw:=gm Z.d_Shelf_last_leaf zcc (show ("last_leaf" : Str)∉flds 0 by decide +kernel) λhr C hu nd =>
 (zab (yas (yai rfl C (zaJ Z) hr.m (yaa 0) (zaa (yaa 1) yac)))
  (yag (yao (r_ix rfl hu (yaA rfl Z.cf_Shelf (yaa 0)) (yaa 1)))))
theorem za7:GM P w (mkT K cls exc) mg base 5 0 "first_leaf" ybn:=gm Z.d_Shelf_first_leaf zb4 (show ("first_leaf" : Str)∉flds 0 by decide +kernel) λhr C hu nd =>
 (zab (yas (yai rfl C (zaJ Z) hr.m (yaa 0) (zaa (yaa 1) yac)))
  (yag (yao (r_ix rfl hu (yaA rfl Z.cf_Shelf (yaa 0)) (yaa 1)))))
theorem zfI:GF P w (mkT K cls exc) mg base 6 "are_close" ydg:=gf Z.d_are_close zfc λhr C hu nd =>
 (yag (yao (yfN o_gt (yal (yaM rfl) (yai rfl C (zag Z) hr.m (yaa 0) (zaa (yai rfl C (za8 Z) hr.m (yaa 0) (zaa (yaa 1) yac)) yac)) (yai rfl C (zag Z) hr.m (yaa 0) (zaa (yai rfl C (za7 Z) hr.m (yaa 0) (zaa (yaa 2) yac)) yac))) (r_gI rfl Z.c_LEAF_SIGNS) (yap _))))
theorem zan:GM P w (mkT K cls exc) mg base 4 0 "piece" yaD:=gm Z.d_Shelf_piece zdP (show ("piece" : Str)∉flds 0 by decide +kernel) λhr C hu nd =>
 (zab (yas (yai rfl C (zaF Z) hr.m (yaa 0) (zaa (yaa 1) yac)))
  (yag (yao (r_ix rfl hu (yaA rfl Z.cf_Shelf (yaa 0)) (yal ybA (yaa 1) yad)))))
theorem zcG:∀ d,GF P w (mkT K cls exc) mg base (5+d+1) "with_last" (yba d)
 | 0=>gf Z.d_with_last zcd λ_ _ _ _=>ya6
 | d+1=>gf Z.d_with_last zcd λhr C hu nd =>
  (zab (yan (i:=3) nd (yai rfl C (zan Z) (hr.mono (show 4<=5+(d+1) by lia)) (yaa 0) (zaa (yaa 1) yac)))
  (zab (r_if (yaq (o_eq rfl hu) (r_ix rfl hu (yaa 3) yad) ya5 (yap _)) (yag (yao (yaa 2))) yar)
  (yag (yao (yai rfl C (zam Z) (hr.mono (show 5<=5+(d+1) by lia)) (yaa 0) (zaa (r_ix rfl hu (yaa 3) yad) (zaa (yak rfl C (zcG d) (hr.mono (by lia)) rfl (zaa (yaa 0) (zaa (r_ix rfl hu (yaa 3) yad) (zaa (yaa 2) yac)))) yac)))))))
theorem zaq:GM P w (mkT K cls exc) mg base 5 0 "height" yaP:=gm Z.d_Shelf_height zdh (show ("height" : Str)∉flds 0 by decide +kernel) λhr C hu nd =>
 (zab (yas (yai rfl C (zaJ Z) hr.m (yaa 0) (zaa (yaa 1) yac)))
  (yag (yao (r_ix rfl hu (yaA rfl Z.cf_Shelf (yaa 0)) (yaa 1)))))
theorem zb0:GF P w (mkT K cls exc) mg base 6 "turned_left" yaQ:=gf Z.d_turned_left zdQ λhr C hu nd =>
 (zab (r_if (yaq o_lt (yal ybA (yai rfl C (zaq Z) hr.m (yaa 0) (zaa (yaa 2) yac)) (yai rfl C (zaq Z) hr.m (yaa 0) (zaa (yaa 1) yac))) yad (yap _)) (yag (yao (yai rfl C (zam Z) hr.m (yaa 0) (zaa (yaa 1) (zaa (yaa 2) yac))))) yar)
  (zab (yan (i:=3) nd (yai rfl C (zan Z) hr.m (yaa 0) (zaa (yaa 2) yac)))
  (zab (yan (i:=4) nd (r_ix rfl hu (yaa 3) yad))
  (zab (yan (i:=5) nd (r_ix rfl hu (yaa 3) yad))
  (zab (r_if (yaq o_le (yai rfl C (zaq Z) hr.m (yaa 0) (zaa (yaa 4) yac)) (yai rfl C (zaq Z) hr.m (yaa 0) (zaa (yaa 5) yac)) (yap _)) (yag (yao (yai rfl C (zam Z) hr.m (yaa 0) (zaa (yai rfl C (zam Z) hr.m (yaa 0) (zaa (yaa 1) (zaa (yaa 4) yac))) (zaa (yaa 5) yac))))) yar)
  (zab (yan (i:=6) nd (yai rfl C (zan Z) hr.m (yaa 0) (zaa (yaa 4) yac)))
  (yag (yao (yai rfl C (zam Z) hr.m (yaa 0) (zaa (yai rfl C (zam Z) hr.m (yaa 0) (zaa (yaa 1) (zaa (r_ix rfl hu (yaa 6) yad) yac))) (zaa (yai rfl C (zam Z) hr.m (yaa 0) (zaa (r_ix rfl hu (yaa 6) yad) (zaa (yaa 5) yac))) yac)))))))))))
theorem zbt:∀ d,GF P w (mkT K cls exc) mg base (6+d+1) "without_first" (yaG d)
 | 0=>gf Z.d_without_first zbm λ_ _ _ _=>ya6
 | d+1=>gf Z.d_without_first zbm λhr C hu nd =>
  (zab (yan (i:=2) nd (yai rfl C (zan Z) (hr.mono (show 4<=6+(d+1) by lia)) (yaa 0) (zaa (yaa 1) yac)))
  (zab (r_if (yaq (o_eq rfl hu) (r_ix rfl hu (yaa 2) yad) ya5 (yap _)) (yag (yao yad)) yar)
  (zab (yan (i:=3) nd (yak rfl C (zbt d) (hr.mono (by lia)) rfl (zaa (yaa 0) (zaa (r_ix rfl hu (yaa 2) yad) yac))))
  (zab (r_if (yaq (o_eq rfl hu) (yaa 3) yad (yap _)) (yag (yao (r_ix rfl hu (yaa 2) yad))) yar)
  (yag (yao (yak rfl C (zb0 Z) (hr.mono (show 6<=6+(d+1) by lia)) rfl (zaa (yaa 0) (zaa (yaa 3) (zaa (r_ix rfl hu (yaa 2) yad) yac))))))))))
theorem zdT:GF P w (mkT K cls exc) mg base 6 "turned_right" yaY:=gf Z.d_turned_right zdi λhr C hu nd =>
 (zab (r_if (yaq o_lt (yal ybA (yai rfl C (zaq Z) hr.m (yaa 0) (zaa (yaa 1) yac)) (yai rfl C (zaq Z) hr.m (yaa 0) (zaa (yaa 2) yac))) yad (yap _)) (yag (yao (yai rfl C (zam Z) hr.m (yaa 0) (zaa (yaa 1) (zaa (yaa 2) yac))))) yar)
  (zab (yan (i:=3) nd (yai rfl C (zan Z) hr.m (yaa 0) (zaa (yaa 1) yac)))
  (zab (yan (i:=4) nd (r_ix rfl hu (yaa 3) yad))
  (zab (yan (i:=5) nd (r_ix rfl hu (yaa 3) yad))
  (zab (r_if (yaq o_le (yai rfl C (zaq Z) hr.m (yaa 0) (zaa (yaa 5) yac)) (yai rfl C (zaq Z) hr.m (yaa 0) (zaa (yaa 4) yac)) (yap _)) (yag (yao (yai rfl C (zam Z) hr.m (yaa 0) (zaa (yaa 4) (zaa (yai rfl C (zam Z) hr.m (yaa 0) (zaa (yaa 5) (zaa (yaa 2) yac))) yac))))) yar)
  (zab (yan (i:=6) nd (yai rfl C (zan Z) hr.m (yaa 0) (zaa (yaa 5) yac)))
  (yag (yao (yai rfl C (zam Z) hr.m (yaa 0) (zaa (yai rfl C (zam Z) hr.m (yaa 0) (zaa (yaa 4) (zaa (r_ix rfl hu (yaa 6) yad) yac))) (zaa (yai rfl C (zam Z) hr.m (yaa 0) (zaa (r_ix rfl hu (yaa 6) yad) (zaa (yaa 2) yac))) yac)))))))))))
theorem zbY:∀ d,GF P w (mkT K cls exc) mg base (6+d+1) "linked" (ya9 d)
 | 0=>gf Z.d_linked zei λ_ _ _ _=>ya6
 | d+1=>gf Z.d_linked zei λhr C hu nd =>
  (zab (yan (i:=3) nd (yal ybA (yai rfl C (zaq Z) (hr.mono (show 5<=6+(d+1) by lia)) (yaa 0) (zaa (yaa 1) yac)) (yai rfl C (zaq Z) (hr.mono (show 5<=6+(d+1) by lia)) (yaa 0) (zaa (yaa 2) yac))))
  (zab (r_if (yaq o_gt (yaa 3) yad (yap _)) (zab (yan (i:=4) nd (yai rfl C (zan Z) (hr.mono (show 4<=6+(d+1) by lia)) (yaa 0) (zaa (yaa 1) yac)))
  (yag (yao (yak rfl C (zb0 Z) (hr.mono (show 6<=6+(d+1) by lia)) rfl (zaa (yaa 0) (zaa (r_ix rfl hu (yaa 4) yad) (zaa (yak rfl C (zbY d) (hr.mono (by lia)) rfl (zaa (yaa 0) (zaa (r_ix rfl hu (yaa 4) yad) (zaa (yaa 2) yac)))) yac))))))) yar)
  (zab (r_if (yaq o_lt (yaa 3) (yfn yad) (yap _)) (zab (yan (i:=4) nd (yai rfl C (zan Z) (hr.mono (show 4<=6+(d+1) by lia)) (yaa 0) (zaa (yaa 2) yac)))
  (yag (yao (yak rfl C (zdT Z) (hr.mono (show 6<=6+(d+1) by lia)) rfl (zaa (yaa 0) (zaa (yak rfl C (zbY d) (hr.mono (by lia)) rfl (zaa (yaa 0) (zaa (yaa 1) (zaa (r_ix rfl hu (yaa 4) yad) yac)))) (zaa (r_ix rfl hu (yaa 4) yad) yac))))))) yar)
  (yag (yao (yai rfl C (zam Z) (hr.mono (show 5<=6+(d+1) by lia)) (yaa 0) (zaa (yaa 1) (zaa (yaa 2) yac))))))))
theorem zjg:GF P w (mkT K cls exc) mg base 98 "welded" ycG:=gf Z.d_welded zie λhr C hu nd =>
 (zab (yan (i:=3) nd (yal (yaM rfl) (r_ix rfl hu (yai rfl C (zan Z) hr.m (yaa 0) (zaa (yai rfl C (za8 Z) hr.m (yaa 0) (zaa (yaa 1) yac)) yac)) yad) (r_ix rfl hu (yai rfl C (zan Z) hr.m (yaa 0) (zaa (yai rfl C (za7 Z) hr.m (yaa 0) (zaa (yaa 2) yac)) yac)) yad)))
  (zab (yan (i:=4) nd (yak rfl C (zcG Z 90) hr.m rfl (zaa (yaa 0) (zaa (yaa 1) (zaa (yai rfl C (zaY Z) hr.m (yaa 0) (zaa (yaa 3) yac)) yac)))))
  (zab (yan (i:=5) nd (yak rfl C (zbt Z 90) hr.m rfl (zaa (yaa 0) (zaa (yaa 2) yac))))
  (zab (r_if (yaq (o_eq rfl hu) (yaa 5) yad (yap _)) (yag (yao (yaa 4))) yar)
  (yag (yao (yak rfl C (zbY Z 90) hr.m rfl (zaa (yaa 0) (zaa (yaa 4) (zaa (yaa 5) yac))))))))))
theorem zaN:GF P w (mkT K cls exc) mg base 99 "joined" yaB:=gf Z.d_joined zif λhr C hu nd =>
 (zab (yas (yak rfl C (za1 Z) hr.m rfl (zaa (yal (yaM rfl) (yai rfl C (zag Z) hr.m (yaa 0) (zaa (yaa 1) yac)) (yai rfl C (zag Z) hr.m (yaa 0) (zaa (yaa 2) yac))) yac)))
  (zab (r_if (yaq (o_eq rfl hu) (yaa 1) yad (yap _)) (yag (yao (yaa 2))) yar)
  (zab (r_if (yaq (o_eq rfl hu) (yaa 2) yad (yap _)) (yag (yao (yaa 1))) yar)
  (zab (r_if (zaE rfl (yak rfl C (zfI Z) hr.m rfl (zaa (yaa 0) (zaa (yaa 1) (zaa (yaa 2) yac))))) (yag (yao (yak rfl C (zbY Z 90) hr.m rfl (zaa (yaa 0) (zaa (yaa 1) (zaa (yaa 2) yac)))))) yar)
  (yag (yao (yak rfl C (zjg Z) hr.m rfl (zaa (yaa 0) (zaa (yaa 1) (zaa (yaa 2) yac))))))))))
theorem zek:∀ d,GF P w (mkT K cls exc) mg base (99+d+1) "doubled" (ya1 d)
 | 0=>gf Z.d_doubled zdj λ_ _ _ _=>ya6
 | d+1=>gf Z.d_doubled zdj λhr C hu nd =>
  (zab (r_if (yaq (o_eq rfl hu) (yaa 2) yad (yap _)) (yag (yao yad)) yar)
  (zab (yan (i:=3) nd (yak rfl C (zek d) (hr.mono (by lia)) rfl (zaa (yaa 0) (zaa (yaa 1) (zaa (yal ye0 (yaa 2) yad) yac)))))
  (zab (yan (i:=4) nd (yak rfl C (zaN Z) (hr.mono (show 99<=99+(d+1) by lia)) rfl (zaa (yaa 0) (zaa (yaa 3) (zaa (yaa 3) yac)))))
  (zab (r_if (yaq (o_eq rfl hu) (yal ydr (yaa 2) yad) yad (yap _)) (yag (yao (yaa 4))) yar)
  (yag (yao (yak rfl C (zaN Z) (hr.mono (show 99<=99+(d+1) by lia)) rfl (zaa (yaa 0) (zaa (yaa 4) (zaa (yaa 1) yac))))))))))
theorem zhc:GF P w (mkT K cls exc) mg base 165 "repeated" yb4:=gf Z.d_repeated zfC λhr C hu nd =>
 (zab (yan (i:=3) nd (yai rfl C (zag Z) hr.m (yaa 0) (zaa (yaa 1) yac)))
  (zab (r_if (yaq o_lt (yaa 2) yad (yap _)) ya6 yar)
  (zab (yas (yak rfl C (za1 Z) hr.m rfl (zaa (yal yb3 (yaa 3) (yaa 2)) yac)))
  (zab (r_if (yaq (o_eq rfl hu) (yaa 1) yad (yap _)) (yag (yao yad)) yar)
  (yag (yao (yak rfl C (zek Z 64) hr.m rfl (zaa (yaa 0) (zaa (yaa 1) (zaa (yaa 2) yac))))))))))
theorem zav:GM P w (mkT K cls exc) mg base 2 1 "text" yaz:=gm Z.d_House_text zeu (show ("text" : Str)∉flds 1 by decide +kernel) λhr C hu nd =>
 (zab (r_if (rt_w (ygJ (yb6 (zaE rfl (yak rfl C (zej Z) hr.m rfl (zaa (yaa 1) yac)))) (yge (yaq (zdA rfl hu) (yaa 1) (yaA rfl Z.cf_House (yaa 0)) rfl)))) ya6 yar)
  (yag (yao (r_ix rfl hu (yaA rfl Z.cf_House (yaa 0)) (yaa 1)))))
theorem zdU:GM P w (mkT K cls exc) mg base 166 1 "repeat" ybZ:=gm Z.d_House_repeat zdk (show ("repeat" : Str)∉flds 1 by decide +kernel) λhr C hu nd =>
 (yag (yas (yai rfl C (zaX Z) hr.m (yaa 0) (zaa (yaa 1) (zaa (yak rfl C (zhc Z) hr.m rfl (zaa (yaA rfl Z.cf_House (yaa 0)) (zaa (yai rfl C (zav Z) hr.m (yaa 0) (zaa (yaa 1) yac)) (zaa (yaa 2) yac)))) yac)))))
theorem zdo:GM P w (mkT K cls exc) mg base 100 1 "join_to" ybS:=gm Z.d_House_join_to zcY (show ("join_to" : Str)∉flds 1 by decide +kernel) λhr C hu nd =>
 (yag (yas (yai rfl C (zaX Z) hr.m (yaa 0) (zaa (yaa 1) (zaa (yak rfl C (zaN Z) hr.m rfl (zaa (yaA rfl Z.cf_House (yaa 0)) (zaa (yai rfl C (zav Z) hr.m (yaa 0) (zaa (yaa 1) yac)) (zaa (yai rfl C (zav Z) hr.m (yaa 0) (zaa (yaa 2) yac)) yac)))) yac)))))
theorem zfJ:GF P w (mkT K cls exc) mg base 6 "check_gap" ydh:=gf Z.d_check_gap zfd λhr C hu nd =>
 (zab (yan (i:=3) nd (yai rfl C (zag Z) hr.m (yaa 0) (zaa (yaa 1) yac)))
  (yag (r_if (yb6 (ziS o_le o_le yad (yaa 2) (yaa 3))) ya6 yar)))
theorem zbb:∀ d,GF P w (mkT K cls exc) mg base (99+d+1) "front_of" (yaE d)
 | 0=>gf Z.d_front_of zcE λ_ _ _ _=>ya6
 | d+1=>gf Z.d_front_of zcE λhr C hu nd =>
  (zab (r_if (yaq (o_eq rfl hu) (yaa 2) yad (yap _)) (yag (yao yad)) yar)
  (zab (r_if (yaq (o_eq rfl hu) (yaa 2) (yai rfl C (zag Z) (hr.mono (show 5<=99+(d+1) by lia)) (yaa 0) (zaa (yaa 1) yac)) (yap _)) (yag (yao (yaa 1))) yar)
  (zab (yan (i:=3) nd (yai rfl C (zan Z) (hr.mono (show 4<=99+(d+1) by lia)) (yaa 0) (zaa (yaa 1) yac)))
  (zab (r_if (yaq (o_eq rfl hu) (r_ix rfl hu (yaa 3) yad) ya5 (yap _)) (yag (yao (yai rfl C (zaY Z) (hr.mono (show 4<=99+(d+1) by lia)) (yaa 0) (zaa (zaM rfl (r_ix rfl hu (yaa 3) yad) zaR (zaG (yaa 2))) yac)))) yar)
  (zab (yan (i:=4) nd (yai rfl C (zag Z) (hr.mono (show 5<=99+(d+1) by lia)) (yaa 0) (zaa (r_ix rfl hu (yaa 3) yad) yac)))
  (zab (r_if (yaq o_le (yaa 2) (yaa 4) (yap _)) (yag (yao (yak rfl C (zbb d) (hr.mono (by lia)) rfl (zaa (yaa 0) (zaa (r_ix rfl hu (yaa 3) yad) (zaa (yaa 2) yac)))))) yar)
  (yag (yao (yak rfl C (zaN Z) (hr.mono (show 99<=99+(d+1) by lia)) rfl (zaa (yaa 0) (zaa (r_ix rfl hu (yaa 3) yad) (zaa (yak rfl C (zbb d) (hr.mono (by lia)) rfl (zaa (yaa 0) (zaa (r_ix rfl hu (yaa 3) yad) (zaa (yal ybA (yaa 2) (yaa 4)) yac)))) yac))))))))))))
theorem zbu:∀ d,GF P w (mkT K cls exc) mg base (99+d+1) "back_of" (yaJ d)
 | 0=>gf Z.d_back_of zdl λ_ _ _ _=>ya6
 | d+1=>gf Z.d_back_of zdl λhr C hu nd =>
  (zab (r_if (yaq (o_eq rfl hu) (yaa 2) yad (yap _)) (yag (yao (yaa 1))) yar)
  (zab (r_if (yaq (o_eq rfl hu) (yaa 2) (yai rfl C (zag Z) (hr.mono (show 5<=99+(d+1) by lia)) (yaa 0) (zaa (yaa 1) yac)) (yap _)) (yag (yao yad)) yar)
  (zab (yan (i:=3) nd (yai rfl C (zan Z) (hr.mono (show 4<=99+(d+1) by lia)) (yaa 0) (zaa (yaa 1) yac)))
  (zab (r_if (yaq (o_eq rfl hu) (r_ix rfl hu (yaa 3) yad) ya5 (yap _)) (yag (yao (yai rfl C (zaY Z) (hr.mono (show 4<=99+(d+1) by lia)) (yaa 0) (zaa (zaM rfl (r_ix rfl hu (yaa 3) yad) (zaG (yaa 2)) zaR) yac)))) yar)
  (zab (yan (i:=4) nd (yai rfl C (zag Z) (hr.mono (show 5<=99+(d+1) by lia)) (yaa 0) (zaa (r_ix rfl hu (yaa 3) yad) yac)))
  (zab (r_if (yaq o_ge (yaa 2) (yaa 4) (yap _)) (yag (yao (yak rfl C (zbu d) (hr.mono (by lia)) rfl (zaa (yaa 0) (zaa (r_ix rfl hu (yaa 3) yad) (zaa (yal ybA (yaa 2) (yaa 4)) yac)))))) yar)
  (yag (yao (yak rfl C (zaN Z) (hr.mono (show 99<=99+(d+1) by lia)) rfl (zaa (yaa 0) (zaa (yak rfl C (zbu d) (hr.mono (by lia)) rfl (zaa (yaa 0) (zaa (r_ix rfl hu (yaa 3) yad) (zaa (yaa 2) yac)))) (zaa (r_ix rfl hu (yaa 3) yad) yac))))))))))))
theorem zjh:GF P w (mkT K cls exc) mg base 191 "put_in" ydI:=gf Z.d_put_in zig λhr C hu nd =>
 (zab (yan (i:=4) nd (yal (yaM rfl) (yai rfl C (zag Z) hr.m (yaa 0) (zaa (yaa 1) yac)) (yai rfl C (zag Z) hr.m (yaa 0) (zaa (yaa 3) yac))))
  (zab (yas (yak rfl C (zfJ Z) hr.m rfl (zaa (yaa 0) (zaa (yaa 1) (zaa (yaa 2) yac)))))
  (zab (yas (yak rfl C (za1 Z) hr.m rfl (zaa (yaa 4) yac)))
  (zab (yan (i:=5) nd (yak rfl C (zaN Z) hr.m rfl (zaa (yaa 0) (zaa (yak rfl C (zbb Z 90) hr.m rfl (zaa (yaa 0) (zaa (yaa 1) (zaa (yaa 2) yac)))) (zaa (yaa 3) yac)))))
  (yag (yao (yak rfl C (zaN Z) hr.m rfl (zaa (yaa 0) (zaa (yaa 5) (zaa (yak rfl C (zbu Z 90) hr.m rfl (zaa (yaa 0) (zaa (yaa 1) (zaa (yaa 2) yac)))) yac))))))))))
theorem zc4:GM P w (mkT K cls exc) mg base 192 1 "put_into" ybJ:=gm Z.d_House_put_into zcw (show ("put_into" : Str)∉flds 1 by decide +kernel) λhr C hu nd =>
 (yag (yas (yai rfl C (zaX Z) hr.m (yaa 0) (zaa (yaa 1) (zaa (yak rfl C (zjh Z) hr.m rfl (zaa (yaA rfl Z.cf_House (yaa 0)) (zaa (yai rfl C (zav Z) hr.m (yaa 0) (zaa (yaa 1) yac)) (zaa (yaa 2) (zaa (yai rfl C (zav Z) hr.m (yaa 0) (zaa (yaa 3) yac)) yac))))) yac)))))
theorem zbv:GF P w (mkT K cls exc) mg base 6 "check_stretch" ybT:=gf Z.d_check_stretch zcZ λhr C hu nd =>
 (zab (yan (i:=4) nd (yai rfl C (zag Z) hr.m (yaa 0) (zaa (yaa 1) yac)))
  (yag (r_if (yb6 (zhV o_le o_le o_le yad (yaa 2) (yaa 3) (yaa 4))) ya6 yar)))
theorem zfK:GF P w (mkT K cls exc) mg base 191 "taken_out" ycz:=gf Z.d_taken_out zfe λhr C hu nd =>
 (zab (yas (yak rfl C (zbv Z) hr.m rfl (zaa (yaa 0) (zaa (yaa 1) (zaa (yaa 2) (zaa (yaa 3) yac))))))
  (yag (yao (yak rfl C (zaN Z) hr.m rfl (zaa (yaa 0) (zaa (yak rfl C (zbb Z 90) hr.m rfl (zaa (yaa 0) (zaa (yaa 1) (zaa (yaa 2) yac)))) (zaa (yak rfl C (zbu Z 90) hr.m rfl (zaa (yaa 0) (zaa (yaa 1) (zaa (yaa 3) yac)))) yac)))))))
theorem zcy:GM P w (mkT K cls exc) mg base 192 1 "take_from" ybx:=gm Z.d_House_take_from zce (show ("take_from" : Str)∉flds 1 by decide +kernel) λhr C hu nd =>
 (yag (yas (yai rfl C (zaX Z) hr.m (yaa 0) (zaa (yaa 1) (zaa (yak rfl C (zfK Z) hr.m rfl (zaa (yaA rfl Z.cf_House (yaa 0)) (zaa (yai rfl C (zav Z) hr.m (yaa 0) (zaa (yaa 1) yac)) (zaa (yaa 2) (zaa (yaa 3) yac))))) yac)))))
theorem zbZ:GF P w (mkT K cls exc) mg base 1 "_law_rest" ybc:=gf Z.d_law_rest zfD λ{f cdv A outer s H E} hr C hu nd =>
 (zab (yan (i:=2) nd (ybl yac))
  (zab (ycr rfl (zbe (E:=EN) rfl (yaa 0)) (yeb rfl rfl (zaB (i:=3) nd (zaB (i:=4) nd zbd))) (zab (yan (i:=5) nd (r_bi (ye4) rfl Z.b_min PyProof.Rows.boot_min (zaa (yaa 4) (zaa (yal ye0 (yaa 1) (r_bi (b_len rfl) rfl Z.b_len PySem.boot_len (zaa (yaa 3) yac))) yac))))
  (zab (yan (i:=1) nd (yal ybA (yaa 1) (yal yb3 (yaa 5) (r_bi (b_len rfl) rfl Z.b_len PySem.boot_len (zaa (yaa 3) yac)))))
  (zab (r_if (rt_w (yea (yaq o_lt (yaa 5) (yaa 4) (yap _)) (zbB (yaq o_gt (yaa 1) yad (yap _))))) (zab (yas (r_bm rfl PySem.F.plainAttrs_list PySem.F.slot_list_append PySem.F.type_list_append (zak) zaj (yaa 2) (zaa (ybM (zaa (zaM rfl (yaa 3) (zaG (yaa 1)) zaR) (zaa yad yac))) yac)))
  (zab (yan (i:=5) nd (yal (yaM rfl) (yaa 5) yad))
  (yag (yan (i:=1) nd yad)))) yar)
  (yag (yas (r_bm rfl PySem.F.plainAttrs_list PySem.F.slot_list_append PySem.F.type_list_append (zak) zaj (yaa 2) (zaa (ybM (zaa (yaa 3) (zaa (yal ybA (yaa 4) (yaa 5)) yac))) yac))))))))
  (yag (yao (yec (jf:=[]) (zaI (N:=["blocks", "at", "found", "plain", "many", "full"]) (sc:=yaf ydz) rfl (λ_=>rfl) (by decide +kernel)) rfl (ycO (E:=(λ_=>E)) rfl (yaa 2)) (λ_ _ _ _ _=>zdw (yaq o_gt (r_ix rfl hu (yaa 0) yad) yad (yap _))) (λ_ _ _ _ _=>(yaa 0)))))))
theorem zbx:GF P w (mkT K cls exc) mg base 1 "_law_first" ya3:=gf Z.d_law_first zff λ{f cdv A outer s H E} hr C hu nd =>
 (zab (yan (i:=2) nd (ybl yac))
  (zab (ycr rfl (zbe (E:=EN) rfl (yaa 0)) (yeb rfl rfl (zaB (i:=3) nd (zaB (i:=4) nd zbd))) (yag (r_if (yaq o_gt (yaa 1) yad (yap _)) (zab (yan (i:=5) nd (r_bi (ye4) rfl Z.b_min PyProof.Rows.boot_min (zaa (yaa 4) (zaa (yal ye0 (yaa 1) (r_bi (b_len rfl) rfl Z.b_len PySem.boot_len (zaa (yaa 3) yac))) yac))))
  (zab (yas (r_bm rfl PySem.F.plainAttrs_list PySem.F.slot_list_append PySem.F.type_list_append (zak) zaj (yaa 2) (zaa (ybM (zaa (yaa 3) (zaa (yaa 5) yac))) yac)))
  (zab (yan (i:=1) nd (yal ybA (yaa 1) (yal yb3 (yaa 5) (r_bi (b_len rfl) rfl Z.b_len PySem.boot_len (zaa (yaa 3) yac)))))
  (yag (r_if (rt_w (yea (yaq o_lt (yaa 5) (yaa 4) (yap _)) (zbB (yaq o_gt (yaa 1) yad (yap _))))) (zab (yas (r_bm rfl PySem.F.plainAttrs_list PySem.F.slot_list_append PySem.F.type_list_append (zak) zaj (yaa 2) (zaa (ybM (zaa (zaM rfl (yaa 3) zaR (zaG (yaa 1))) (zaa yad yac))) yac)))
  (yag (yan (i:=1) nd yad))) yar))))) yar)))
  (yag (yao (yec (jf:=[]) (zaI (N:=["blocks", "at", "found", "plain", "many", "full"]) (sc:=yaf ydi) rfl (λ_=>rfl) (by decide +kernel)) rfl (ycO (E:=(λ_=>E)) rfl (yaa 2)) (λ_ _ _ _ _=>zdw (yaq o_gt (r_ix rfl hu (yaa 0) yad) yad (yap _))) (λ_ _ _ _ _=>(yaa 0)))))))
theorem zhd:GF P w (mkT K cls exc) mg base 193 "_law_deed" ycS:=gf Z.d_law_deed zfE λ{f cdv A outer s H E} hr C hu nd =>
 (zab (yan (i:=3) nd (r_ix rfl hu ya5 (yak rfl C (zas Z) hr.m rfl (zaa (yaa 1) (zaa yad yac)))))
  (zab (yan (i:=4) nd (r_ix rfl hu ya5 (yak rfl C (zas Z) hr.m rfl (zaa (yaa 1) (zaa yad yac)))))
  (zab (yan (i:=5) nd (r_ix rfl hu (yaa 2) (yaa 3)))
  (zab (yan (i:=6) nd (yak rfl C (zba Z) hr.m rfl (zaa (yaa 5) yac)))
  (zab (yan (i:=7) nd (yak rfl C (zas Z) hr.m rfl (zaa (yaa 1) (zaa (yal (yaM rfl) (yaa 6) yad) yac))))
  (zab (yan (i:=8) nd (yal (yaM rfl) (yaa 7) (yak rfl C (zas Z) hr.m rfl (zaa (yaa 1) (zaa (r_ix rfl hu (ycN (zaa (yal (yaM rfl) (yal ybA (yaa 6) (yaa 7)) yad) (zaa (r_bi (ye4) rfl Z.b_min PyProof.Rows.boot_min (zaa yad (zaa (yal (yaM rfl) (yal ybA (yaa 6) (yaa 7)) yad) yac))) yac))) (yak rfl C (zas Z) hr.m rfl (zaa (yaa 1) (zaa yad yac)))) yac)))))
  (zab (yan (i:=9) nd (yak rfl C (zas Z) hr.m rfl (zaa (yaa 1) (zaa yad yac))))
  (zab (r_if (yaq o_gt (yal (yaM rfl) (r_bi (b_len rfl) rfl Z.b_len PySem.boot_len (zaa (yaa 5) yac)) (r_bi (b_len rfl) rfl Z.b_len PySem.boot_len (zaa (r_ix rfl hu (yaa 2) (yaa 4)) yac))) yad (yap _)) (yag (yan (i:=9) nd (yal (yaM rfl) yad (yal ydr (yaa 9) yad)))) yar)
  (zab (yan (i:=10) nd (yak rfl C (zas Z) hr.m rfl (zaa (yaa 1) (zaa (r_ix rfl hu (ycN (zaa yad (zaa yad (zaa (yal yde yad yad) yac)))) (yak rfl C (zas Z) hr.m rfl (zaa (yaa 1) (zaa yad yac)))) yac))))
  (zab (r_if (rt_w (yea (yaq (o_eq rfl hu) (yaa 9) yad (yap _)) (yea (yaq o_le (yal yb3 (yaa 6) (yaa 10)) (yal yde yad yad) (yap _)) (zbB (yaq o_lt (r_bi (b_len rfl) rfl Z.b_len PySem.boot_len (zaa (yaa 5) yac)) yad (yap _)))))) (zab (yas (yai rfl C (zdU Z) hr.m (yaa 0) (zaa (yaa 3) (zaa (yaa 10) yac))))
  (yag (yao (ybM (zaa (yaa 3) (zaa (zgb rfl (jf:=[(10, "many")]) (zaI (N:=["house", "stream", "known", "name", "other", "blocks", "signs", "begin", "end", "kind", "many", "plain"]) (sc:=yaf ydA) rfl (λ_=>rfl) (by decide +kernel)) rfl (zbe (E:=(λ_=>E)) rfl (yaa 5)) (λ_ _ _ _ _=>zdw (yaq o_gt (yaa 2) yad (yap _))) (λ_ _ _ _ _=>(ybM (zaa (yaa 0) (zaa (yal yb3 (yaa 1) (yaa 2)) yac))))) yac)))))) yar)
  (zab (r_if (rt_w (yea (yaq (o_eq rfl hu) (yaa 9) yad (yap _)) (zbB (yaq o_le (yal (yaM rfl) (yaa 6) (yak rfl C (zba Z) hr.m rfl (zaa (r_ix rfl hu (yaa 2) (yaa 4)) yac))) (yal yde yad yad) (yap _))))) (zab (yas (yai rfl C (zdo Z) hr.m (yaa 0) (zaa (yaa 3) (zaa (yaa 4) yac))))
  (yag (yao (ybM (zaa (yaa 3) (zaa (yal (yaM rfl) (yaa 5) (r_ix rfl hu (yaa 2) (yaa 4))) yac)))))) yar)
  (zab (r_if (rt_w (yea (yaq (o_eq rfl hu) (yaa 9) yad (yap _)) (zbB (yaq o_le (yal (yaM rfl) (yaa 6) (yak rfl C (zba Z) hr.m rfl (zaa (r_ix rfl hu (yaa 2) (yaa 4)) yac))) (yal yde yad yad) (yap _))))) (zab (yas (yai rfl C (zc4 Z) hr.m (yaa 0) (zaa (yaa 3) (zaa (yaa 7) (zaa (yaa 4) yac)))))
  (yag (yao (ybM (zaa (yaa 3) (zaa (yal (yaM rfl) (yal (yaM rfl) (yak rfl C (zbx Z) hr.m rfl (zaa (yaa 5) (zaa (yaa 7) yac))) (r_ix rfl hu (yaa 2) (yaa 4))) (yak rfl C (zbZ Z) hr.m rfl (zaa (yaa 5) (zaa (yaa 7) yac)))) yac)))))) yar)
  (zab (r_if (yaq o_lt (yaa 9) yad (yap _)) (zab (yas (yai rfl C (zcy Z) hr.m (yaa 0) (zaa (yaa 3) (zaa (yaa 7) (zaa (yaa 8) yac)))))
  (yag (yao (ybM (zaa (yaa 3) (zaa (yal (yaM rfl) (yak rfl C (zbx Z) hr.m rfl (zaa (yaa 5) (zaa (yaa 7) yac))) (yak rfl C (zbZ Z) hr.m rfl (zaa (yaa 5) (zaa (yaa 8) yac)))) yac)))))) yar)
  (zab (yan (i:=11) nd (yak rfl C (zfH Z) hr.m rfl (zaa (yaa 1) (zaa yad yac))))
  (zab (yas (yai rfl C (zch Z) hr.m (yaa 0) (zaa (yaa 3) (zaa (yaa 11) yac))))
  (yag (yao (ybM (zaa (yaa 3) (zaa (yal (yhT rfl) (ycN (zaa (ybM (zaa (yaa 11) (zaa yad yac))) yac)) (r_ty (b_int) rfl Z.b_int yf4 (zaa (yfN (o_ne rfl hu) (yaa 11) ya5 (yap _)) yac))) yac))))))))))))))))))))
theorem zfk:GM P w (mkT K cls exc) mg base 2 1 "back" yb0:=gm Z.d_House_back zev (show ("back" : Str)∉flds 1 by decide +kernel) λhr C hu nd =>
 (zab (r_if (yaq (o_eq rfl hu) (yaA rfl Z.cf_House (yaa 0)) (ycN yac) (yap _)) ya6 yar)
  (zab (yan (i:=1) nd (yfr rfl PySem.F.plainAttrs_list PySem.F.slot_list_pop PySem.F.type_list_pop (yfP) zaj (yaA rfl Z.cf_House (yaa 0))))
  (zab (yas (r_bm rfl PySem.F.plainAttrs_list PySem.F.slot_list_append PySem.F.type_list_append (zak) zaj (yaA rfl Z.cf_House (yaa 0)) (zaa (yaa 1) yac)))
  (yag (yas (yai rfl C (zaP Z) hr.m (yaa 0) (zaa (r_ix rfl hu (yaa 1) yad) (zaa (r_ix rfl hu (yaa 1) yad) yac))))))))
theorem zex:GM P w (mkT K cls exc) mg base 2 1 "again" ybN:=gm Z.d_House_again zdR (show ("again" : Str)∉flds 1 by decide +kernel) λhr C hu nd =>
 (zab (r_if (yaq (o_eq rfl hu) (yaA rfl Z.cf_House (yaa 0)) (ycN yac) (yap _)) ya6 yar)
  (zab (yan (i:=1) nd (yfr rfl PySem.F.plainAttrs_list PySem.F.slot_list_pop PySem.F.type_list_pop (yfP) zaj (yaA rfl Z.cf_House (yaa 0))))
  (zab (yas (r_bm rfl PySem.F.plainAttrs_list PySem.F.slot_list_append PySem.F.type_list_append (zak) zaj (yaA rfl Z.cf_House (yaa 0)) (zaa (yaa 1) yac)))
  (yag (yas (yai rfl C (zaP Z) hr.m (yaa 0) (zaa (r_ix rfl hu (yaa 1) yad) (zaa (r_ix rfl hu (yaa 1) yad) yac))))))))
theorem zdp:GF P w (mkT K cls exc) mg base 6 "signs_between" ycd:=gf Z.d_signs_between zc0 λhr C hu nd =>
 (zab (yan (i:=4) nd (ybl yac))
  (zab (yan (i:=5) nd (ybl (zaa (ybM (zaa (yaa 1) (zaa yad yac))) yac)))
  (zab (zjU ye5 (yaq (o_ne rfl hu) (yaa 5) (ycN yac) (yap _)) (zab (yan (i:=6) nd (yfr rfl PySem.F.plainAttrs_list PySem.F.slot_list_pop PySem.F.type_list_pop (yfP) zaj (yaa 5)))
  (zab (yan (i:=7) nd (r_ix rfl hu (yaa 6) yad))
  (zab (yan (i:=8) nd (r_ix rfl hu (yaa 6) yad))
  (zab (r_if (rt_w (ygJ (yaq o_ge (yaa 8) (yaa 3) (yap _)) (yge (yaq o_le (yal (yaM rfl) (yaa 8) (yai rfl (C.nox) (zag Z) hr.m (yaa 0) (zaa (yaa 7) yac))) (yaa 2) (yap _))))) (yag zgU) yar)
  (zab (yan (i:=9) nd (yai rfl (C.nox) (zan Z) hr.m (yaa 0) (zaa (yaa 7) yac)))
  (yag (r_if (yaq (o_eq rfl hu) (r_ix rfl hu (yaa 9) yad) ya5 (yap _)) (yag (yas (r_bm rfl PySem.F.plainAttrs_list PySem.F.slot_list_append PySem.F.type_list_append (zak) zaj (yaa 4) (zaa (zaM rfl (r_ix rfl hu (yaa 9) yad) (zaG (r_bi (yfB) rfl Z.b_max PyProof.Rows.boot_max (zaa (yal ybA (yaa 2) (yaa 8)) (zaa yad yac)))) (zaG (yal ybA (yaa 3) (yaa 8)))) yac)))) (zab (yas (r_bm rfl PySem.F.plainAttrs_list PySem.F.slot_list_append PySem.F.type_list_append (zak) zaj (yaa 5) (zaa (ybM (zaa (r_ix rfl hu (yaa 9) yad) (zaa (yal (yaM rfl) (yaa 8) (yai rfl (C.nox) (zag Z) hr.m (yaa 0) (zaa (r_ix rfl hu (yaa 9) yad) yac))) yac))) yac)))
  (yag (yas (r_bm rfl PySem.F.plainAttrs_list PySem.F.slot_list_append PySem.F.type_list_append (zak) zaj (yaa 5) (zaa (ybM (zaa (r_ix rfl hu (yaa 9) yad) (zaa (yaa 8) yac))) yac)))))))))))))
  (yag (yao (r_bm rfl PySem.F.plainAttrs_str PySem.F.slot_str_join PySem.F.type_str_join (yhN rfl) zf7 ya5 (zaa (yaa 4) yac)))))))
theorem zfl:GF P w (mkT K cls exc) mg base 7 "stretch_of" yci:=gf Z.d_stretch_of zew λhr C hu nd =>
 (zab (yas (yak rfl C (zbv Z) hr.m rfl (zaa (yaa 0) (zaa (yaa 1) (zaa (yaa 2) (zaa (yaa 3) yac))))))
  (zab (r_if (yaq o_gt (yal ybA (yaa 3) (yaa 2)) (r_gI rfl Z.c_MOST_PLAIN) (yap _)) ya6 yar)
  (yag (yao (yak rfl C (zdp Z) hr.m rfl (zaa (yaa 0) (zaa (yaa 1) (zaa (yaa 2) (zaa (yaa 3) yac)))))))))
theorem zfL:GF P w (mkT K cls exc) mg base 2 "_law_signs" ycA:=gf Z.d_law_signs zfg λhr C hu nd =>
 (zab (yan (i:=3) nd ya5)
  (zab (ycr rfl (zbe (E:=EN) rfl (yak rfl (C.nox) (zbx Z) hr.m rfl (zaa (yak rfl (C.nox) (zbZ Z) hr.m rfl (zaa (yaa 0) (zaa (yaa 1) yac))) (zaa (yal ybA (yaa 2) (yaa 1)) yac)))) (yeb rfl rfl (zaB (i:=4) nd (zaB (i:=5) nd zbd))) (yag (yan (i:=3) nd (yal (yaM rfl) (yaa 3) (yal yhS (yaa 4) (yaa 5))))))
  (yag (yao (yaa 3)))))
theorem zb1:GM P w (mkT K cls exc) mg base 1 1 "shelf" ybs:=gm Z.d_House_shelf zdS (show ("shelf" : Str)∉flds 1 by decide +kernel) λhr C hu nd =>
 (yag (yao (yaA rfl Z.cf_House (yaa 0))))
theorem zbc:GF P w (mkT K cls exc) mg base 8 "_law_same" yaS:=gf Z.d_law_same zfF λhr C hu nd =>
 (zab (yan (i:=4) nd (yak rfl C (zba Z) hr.m rfl (zaa (yaa 1) yac)))
  (zab (r_if (yaq (o_ne rfl hu) (yai rfl C (zag Z) hr.m (zcl rfl C (zb1 Z) hr.m (yaa 0)) (zaa (yaa 2) yac)) (yaa 4) (yap _)) (yag (yao r_bl)) yar)
  (zab (ycr rfl (ycO (E:=EN) rfl (ycN (zaa yad (zaa (r_bi (yfB) rfl Z.b_max PyProof.Rows.boot_max (zaa yad (zaa (yal ybA (yaa 4) yad) yac))) (zaa (yak rfl (C.nox) (zas Z) hr.m rfl (zaa (yaa 3) (zaa (yal (yaM rfl) (yaa 4) yad) yac))) (zaa (yak rfl (C.nox) (zas Z) hr.m rfl (zaa (yaa 3) (zaa (yal (yaM rfl) (yaa 4) yad) yac))) yac)))))) (zaQ (i:=5) nd) (zab (yan (i:=6) nd (r_bi (ye4) rfl Z.b_min PyProof.Rows.boot_min (zaa (yaa 4) (zaa (yal (yaM rfl) (yaa 5) yad) yac))))
  (yag (r_if (yaq (o_ne rfl hu) (yak rfl (C.nox) (zfl Z) hr.m rfl (zaa (zcl rfl (C.nox) (zb1 Z) hr.m (yaa 0)) (zaa (yaa 2) (zaa (yaa 5) (zaa (yaa 6) yac))))) (yak rfl (C.nox) (zfL Z) hr.m rfl (zaa (yaa 1) (zaa (yaa 5) (zaa (yaa 6) yac)))) (yap _)) (yag (yao r_bl)) yar))))
  (yag (yao r_bl)))))
theorem yjn {f:Addr} {fd:FuncData} (h4:Fun K "law" "law" yff f fd):FnOk P w K mg base (CXE P w) 194 f fd ["script"] (spA (mkT K cls exc) yfQ):=gl (T:=mkT K cls exc) h4 yio λ{cdv A outer s H E} hr C hu nd =>
 (zab (yan (i:=1) nd (zf6 rfl C (zfi Z) hr.m rfl))
  (zab (yan (i:=2) nd zf2)
  (zab (ycr rfl (ycO (E:=EN) rfl ya5) (zaQ (i:=3) nd) (zab (yas (yai rfl (C.nox) (zch Z) hr.m (yaa 1) (zaa (yaa 3) (zaa ya5 yac))))
  (yag (zbC hu (yaa 2) (yaa 3) (ycN yac)))))
  (zab (yan (i:=4) nd (ybl (zaa (yaa 2) yac)))
  (zab (yan (i:=5) nd (ybl yac))
  (zab (ycr rfl (zjX (E:=EN) rfl rfl Z.b_enumerate (yal (yaM rfl) (zaM rfl (yaa 0) zaR (zaG yad)) (ycN (zaa yad (zaa yad (zaa yad (zaa yad (zaa yad yac)))))))) (yeb rfl rfl (zaB (i:=6) nd (zaB (i:=7) nd zbd))) (zab (yan (i:=8) nd (yak rfl (C.nox) (zcf Z) hr.m rfl (zaa (ycN (zaa (yaa 7) (zaa (yaa 6) yac))) (zaa yad yac))))
  (zab (yhJ (yak rfl (C.nox) (zhd Z) hr.m rfl (zaa (yaa 1) (zaa (yaa 8) (zaa (yaa 2) yac)))) (yeb rfl rfl (zaB (i:=3) nd (zaB (i:=9) nd zbd))))
  (zab (yan (i:=2) nd (r_ty zj7 rfl Z.b_dict zj6 (zaa (yaa 2) yac)))
  (zab (zbC hu (yaa 2) (yaa 3) (yaa 9))
  (zab (yas (r_bm rfl PySem.F.plainAttrs_list PySem.F.slot_list_append PySem.F.type_list_append (zak) zaj (yaa 4) (zaa (yaa 2) yac)))
  (zab (yas (r_bm rfl PySem.F.plainAttrs_list PySem.F.slot_list_append PySem.F.type_list_append (zak) zaj (yaa 5) (zaa (ybM (zaa (yaa 9) (zaa (yai rfl (C.nox) (zav Z) hr.m (yaa 1) (zaa (yaa 3) yac)) yac))) yac)))
  (yag (r_if (yb6 (zaE rfl (yak rfl (C.nox) (zbc Z) hr.m rfl (zaa (yaa 1) (zaa (yaa 9) (zaa (yai rfl (C.nox) (zav Z) hr.m (yaa 1) (zaa (yaa 3) yac)) (zaa (yaa 8) yac))))))) (yag (yao r_bl)) yar)))))))))
  (zab (yan (i:=8) nd (yak rfl C (zcf Z) hr.m rfl (zaa (yaa 0) (zaa yad yac))))
  (zab (yan (i:=10) nd (yak rfl C (zas Z) hr.m rfl (zaa (yaa 8) (zaa (r_bi (b_len rfl) rfl Z.b_len PySem.boot_len (zaa (yaa 4) yac)) yac))))
  (zab (ycr rfl (zbp (E:=EN) rfl Z.b_range (yaa 10)) (zaQ (i:=11) nd) (yag (yas (zcl rfl (C.nox) (zfk Z) hr.m (yaa 1)))))
  (zab (ycr rfl (ycO (E:=EN) rfl ya5) (zaQ (i:=3) nd) (yag (r_if (yb6 (zaE rfl (yak rfl (C.nox) (zbc Z) hr.m rfl (zaa (yaa 1) (zaa (r_ix rfl hu (r_ix rfl hu (yaa 4) (yal ybA (yal ybA (r_bi (b_len rfl) rfl Z.b_len PySem.boot_len (zaa (yaa 4) yac)) yad) (yaa 10))) (yaa 3)) (zaa (yai rfl (C.nox) (zav Z) hr.m (yaa 1) (zaa (yaa 3) yac)) (zaa (yaa 8) yac))))))) (yag (yao r_bl)) yar)))
  (zab (ycr rfl (zbp (E:=EN) rfl Z.b_range (yaa 10)) (zaQ (i:=11) nd) (yag (yas (zcl rfl (C.nox) (zex Z) hr.m (yaa 1)))))
  (zab (ycr rfl (zbe (E:=EN) rfl (zaM rfl (yaa 5) (zaG (yfn yad)) zaR)) (yeb rfl rfl (zaB (i:=9) nd (zaB (i:=12) nd zbd))) (yag (r_if (yb6 (zaE rfl (yak rfl (C.nox) (zbc Z) hr.m rfl (zaa (yaa 1) (zaa (yaa 9) (zaa (yaa 12) (zaa (yaa 8) yac))))))) (yag (yao r_bl)) yar)))
  (yag (yao (r_bi (b_all rfl) rfl Z.b_all PyProof.Rows.boot_all (zaa (yec (jf:=[(1, "house"),(4, "past"),(8, "stream")]) (zaI (N:=["script", "house", "known", "name", "past", "ever", "k", "cell", "stream", "blocks", "back", "turn", "number"]) (sc:=yaf yff) rfl (λ_=>rfl) (by decide +kernel)) rfl (ycO (E:=(λ_=>E)) rfl ya5) (λ_ _ _ _ _=>zbf) (λ_ _ _ _ _=>(yak rfl (CA.never rfl) (zbc Z) hr.m rfl (zaa (yaa 1) (zaa (r_ix rfl hu (r_ix rfl hu (yaa 2) (yfn yad)) (yaa 0)) (zaa (yai rfl (CA.never rfl) (zav Z) hr.m (yaa 1) (zaa (yaa 0) yac)) (zaa (yaa 3) yac))))))) yac))))))))))))))))
end
abbrev FX (l:PySem.W.OpenLaw) (w:World) (K:PySem.W.Frag) (mg:Str->Option Value) (fa:Addr):Prop:=∃ fd:FuncData,(∀ (s:Shared) (v:Value),BindsTo s fd ⟨[v],[]⟩ [("script",v)])/\∀ base:Heap,K.In base->base.Ns mainGlobals mg->FnOk l.prog w K mg base (CXE l.prog w) 194 fa fd ["script"] (spL K)
theorem all_mk {l:PySem.W.OpenLaw} {w:World} {K:PySem.W.Frag} {h:Heap} {mg:Str->Option Value} {fa C0 C1:Addr} {tk_LEAF_SIGNS tk_NAME_SIGNS tk_MOST_PLAIN tk_MOST_SIGNS:Tok} (X:K.In h) (G:h.Ns mainGlobals mg) (hfa:mg "law" = some (.ref fa))
  (aC0:NA K "Shelf" (some (.ref C0))) (aC1:NA K "House" (some (.ref C1))) (a0:DN K C0 "__init__" "Shelf.__init__" ydL) (a1:DN K C1 "__init__" "House.__init__" ydM) (a7:DN K C1 "set_text" "House.set_text" ycH) (a8:DN K C1 "do" "House.do" yep) (a10:DN K C0 "has_piece" "Shelf.has_piece" ycu) (a11:DN K C0 "check_piece" "Shelf.check_piece" yca) (a12:DN K C0 "check_fork" "Shelf.check_fork" ycm) (a13:DN K C0 "lay" "Shelf.lay" yd0) (a14:DN K C0 "lay_fork" "Shelf.lay_fork" ycI) (a15:DN K C0 "fork" "Shelf.fork" ydO) (a21:DN K C0 "lay_leaf" "Shelf.lay_leaf" ycJ) (a22:DN K C0 "leaf" "Shelf.leaf" ydP) (a24:DN K C1 "give" "House.give" ydQ) (a27:DN K C0 "check_text" "Shelf.check_text" ycn) (a28:DN K C0 "signs" "Shelf.signs" ydm) (a30:DN K C0 "last_leaf" "Shelf.last_leaf" ycv) (a31:DN K C0 "first_leaf" "Shelf.first_leaf" yco) (a33:DN K C0 "piece" "Shelf.piece" ydn) (a35:DN K C0 "height" "Shelf.height" yc9) (a44:DN K C1 "text" "House.text" ydR) (a45:DN K C1 "repeat" "House.repeat" ydb) (a46:DN K C1 "join_to" "House.join_to" yc0) (a51:DN K C1 "put_into" "House.put_into" ycK) (a54:DN K C1 "take_from" "House.take_from" ycw) (a58:DN K C1 "back" "House.back" ydS) (a59:DN K C1 "again" "House.again" ydp) (a63:DN K C1 "shelf" "House.shelf" ydq) (a2:DK K "_law_mixed" ydZ) (a3:DK K "_law_stream" ycX) (a4:DK K "_law_take" yeo) (a5:DK K "is_name" ydX) (a6:DK K "check_name" ydN) (a9:DK K "is_whole" yeq) (a16:DK K "halved" yeP) (a17:DK K "is_plain_sign" ycY) (a18:DK K "is_plain" ydx) (a19:DK K "is_short" yer) (a20:DK K "ends_in" yeD) (a23:DK K "built" yeN) (a25:DK K "_law_long" ydy) (a26:DK K "_law_plain" yd1) (a29:DK K "check_length" yc8) (a32:DK K "are_close" yd2) (a34:DK K "with_last" yd3) (a36:DK K "turned_left" ydo) (a37:DK K "without_first" ycZ) (a38:DK K "turned_right" yda) (a39:DK K "linked" yeQ) (a40:DK K "welded" yeR) (a41:DK K "joined" yeS) (a42:DK K "doubled" yeE) (a43:DK K "repeated" yes) (a47:DK K "check_gap" yd4) (a48:DK K "front_of" yet) (a49:DK K "back_of" yeF) (a50:DK K "put_in" yeT) (a52:DK K "check_stretch" yc1) (a53:DK K "taken_out" yd5) (a55:DK K "_law_rest" ydz) (a56:DK K "_law_first" ydi) (a57:DK K "_law_deed" ydA) (a60:DK K "signs_between" yc2) (a61:DK K "stretch_of" ydT) (a62:DK K "_law_signs" yd6) (a64:DK K "_law_same" yeu) (a65:DK K "law" yff) (kk0:Cls K C0) (mk0:PySem.W.makesIn K C0=true) (kc0:PySem.W.keepIn K (.ref C0)=true) (nf0_0:FA K C0 "pieces") (nf0_1:FA K C0 "numbers") (nf0_2:FA K C0 "sign_counts") (nf0_3:FA K C0 "end_counts") (nf0_4:FA K C0 "leaf_counts") (nf0_5:FA K C0 "heights") (nf0_6:FA K C0 "first_leaves") (nf0_7:FA K C0 "last_leaves") (kk1:Cls K C1) (mk1:PySem.W.makesIn K C1=true) (kc1:PySem.W.keepIn K (.ref C1)=true) (nf1_0:FA K C1 "own_shelf") (nf1_1:FA K C1 "texts") (nf1_2:FA K C1 "deeds") (nf1_3:FA K C1 "taken_back") (z_abs:NA K "abs" none) (z_all:NA K "all" none) (z_bool:NA K "bool" none) (z_dict:NA K "dict" none) (z_enumerate:NA K "enumerate" none) (z_int:NA K "int" none) (z_isinstance:NA K "isinstance" none) (z_len:NA K "len" none) (z_max:NA K "max" none) (z_min:NA K "min" none) (z_range:NA K "range" none) (z_str:NA K "str" none) (z_sum:NA K "sum" none) (m_LEAF_SIGNS:NA K "LEAF_SIGNS" (some (.int 8 tk_LEAF_SIGNS))) (m_NAME_SIGNS:NA K "NAME_SIGNS" (some (.int 8 tk_NAME_SIGNS))) (m_MOST_PLAIN:NA K "MOST_PLAIN" (some (.int 10000 tk_MOST_PLAIN))) (m_MOST_SIGNS:NA K "MOST_SIGNS" (some (.int 1000000000000000000 tk_MOST_SIGNS)))
  : FX l w K mg fa:=by
 have Z:∀ base:Heap,K.In base->Facts l.prog w K (λn=>[C0,C1][n]?) (λn=>[][n]?) mg base:=λbase KB=>{
   b_abs:=PySem.W.mg_none_of X G z_abs,
   b_all:=PySem.W.mg_none_of X G z_all,
   b_bool:=PySem.W.mg_none_of X G z_bool,
   b_dict:=PySem.W.mg_none_of X G z_dict,
   b_enumerate:=PySem.W.mg_none_of X G z_enumerate,
   b_int:=PySem.W.mg_none_of X G z_int,
   b_isinstance:=PySem.W.mg_none_of X G z_isinstance,
   b_len:=PySem.W.mg_none_of X G z_len,
   b_max:=PySem.W.mg_none_of X G z_max,
   b_min:=PySem.W.mg_none_of X G z_min,
   b_range:=PySem.W.mg_none_of X G z_range,
   b_str:=PySem.W.mg_none_of X G z_str,
   b_sum:=PySem.W.mg_none_of X G z_sum,
   c_LEAF_SIGNS:=⟨_,PySem.W.mg_of X G m_LEAF_SIGNS⟩,
   c_NAME_SIGNS:=⟨_,PySem.W.mg_of X G m_NAME_SIGNS⟩,
   c_MOST_PLAIN:=⟨_,PySem.W.mg_of X G m_MOST_PLAIN⟩,
   c_MOST_SIGNS:=⟨_,PySem.W.mg_of X G m_MOST_SIGNS⟩,
   cf_Shelf:=⟨C0,rfl,kk0,λf hf=>by
   have hf2:f∈flds 0:=hf
   simp only [flds,List.mem_cons,List.not_mem_nil,or_false] at hf2
   rcases hf2 with rfl | rfl | rfl | rfl | rfl | rfl | rfl | rfl
   ·exact nf0_0
   ·exact nf0_1
   ·exact nf0_2
   ·exact nf0_3
   ·exact nf0_4
   ·exact nf0_5
   ·exact nf0_6
   ·exact nf0_7⟩,
   cf_House:=⟨C1,rfl,kk1,λf hf=>by
   have hf2:f∈flds 1:=hf
   simp only [flds,List.mem_cons,List.not_mem_nil,or_false] at hf2
   rcases hf2 with rfl | rfl | rfl | rfl
   ·exact nf1_0
   ·exact nf1_1
   ·exact nf1_2
   ·exact nf1_3⟩,
   d_Shelf_init:=di rfl (PySem.W.mg_of X G aC0) mk0 kc0 a0 bl1,
   d_House_init:=di rfl (PySem.W.mg_of X G aC1) mk1 kc1 a1 bl1,
   d_law_mixed:=dg X G a2 bl2,
   d_law_stream:=dg X G a3 bl2,
   d_law_take:=dg X G a4 bl2,
   d_is_name:=dg X G a5 bl1,
   d_check_name:=dg X G a6 bl1,
   d_House_set_text:=dm rfl kk1 a7 bl3,
   d_House_do:=dm rfl kk1 a8 bl3,
   d_is_whole:=dg X G a9 bl1,
   d_Shelf_has_piece:=dm rfl kk0 a10 bl2,
   d_Shelf_check_piece:=dm rfl kk0 a11 bl2,
   d_Shelf_check_fork:=dm rfl kk0 a12 bl3,
   d_Shelf_lay:=dm rfl kk0 a13 bl2,
   d_Shelf_lay_fork:=dm rfl kk0 a14 bl2,
   d_Shelf_fork:=dm rfl kk0 a15 bl3,
   d_halved:=dg X G a16 bl2,
   d_is_plain_sign:=dg X G a17 bl1,
   d_is_plain:=dg X G a18 bl1,
   d_is_short:=dg X G a19 bl1,
   d_ends_in:=dg X G a20 bl1,
   d_Shelf_lay_leaf:=dm rfl kk0 a21 bl2,
   d_Shelf_leaf:=dm rfl kk0 a22 bl2,
   d_built:=dg X G a23 bl2,
   d_House_give:=dm rfl kk1 a24 bl3,
   d_law_long:=dg X G a25 bl1,
   d_law_plain:=dg X G a26 bl2,
   d_Shelf_check_text:=dm rfl kk0 a27 bl2,
   d_Shelf_signs:=dm rfl kk0 a28 bl2,
   d_check_length:=dg X G a29 bl1,
   d_Shelf_last_leaf:=dm rfl kk0 a30 bl2,
   d_Shelf_first_leaf:=dm rfl kk0 a31 bl2,
   d_are_close:=dg X G a32 bl3,
   d_Shelf_piece:=dm rfl kk0 a33 bl2,
   d_with_last:=dg X G a34 bl3,
   d_Shelf_height:=dm rfl kk0 a35 bl2,
   d_turned_left:=dg X G a36 bl3,
   d_without_first:=dg X G a37 bl2,
   d_turned_right:=dg X G a38 bl3,
   d_linked:=dg X G a39 bl3,
   d_welded:=dg X G a40 bl3,
   d_joined:=dg X G a41 bl3,
   d_doubled:=dg X G a42 bl3,
   d_repeated:=dg X G a43 bl3,
   d_House_text:=dm rfl kk1 a44 bl2,
   d_House_repeat:=dm rfl kk1 a45 bl3,
   d_House_join_to:=dm rfl kk1 a46 bl3,
   d_check_gap:=dg X G a47 bl3,
   d_front_of:=dg X G a48 bl3,
   d_back_of:=dg X G a49 bl3,
   d_put_in:=dg X G a50 bl4,
   d_House_put_into:=dm rfl kk1 a51 bl4,
   d_check_stretch:=dg X G a52 bl4,
   d_taken_out:=dg X G a53 bl4,
   d_House_take_from:=dm rfl kk1 a54 bl4,
   d_law_rest:=dg X G a55 bl2,
   d_law_first:=dg X G a56 bl2,
   d_law_deed:=dg X G a57 bl3,
   d_House_back:=dm rfl kk1 a58 bl1,
   d_House_again:=dm rfl kk1 a59 bl1,
   d_signs_between:=dg X G a60 bl4,
   d_stretch_of:=dg X G a61 bl4,
   d_law_signs:=dg X G a62 bl3,
   d_House_shelf:=dm rfl kk1 a63 bl1,
   d_law_same:=dg X G a64 bl4,
   d_law:=dg X G a65 bl1 }
 obtain ⟨fd,h1,F⟩:=dlaw (p := "script") X G hfa a65 bl1
 exact ⟨fd,h1,λbase KB _=>FnOk.imp (yjn (Z base KB) F) (zj3 (T:=mkT K (λn=>[C0,C1][n]?) (λn=>[][n]?)) law_true)⟩
theorem walk {l:PySem.W.OpenLaw} {q:Program} {loose:List Str} {XP:(Str->Option Value)->Heap->Prop} {YP:World->Heap->Prop} {d:DefRec} {K:Params->PySem.W.Frag} (hn:l.most=some 63) (hdf:d.params.defaults=[])
  (hY:∀ (w:World) (h:Heap),YP w h->(K w.params).In h)
  (F:∀ (w:World) (mg:Str->Option Value) (fa:Addr) (h:Heap),(K w.params).In h->h.Ns mainGlobals mg->mg d.name=some (.ref fa)->FX l w (K w.params) mg fa) :
  PySem.W.WalkO q loose XP YP l.row.toRowW d [] (λf vs=>PySem.call f vs) :=
 L2.walk_of (n:=63) (k:=194) (x := "script") (CX:=λw=>CXE l.prog w) (sp:=λw=>spL (K w.params)) hn (by decide) hdf ⟨rfl,by decide,by decide⟩ hY F (λ_ _ a ns hl _ hS=>⟨a,ns,rfl,hS,hl,λ_=>rfl⟩) λ_ _ _ _ _ z=>zhU z
end Sk
open PySem PySem.W PyProof.Rows
section
structure PySem.W.Fast:Prop where(tw2753589729357042023 tw15730080950642855493 tw17486724800401913855 tw8798693031385990111 tw6908271560525250431 tw16935622293458371455 tw13749849921409335167 tw1944388288805172031 tw18383231231809148703 tw829499269219590911 tw7470365039430158047 tw1323739588296711807 tw3737348955672894047 tw11977504480125619807 tw53317364457201055 tw9399339281897827647 tw3417060315614829855 tw5499985919546469663 tw2191258332699940063 tw6863862928808917183 tw14502949976307643583 tw10753531119522776255 tw15377748885736010911 tw10054236631498477631 tw12009076779031372831 tw11063773979419091934 tw15572858883028601790 tw608252829475863390 tw16673001900637326110 tw11731358130513956574 tw17730025765988909726 tw8163135394614388382 tw5625597718598900286 tw16504659038694611486 tw12151670452942620126 tw6472720332117326302 tw8811541816908058046 tw14736701350569689470 tw9416540688864745854 tw10084742221024095582 tw16497481613968511294 tw5306647891255989438 tw359450094487841950 tw8913557485172256894 tw84250548707098686 tw11091083695939621885 tw12037053730845102045 tw8347216575671585757 tw16034416333268219837 tw2819999656444265405 tw14475745176951624605 tw2281597742048627613 tw8964545271211715453 tw4818037063898134333 tw733270053830862621 tw7717632617091494621 tw5019930112543230653 tw10009359562129211069 tw5926746128269044349 tw9230897004759851613 tw2436295879664652829 tw8119853387795697053 tw5349501179107733885 tw2832193282523162941 tw13871749445160075549 tw15554601267412102397 tw1170993785055454429 tw2474805564514904189 tw7399011149797735453 tw10041245787970897916 tw7687038722156222428 tw3023312258471820188 tw11232669638488792988 tw16298069009657470876 tw5897810339533350780 tw13815757445852504956 tw5935039411510799164 tw3484978018004642588 tw15231446536053447388 tw4820441148702197404 tw15893292029031799356 tw16740010251469446652 tw12203917697399573980 tw10096647799037779388 tw16326887558940669372 tw2968800869990314396 tw4000148344939581852 tw6299637020804006268 tw6818730818388253980 tw1506563663341194492 tw2098051961750724828 tw11739648175589886044 tw14999186679530992668 tw9266859751464492987 tw13847529378676395963 tw14073722066616049435 tw3768914205303938811 tw8570696351533674203 tw2486031100106125019 tw9180265498520749787 tw8070254125943593659 tw86890504142567099 tw15822715100496749179 tw4291740723916591707 tw2990522469775960603 tw3953534525987225115 tw6601866087112860155 tw13035725385117277595 tw13769281268643074299 tw17506419510372441307 tw17316918421643021531 tw11004345583434976411 tw12250488962930870427 tw382263029559931995 tw10025285980332401691 tw10318601366537752538 tw17020098839995057114 tw17043287428488018874 tw322398059254735802 tw11954087680601483162 tw14035337406260518810 tw8111866076235071354 tw507384299195241306 tw3450668762254743322 tw7098699311226899194 tw162963437325908698 tw6036676679547436762 tw5778294384205806298 tw9368974668219301530 tw6521790789943248410 tw12574451622786440730 tw2727200241092743610 tw15846501028629555642 tw15836165629117993370 tw8558745652120351098 tw2115061813441580410 tw12430242963405718906 tw14786224300499743034 tw2472222851991755962 tw14584816941325626490 tw3557263215561818202 tw9487524832401953753 tw14906396901105162073 tw8075959511392287513 tw4220673368258383641 tw14170383268616358489 tw7595376193534833209 tw13631546801583577 tw3475154874255030745 tw14274661762699360569 tw13858869775921041689 tw11671287196507721881 tw113099765043360889 tw11134539403299551321 tw13401942958362227801 tw1176145032362410073 tw1796049911674861593 tw9090929827821059097 tw12986681576386343864 tw17929540111642225560 tw2316917771682881432 tw10780778349817144184 tw7627458968628879128 tw4672714693095202520 tw9710360223784094360 tw13580083820864523736 tw4455230434520994264 tw1273465669548291512 tw3217191907711941016 tw14919924844344333688 tw12441092805112037688 tw16459554917246276856 tw10121801118690745592 tw6898998547134883032 tw3563313659177830584 tw4644482574283440280 tw4859868606199082072 tw4147750658396095383 tw17227533595786694519 tw10684546166912471799 tw16190290663246972663 tw1263758486200582871 tw17685454633124314775 tw11593225006824772215 tw14514377100196687415 tw18264134824526705111 tw1064241178184327543 tw3441597513643655511 tw11420402812816368951 tw2398473783002150167 tw16274342212824839447 tw862818676790094071 tw15701766430380581111 tw18154898937199354071 tw13848484822270062775 tw6804675138965898423 tw7159738451498632343 tw9404033545581322391 tw567411622229267575 tw619155007373084791 tw8883140843338522647 tw16575381443800993815 tw12313426011590242198 tw14903726747718910870 tw11437818702177915766 tw14443173223229184758 tw4004015617310211798 tw12588584343338308246 tw16950209014947980950 tw10122190111071009398 tw13570394642680040982 tw5626703893625627126 tw18135013541014597110 tw14932053424974336470 tw3069383006393823670 tw1795843635085026742 tw15406443244596557174 tw431871071697858870 tw3329288619158126870 tw9399123008756734198 tw1024411027401630934 tw6636972833332866262 tw7666818730434469078 tw5958971265757861046 tw15422581556732942422 tw13519270148502307829 tw12443240721276742645 tw8436576961124493269 tw7498549211916687317 tw13210533666167266229 tw5705741111604283317 tw1760416652739298197 tw10557485827380776789 tw8379714774724027221 tw923610878176786229 tw17918016469983374133 tw12069117318278431445 tw5375514849026274997 tw7719931182251143861 tw5725174693834573493 tw4745373285119994549 tw6025144413392890517 tw17105744572733009493 tw1258596763694578229 tw1775595149276816949 tw17536830235041113653 tw445447830187326901 tw17427220358105706933 tw13454932497570119061 tw4963516114429181269 tw4355170065636190549 tw6755788412589585749 tw16948990131051967829 tw12580262118617653557 tw18025648164015034645 tw2394840177959803157 tw13138359927194011893 tw10530717246457484501 tw15392378926285520085 tw1542961663215003765 tw7634447966855455861 tw5929854022476143733 tw9928611011346827381 tw8049385854230634581 tw18405301557528315989 tw2593910937920576565 tw1711235874215357461 tw4423812429428291572 tw3033017050964485108 tw5030135584440360948 tw6970449020365472724 tw2729164056478013364 tw7866247723299490708 tw16632623502002242452 tw12484174204671870836 tw18015613779564504916 tw6423598530444961556 tw251418365486325492 tw6514970751588778740 tw977359211213017748 tw7849344573308420756 tw4934589581595842132 tw18110157620203692596 tw14496028229128987124 tw11710438274951038388 tw4109122078383206804 tw469173799773138324 tw14704961892706151828 tw4443602043050773908 tw616408752665758068 tw5872079708158848148 tw3128811751837024340 tw3371869245406164052 tw3105173513085390900 tw5500825639588556852 tw8945768732150489043 tw6773515653868893139 tw10604423542070944691 tw2150198983247799219 tw12885891860941745971 tw12780965131540176691 tw12755417866252463859 tw15645544954228130547 tw16512526462119194355 tw14316680216945004243 tw15291381605669068467 tw6889036188558809779 tw14360853906259944083 tw9205328121058928243 tw12108274098742170195 tw2331364172930745907 tw17166659341219768851 tw16949170917776220563 tw12387485364336705811 tw12615660833890523347 tw9147824784404703411 tw1757649406389839027 tw7805825030883677363 tw2314362942738009267 tw6297667647628755091 tw5877987416519764083 tw18057332590808610931 tw9517167982074477522 tw8732640331426802578 tw4839212864608167762 tw12250796203888276274 tw18408906317416304402 tw18259503491054542578 tw2266301907483559666 tw14038158162181607154 tw10497347576687940274 tw13579845785134239410 tw11544478093085379218 tw10653993410351961746 tw2446146289459739282 tw14289528116275812914 tw15807849791428606482 tw629314307275017618 tw15375901621227286930 tw3153093671805779250 tw9746095918909747506 tw3870854836551464242 tw14262832865968533810 tw1733402582577681650 tw2433751535242552530 tw1219894470148972562 tw2864515798364861458 tw5503221001722965010 tw2448103965656515345 tw6035679161363715825 tw5694957940845160145 tw17537360728612671153 tw9652177608970301041 tw404595962472326705 tw17567442484321821233 tw5705021345466599921 tw7617173794389391793 tw7413482754499328433 tw5977462776250219857 tw16086890590525258033 tw17235094235845487921 tw4921051142950370609 tw4398794211807660305 tw4093048196273854641 tw10417434970684011665 tw8568584407037649041 tw7911090804160673905 tw17060717611048647600 tw14377591785581084592 tw16962348819144998768 tw8770128703175064400 tw13267550096516181840 tw12350391230391853904 tw11628325999023726416 tw14287947905283880688 tw6454497029023904496 tw424095452779357936 tw1936851375750322928 tw11896844132034130640 tw7114341045246880464 tw14366813630651142832 tw2128342452102422160 tw11445460239929661072 tw17446690744400763504 tw5209728891002799664 tw14107400458494381552 tw12345537832166220272 tw555215529071348176 tw15513219904498792848 tw9011040464439673200 tw7000667242137790640 tw13375262675585578064 tw14957474193492005936 tw17602601388427797520 tw11569878829083605008 tw7829129467624601616 tw17107137658789475279 tw15431951401068567375 tw11151318875640992591 tw13863432298183680751 tw9471004722117301903 tw6538971679390372399 tw14628600866575776175 tw14788081639268144463 tw5627626034470547759 tw8072803520158838031 tw18168663083958616303 tw9157570818297450735 tw8777121403150674127 tw5711635815253491855 tw15130953916928600143 tw4719047650105107503 tw16688694224743972879 tw14774315851884695470 tw17921603525929247534 tw10477875677588270894 tw3230335342544577294 tw7156987143093930734 tw5381256359965867726 tw11685671990591855278 tw1152189377329336942 tw6489685085166765646 tw7357342746532665902 tw8144647438823478830 tw8879665862132648494 tw1018670718111952334 tw16891203757881686446 tw12492778806556497262 tw15958237120011192622 tw15199622401422456078 tw6514384959927969038 tw10953364814679278734 tw1318137949999939694 tw6564423877476413518 tw15927692580443758606 tw12452518390372011981 tw17474877444010551245 tw12359618077591005133 tw6536949941841578925 tw18292997037207426861 tw17422977658429655725 tw3293578528064521869 tw8535130618289741389 tw345115236160024141 tw2121627020984301101 tw13901619916179625485 tw8945592767268207085 tw6200162501418291693 tw10506197900131474893 tw10998216127108283821 tw17022189071250306477 tw7982461584149238125 tw8058812900648279309 tw7435704593244288237 tw11221266658533637293 tw11994953938617805997 tw14138642151064951949 tw5334159363283618893 tw7051979694997320749 tw16030213247176537133 tw8532238223497065485 tw2792315487277686732 tw8452066392610189260 tw1058824500940371916 tw4291994787580862380 tw5294715062712091564 tw14926610532767353580 tw6119199302347687628 tw2515724490073646764 tw825758819750831756 tw8391635509328633420 tw3591242935740939852 tw13386898609115564620 tw10194861224154572268 tw10002066774018479596 tw1622355324465293772 tw17794271039366324588 tw3545142664350512460 tw15057450182179779660 tw8347707071216856140 tw3158994357194518572 tw7435493822643153835 tw381830692839859115 tw5689599604120703851 tw11875201772945520491 tw10851872538044055307 tw4585006495323141835 tw16043522535100088971 tw4099753512499432075 tw16249205912854680139 tw17987812318547018283 tw11189686636839677483 tw11198243285332290027 tw15105854877517837803 tw1085527240025543115 tw13202762811870309803 tw17261688591597747627 tw12343156878661522859 tw10323358669610825067 tw1229330259388714251 tw7512584711154585835 tw14267534684274006251 tw1022431195370540235 tw2319082475462353963 tw9261397413512647723 tw4565514734056644619 tw1615497377074187050 tw15967469679693516554 tw17801166101856382570 tw17430786786513895018 tw7991866260536352330 tw3013591088388167242 tw2514618115675874858 tw4133045622050808362 tw5745354726762103306 tw8167193074858420618 tw12323834054137797002 tw9505175385066329386 tw10660080268253140106 tw10523650807932989450 tw15815329837683081161 tw16646059487918435241 tw4912698953523905385 tw1260983425646278505 tw2883455190622030665 tw7416868731866028873 tw3338707407962904393 tw17939179456838896457 tw9180160425083241289 tw15707449742388104937 tw14943206807463794345 tw2111669810271683209 tw6108980609220626025 tw18303153801919546921 tw11570314567438206377 tw13034780356890185065 tw16373047760793606473 tw14688410336358316361 tw3051812831351607593 tw17975034157635014921 tw5708520018882163913 tw3204754016640877769 tw17814961780754391241 tw7161969447086319753 tw16927148918692183177 tw2097763698033767497 tw9373309121282102313 tw7186976948245690377 tw4661263254769938441 tw3593443803560046504 tw4799073834841658248 tw10436453486337019784 tw10089533189659510632 tw7866666309678800680 tw16037435395099868968 tw1489641303625062088 tw11454679857625816584 tw12906317266893786568 tw13956817164454421928 tw4395611577677053224 tw3822477713315923240 tw15478419971832807656 tw2156988604076492968 tw13342109202217102472 tw6932441095870495880 tw7355008451082049608 tw16554183994235862056 tw13506958003806988328 tw3617325353925217288 tw8333987298586942407 tw11801910524329595655 tw5577301795142064871 tw1343830037232809639 tw3008990482433248935 tw286819524916536935 tw4237136813712928295 tw13829486905382846887 tw4331935656408271239 tw9320602649364937095 tw3205584698604272871 tw14606804977877867719 tw10854241779772216519 tw16266007428167414919 tw12070893870656630823 tw14019381037572634631 tw15923342655636001766 tw13627102804449945478 tw10341592752920278918 tw5346556616291372902 tw4593343170932223814 tw4423868577982799622 tw14390560908790986470 tw5718233434773845702 tw15177542608336324166 tw5609203890984615334 tw17043197884761684390 tw15796703477523895622 tw11242486709553623366 tw922512242059907206 tw11772932198025030726 tw4405418906126437446 tw7648478374260840486 tw16110589714102402021 tw16295450358136192997 tw3589057394691455973 tw4570534956557883333 tw12516149277551937477 tw4155785029220995877 tw2130474168950801093 tw4350385720878616165 tw5005320434687650405 tw8828009004169898597 tw15469935636792228421 tw15027648599428837925 tw3434482333320923653 tw6491996405987037701 tw9837569701889039749 tw9953014664198091109 tw18173166040835047781 tw6892173361144708421 tw806916334295470341 tw5962507988291178693 tw5379964157909409893 tw2432865197230222341 tw6989483381702841316 tw7111056504548605892 tw2576243473541633956 tw531833310792127236 tw14852350796331553508 tw12398959716418350820 tw5516011329027120772 tw1784108533359218244 tw10488636215995177540 tw9616632374746357284 tw8813506792472748516 tw4514693213722125764 tw14981667066224079268 tw11935974996229759364 tw17262537032505080164 tw9413609423593106756 tw4453484951563040004 tw15484341398204445924 tw12669145230514797796 tw621811959300416708 tw12366883393141279940 tw14586388432812084388 tw17873710059959064676 tw6029136612660895812 tw17406263515107692419 tw14060543968062376835 tw10535474747379946339 tw6613447441344697155 tw11848455155412797187 tw14468209502936563395 tw10172722721568911043 tw1489118866216364707 tw870841659861018275 tw13861669398197589603 tw6885038550075828803 tw9345060560438893123 tw1211310931154982435 tw2372651467536701891 tw2489004283577337251 tw607524346387884387 tw13389760152195790147 tw15714941175125635395 tw8852767531328202019 tw6598498987982279939 tw9712818875274501315 tw17229294669321927811 tw10124351096173906051 tw4241915013194563651 tw14933593959504925731 tw4195020669308983299 tw18114678561964394434 tw17370386240517687202 tw9011712142694193058 tw10948734944092465026 tw10429418152530490210 tw12755686002755328802 tw16818558285319437058 tw5753229729855787714 tw2889022055194384034 tw6811195109533467298 tw11942777464759335586 tw9669309901509318274 tw11189924380755822210 tw5499809752945799778 tw8560608053330004546 tw14073349799434591586 tw13700430959894398274 tw3023302897958084866 tw8564168484106374370 tw8896394859805916354 tw1850075017683341506 tw811867425923061922 tw16275356935033070754 tw15783622257094513794 tw978891546683754594 tw9503017110912810082 tw9433722384722746402 tw5602170652663998466 tw11340601975932695521 tw683588167390657473 tw9239083389912200129 tw6210719078416878529 tw2563233524433991585 tw5808630370496548737 tw6763313502572554081 tw11499323603782164289 tw8528863126070902561 tw15093064904597871393 tw5111838856836240097 tw3152838582002685601 tw9294210531383146113 tw15590398503176203905 tw7141748201676674689 tw5010865640705134113 tw4199316678102617633 tw12535484277490203073 tw11923410650728428993 tw1701059120686066049 tw6486974044985730369 tw1651783713975247105 tw10841392577231836417 tw18261582960738626785 tw17507126632110625857 tw12650662913574561793 tw2603850900225240000 tw6109547423751142336 tw7577355719983566752 tw15884516108833894272 tw15002452745304672096 tw7730646437823177536 tw12520637440316456736 tw14396419306063437600 tw4427825087349167840 tw16656514508148151008 tw6652104174459894400 tw7793950222980957792 tw4254675625783790176 tw10542032167726523968 tw13361939686295617024 tw4013800862903773696 tw14981804318244641280 tw6978447973028706784 tw14441215459384207808 tw5086000600515417536 tw2103467114601303456 tw8817041759479946560 tw4924345762795208992 tw14785763850613571872 tw14060794011423092000 tw15364299684726336672 tw12161905930270366880 tw10567799887224825920 tw2544614586225217600 tw5390007396795701248 tw2695614473769042944:True)
end
set_option maxRecDepth 100000 in
set_option maxHeartbeats 0 in
theorem PySem.Challenge.cw_skeinwood_k85_whole_long_house_holds : PySem.Challenge.rw_skeinwood_k85_whole_long_house.Holds := by
 w_on; o_law; k_head; (case hw => w_witness2)
 k_fill
 refine Sk.walk (l := PySem.Challenge.rw_skeinwood_k85_whole_long_house) rfl rfl (fun w h Y => PySem.W.kIn_of Y) ?F
 case F =>
  intro w mg fa h KX G hmg
  refine' Sk.all_mk KX G hmg ?aC0 ?aC1 ?a0 ?a1 ?a7 ?a8 ?a10 ?a11 ?a12 ?a13 ?a14 ?a15 ?a21 ?a22 ?a24 ?a27 ?a28 ?a30 ?a31 ?a33 ?a35 ?a44 ?a45 ?a46 ?a51 ?a54 ?a58 ?a59 ?a63 ?a2 ?a3 ?a4 ?a5 ?a6 ?a9 ?a16 ?a17 ?a18 ?a19 ?a20 ?a23 ?a25 ?a26 ?a29 ?a32 ?a34 ?a36 ?a37 ?a38 ?a39 ?a40 ?a41 ?a42 ?a43 ?a47 ?a48 ?a49 ?a50 ?a52 ?a53 ?a55 ?a56 ?a57 ?a60 ?a61 ?a62 ?a64 ?a65 ?kk0 ?mk0 ?kc0 ?nf0_0 ?nf0_1 ?nf0_2 ?nf0_3 ?nf0_4 ?nf0_5 ?nf0_6 ?nf0_7 ?kk1 ?mk1 ?kc1 ?nf1_0 ?nf1_1 ?nf1_2 ?nf1_3 ?z_abs ?z_all ?z_bool ?z_dict ?z_enumerate ?z_int ?z_isinstance ?z_len ?z_max ?z_min ?z_range ?z_str ?z_sum ?m_LEAF_SIGNS ?m_NAME_SIGNS ?m_MOST_PLAIN ?m_MOST_SIGNS
  (case aC0 => apply Sm.na;k_is)
  (case aC1 => apply Sm.na;k_is)
  (case a0 => apply Sm.dn<;>k_is)
  (case a1 => apply Sm.dn<;>k_is)
  (case a7 => apply Sm.dn<;>k_is)
  (case a8 => apply Sm.dn<;>k_is)
  (case a10 => apply Sm.dn<;>k_is)
  (case a11 => apply Sm.dn<;>k_is)
  (case a12 => apply Sm.dn<;>k_is)
  (case a13 => apply Sm.dn<;>k_is)
  (case a14 => apply Sm.dn<;>k_is)
  (case a15 => apply Sm.dn<;>k_is)
  (case a21 => apply Sm.dn<;>k_is)
  (case a22 => apply Sm.dn<;>k_is)
  (case a24 => apply Sm.dn<;>k_is)
  (case a27 => apply Sm.dn<;>k_is)
  (case a28 => apply Sm.dn<;>k_is)
  (case a30 => apply Sm.dn<;>k_is)
  (case a31 => apply Sm.dn<;>k_is)
  (case a33 => apply Sm.dn<;>k_is)
  (case a35 => apply Sm.dn<;>k_is)
  (case a44 => apply Sm.dn<;>k_is)
  (case a45 => apply Sm.dn<;>k_is)
  (case a46 => apply Sm.dn<;>k_is)
  (case a51 => apply Sm.dn<;>k_is)
  (case a54 => apply Sm.dn<;>k_is)
  (case a58 => apply Sm.dn<;>k_is)
  (case a59 => apply Sm.dn<;>k_is)
  (case a63 => apply Sm.dn<;>k_is)
  (case a2 => apply Sm.dk<;>k_is)
  (case a3 => apply Sm.dk<;>k_is)
  (case a4 => apply Sm.dk<;>k_is)
  (case a5 => apply Sm.dk<;>k_is)
  (case a6 => apply Sm.dk<;>k_is)
  (case a9 => apply Sm.dk<;>k_is)
  (case a16 => apply Sm.dk<;>k_is)
  (case a17 => apply Sm.dk<;>k_is)
  (case a18 => apply Sm.dk<;>k_is)
  (case a19 => apply Sm.dk<;>k_is)
  (case a20 => apply Sm.dk<;>k_is)
  (case a23 => apply Sm.dk<;>k_is)
  (case a25 => apply Sm.dk<;>k_is)
  (case a26 => apply Sm.dk<;>k_is)
  (case a29 => apply Sm.dk<;>k_is)
  (case a32 => apply Sm.dk<;>k_is)
  (case a34 => apply Sm.dk<;>k_is)
  (case a36 => apply Sm.dk<;>k_is)
  (case a37 => apply Sm.dk<;>k_is)
  (case a38 => apply Sm.dk<;>k_is)
  (case a39 => apply Sm.dk<;>k_is)
  (case a40 => apply Sm.dk<;>k_is)
  (case a41 => apply Sm.dk<;>k_is)
  (case a42 => apply Sm.dk<;>k_is)
  (case a43 => apply Sm.dk<;>k_is)
  (case a47 => apply Sm.dk<;>k_is)
  (case a48 => apply Sm.dk<;>k_is)
  (case a49 => apply Sm.dk<;>k_is)
  (case a50 => apply Sm.dk<;>k_is)
  (case a52 => apply Sm.dk<;>k_is)
  (case a53 => apply Sm.dk<;>k_is)
  (case a55 => apply Sm.dk<;>k_is)
  (case a56 => apply Sm.dk<;>k_is)
  (case a57 => apply Sm.dk<;>k_is)
  (case a60 => apply Sm.dk<;>k_is)
  (case a61 => apply Sm.dk<;>k_is)
  (case a62 => apply Sm.dk<;>k_is)
  (case a64 => apply Sm.dk<;>k_is)
  (case a65 => apply Sm.dk<;>k_is)
  (case kk0 => constructor<;>k_is)
  (case mk0 => k_is)
  (case kc0 => k_is)
  (case nf0_0 => apply Sm.fatt;k_is)
  (case nf0_1 => apply Sm.fatt;k_is)
  (case nf0_2 => apply Sm.fatt;k_is)
  (case nf0_3 => apply Sm.fatt;k_is)
  (case nf0_4 => apply Sm.fatt;k_is)
  (case nf0_5 => apply Sm.fatt;k_is)
  (case nf0_6 => apply Sm.fatt;k_is)
  (case nf0_7 => apply Sm.fatt;k_is)
  (case kk1 => constructor<;>k_is)
  (case mk1 => k_is)
  (case kc1 => k_is)
  (case nf1_0 => apply Sm.fatt;k_is)
  (case nf1_1 => apply Sm.fatt;k_is)
  (case nf1_2 => apply Sm.fatt;k_is)
  (case nf1_3 => apply Sm.fatt;k_is)
  (case z_abs => apply Sm.na;k_is)
  (case z_all => apply Sm.na;k_is)
  (case z_bool => apply Sm.na;k_is)
  (case z_dict => apply Sm.na;k_is)
  (case z_enumerate => apply Sm.na;k_is)
  (case z_int => apply Sm.na;k_is)
  (case z_isinstance => apply Sm.na;k_is)
  (case z_len => apply Sm.na;k_is)
  (case z_max => apply Sm.na;k_is)
  (case z_min => apply Sm.na;k_is)
  (case z_range => apply Sm.na;k_is)
  (case z_str => apply Sm.na;k_is)
  (case z_sum => apply Sm.na;k_is)
  (case m_LEAF_SIGNS => apply Sm.na;k_is)
  (case m_NAME_SIGNS => apply Sm.na;k_is)
  (case m_MOST_PLAIN => apply Sm.na;k_is)
  (case m_MOST_SIGNS => apply Sm.na;k_is)
