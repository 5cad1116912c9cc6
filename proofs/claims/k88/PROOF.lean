import PyProof.Rows.All
import Wide.All
import OpenK.AllK
import Wide.FinOn
import Lean
import PyProof.EqAt
import PyProof.EqKinds
import PyProof.TupleCall
import PyProof.StrCalls2
import PyProof.SumAny
import PyProof.Rows.Range3
import PyProof.StrBlockI
import PyProof.SliceStr2
import PyProof.IsRules
import PyProof.StrBlock2
import PyProof.StrLawsChain
import KE.KTops
import KE.KIntText
import PyProof.StrLawsIn
import PyProof.StrLawsReplace
import PyProof.Rows.ReprOcc
import PyProof.Rows.StrBin
import PyProof.StrLawsTight
import PySem.Challenge.RW_skeinwood_k88_texts_of_no_shelf
set_option Elab.async false
set_option bootstrap.genMatcherCode false
set_option compiler.extract_closed false
set_option linter.all false
set_option maxRecDepth 100000
noncomputable section
namespace L2
open PySem PySem.Spec PyProof.Rows
abbrev Key:=Sum Int Str
def ydM : Key -> Value -> Bool
 | .inl k,v=>Value.isInt k v
 | .inr x,v=>Value.isStrOf x v
def keyH (w : World) : Key -> Int
 | .inl k=>hashInt k
 | .inr x=>hashStr w x
theorem zas : ∀ {k : Key} {v : Value},ydM k v = true -> (∃ i t,k = Sum.inl i /\ v = Value.int i t) \/ (∃ x t,k = Sum.inr x /\ v = Value.str x t)
 | .inl i,v,h=>by
  obtain ⟨t,e⟩:=Value.isInt_shape (k:=i) (v:=v) h
  exact .inl ⟨i,t,rfl,e⟩
 | .inr x,v,h=>by
  obtain ⟨t,e⟩:=Value.isStrOf_shape (x:=x) (v:=v) h
  exact .inr ⟨x,t,rfl,e⟩
theorem zfE (i : Int) (t : Tok) : ydM (.inl i) (.int i t) = true:=by simp [ydM,Value.isInt]
theorem zfF (x : Str) (t : Tok) : ydM (.inr x) (.str x t) = true:=by simp [ydM,Value.isStrOf]
theorem ydV (a b : Int) : decide ((Sum.inl a : Key) = Sum.inl b) = (a == b):=by
 by_cases e : a = b
 ·subst e; simp
 ·have h : ¬ (Sum.inl a : Key) = Sum.inl b:=λq=>e (Sum.inl.inj q)
  rw [decide_eq_false h]
  exact (beq_eq_false_iff_ne.mpr e).symm
theorem ye2 (a b : Str) : decide ((Sum.inr a : Key) = Sum.inr b) = decide (a = b):=by
 by_cases e : a = b
 ·subst e; simp
 ·have h : ¬ (Sum.inr a : Key) = Sum.inr b:=λq=>e (Sum.inr.inj q)
  rw [decide_eq_false h,decide_eq_false e]
theorem yeu (a : Int) (b : Str) : decide ((Sum.inl a : Key) = Sum.inr b) = false:=decide_eq_false (λq=>nomatch q)
theorem yev (a : Str) (b : Int) : decide ((Sum.inr a : Key) = Sum.inl b) = false:=decide_eq_false (λq=>nomatch q)
def ybG (prog : Program) (w : World) : PySem.KeyKind prog w Key where
 is:=ydM
 hash:=keyH w
 inj:=λv a b ha hb=>by
  rcases zas ha with ⟨i,t,rfl,rfl⟩ | ⟨x,t,rfl,rfl⟩
  ·rcases zas hb with ⟨j,u,rfl,e⟩ | ⟨y,u,rfl,e⟩
   ·injection e with e1 _; rw [e1]
   ·exact nomatch e
  ·rcases zas hb with ⟨j,u,rfl,e⟩ | ⟨y,u,rfl,e⟩
   ·exact nomatch e
   ·injection e with e1 _; rw [e1]
 byValue:=λk v h=>by
  rcases zas h with ⟨i,t,rfl,rfl⟩ | ⟨x,t,rfl,rfl⟩<;>rfl
 pyHash:=λhv h=>by
  rcases zas hv with ⟨i,t,rfl,rfl⟩ | ⟨x,t,rfl,rfl⟩
  ·exact wpAny_pyHash_int h
  ·exact wpAny_pyHash_str h
 eqBool:=λhu hv h=>by
  rcases zas hu with ⟨i,t,rfl,rfl⟩ | ⟨x,t,rfl,rfl⟩
  ·rcases zas hv with ⟨j,u,rfl,rfl⟩ | ⟨y,u,rfl,rfl⟩
   ·rw [ydV] at h; exact wpAny_eqBool_int h
   ·rw [yeu] at h; exact SeqAt.EqAt.int_str i t y u _ _ _ _ h
  ·rcases zas hv with ⟨j,u,rfl,rfl⟩ | ⟨y,u,rfl,rfl⟩
   ·rw [yev] at h; exact SeqAt.EqAt.str_int x t j u _ _ _ _ h
   ·rw [ye2] at h; exact wpAny_eqBool_str h
 «strs» := λk x t v h=>by
  rcases zas h with ⟨i,u,rfl,e⟩ | ⟨y,u,rfl,e⟩
  ·exact nomatch e
  ·injection e with e1 _
   subst e1
   cases v<;>rfl
abbrev b01 (b : Bool) : Int:=if b then 1 else 0
def ycQ : Key -> Value -> Bool
 | .inl k,.bool b=>decide (k = b01 b)
 | .inl k,v=>Value.isInt k v
 | .inr x,v=>Value.isStrOf x v
theorem zal : ∀ {k : Key} {v : Value},ycQ k v = true -> (∃ i t,k = Sum.inl i /\ v = Value.int i t) \/ (∃ b,k = Sum.inl (b01 b) /\ v = Value.bool b) \/ (∃ x t,k = Sum.inr x /\ v = Value.str x t)
 | .inl i,v,h=>by
  cases v with
  | bool b=>exact .inr (.inl ⟨b,by rw [of_decide_eq_true (show decide (i = b01 b) = true from h)],rfl⟩)
  | int j t =>
   obtain ⟨t,e⟩:=Value.isInt_shape (k:=i) (v:=.int j t) h
   exact .inl ⟨i,t,rfl,e⟩
  | _=>exact absurd h (by simp [ycQ,Value.isInt])
 | .inr x,v,h=>by
  obtain ⟨t,e⟩:=Value.isStrOf_shape (x:=x) (v:=v) h
  exact .inr (.inr ⟨x,t,rfl,e⟩)
theorem zb1 {prog : Program} {w : World} {A : Around} {E : Value -> Shared -> Prop} {s : Shared} {b : Bool} {Q : Int -> Shared -> Prop} (h : Q (hashInt (b01 b)) { s with toks:=s.toks + 1 }) :
  wpAny (model prog w) A (pyHash (.bool b)) Q E s:=by
 unfold pyHash
 unfold pyHashByItsType
 have hv : [Value.bool b].any Value.onHeap = false:=rfl
 refine wpAny_bind ?_
 rw [cRoomFor,if_neg (by rw [hv]; exact Bool.false_ne_true)]; refine wpAny_pure ?_
 refine wpAny_bind (wpAny_specialOf (PySem.typeIs_bool s b) PySem.F.slot_bool_hash.lookup ?_)
 show wpAny _ _ (if (some (Value.builtin "int.__hash__") == some Value.none) = true then _ else _) Q E s
 rw [if_neg (by rw [beq_builtin_none]; exact Bool.false_ne_true)]
 refine wpAny_bind (wpAny_specialOf (PySem.typeIs_bool s b) PySem.F.slot_bool_hash.lookup ?_)
 show wpAny _ _ (callSpecialIfBoundUnlessNone? (.bool b) "__hash__" _ >>= _) Q E s
 cases b with
 | false =>
  refine wpAny_bind (wpAny_callSpecialIfBoundUnlessNone?_slot (PySem.typeIs_bool s false) PySem.F.slot_bool_hash
   (wpAny_call_entry PySem.F.slot_bool_hash (PySem.typeIs_bool s false) entry_int_hash
    (show wpAny _ _ (do ret (<- mkInt 0)) _ _ s from wpAny_ret_mkInt ?_) (args_int_hash _)))
  exact wpAny_pure h
 | true =>
  refine wpAny_bind (wpAny_callSpecialIfBoundUnlessNone?_slot (PySem.typeIs_bool s true) PySem.F.slot_bool_hash
   (wpAny_call_entry PySem.F.slot_bool_hash (PySem.typeIs_bool s true) entry_int_hash
    (show wpAny _ _ (do ret (<- mkInt 1)) _ _ s from wpAny_ret_mkInt ?_) (args_int_hash _)))
  exact wpAny_pure h
theorem zhB (a b : Bool) : (a == b) = decide ((Sum.inl (b01 a) : Key) = Sum.inl (b01 b)):=by cases a<;>cases b<;>decide
def ybE (prog : Program) (w : World) : PySem.KeyKind prog w Key where
 is:=ycQ
 hash:=keyH w
 inj:=λv a b ha hb=>by
  rcases zal ha with ⟨i,t,rfl,rfl⟩ | ⟨c,rfl,rfl⟩ | ⟨x,t,rfl,rfl⟩
  ·rcases zal hb with ⟨j,u,rfl,e⟩ | ⟨d,rfl,e⟩ | ⟨y,u,rfl,e⟩
   ·injection e with e1 _; rw [e1]
   ·exact nomatch e
   ·exact nomatch e
  ·rcases zal hb with ⟨j,u,rfl,e⟩ | ⟨d,rfl,e⟩ | ⟨y,u,rfl,e⟩
   ·exact nomatch e
   ·injection e with e1; rw [e1]
   ·exact nomatch e
  ·rcases zal hb with ⟨j,u,rfl,e⟩ | ⟨d,rfl,e⟩ | ⟨y,u,rfl,e⟩
   ·exact nomatch e
   ·exact nomatch e
   ·injection e with e1 _; rw [e1]
 byValue:=λk v h=>by
  rcases zal h with ⟨i,t,rfl,rfl⟩ | ⟨c,rfl,rfl⟩ | ⟨x,t,rfl,rfl⟩<;>rfl
 pyHash:=λhv h=>by
  rcases zal hv with ⟨i,t,rfl,rfl⟩ | ⟨c,rfl,rfl⟩ | ⟨x,t,rfl,rfl⟩
  ·exact wpAny_pyHash_int h
  ·exact zb1 h
  ·exact wpAny_pyHash_str h
 eqBool:=λhu hv h=>by
  rcases zal hu with ⟨i,t,rfl,rfl⟩ | ⟨c,rfl,rfl⟩ | ⟨x,t,rfl,rfl⟩
  ·rcases zal hv with ⟨j,u,rfl,rfl⟩ | ⟨d,rfl,rfl⟩ | ⟨y,u,rfl,rfl⟩
   ·rw [ydV] at h; exact wpAny_eqBool_int h
   ·rw [ydV] at h; exact SeqAt.EqAt.int_bool i t d _ _ _ _ h
   ·rw [yeu] at h; exact SeqAt.EqAt.int_str i t y u _ _ _ _ h
  ·rcases zal hv with ⟨j,u,rfl,rfl⟩ | ⟨d,rfl,rfl⟩ | ⟨y,u,rfl,rfl⟩
   ·rw [ydV] at h; exact SeqAt.EqAt.bool_int c j u _ _ _ _ h
   ·rw [<- zhB] at h; exact SeqAt.EqAt.bool_bool c d _ _ _ _ h
   ·rw [yeu] at h; exact SeqAt.EqAt.bool_str c y u _ _ _ _ h
  ·rcases zal hv with ⟨j,u,rfl,rfl⟩ | ⟨d,rfl,rfl⟩ | ⟨y,u,rfl,rfl⟩
   ·rw [yev] at h; exact SeqAt.EqAt.str_int x t j u _ _ _ _ h
   ·rw [yev] at h; exact SeqAt.EqAt.str_bool x t d _ _ _ _ h
   ·rw [ye2] at h; exact wpAny_eqBool_str h
 «strs» := λk x t v h=>by
  rcases zal h with ⟨i,u,rfl,e⟩ | ⟨d,rfl,e⟩ | ⟨y,u,rfl,e⟩
  ·exact nomatch e
  ·exact nomatch e
  ·injection e with e1 _
   subst e1
   cases v<;>rfl
theorem zdA (prog : Program) (w : World) (i : Int) (t : Tok) : (ybE prog w).is (.inl i) (.int i t) = true:=by show ycQ (.inl i) (.int i t) = true; simp [ycQ,Value.isInt]
theorem zdB (prog : Program) (w : World) (x : Str) (t : Tok) : (ybE prog w).is (.inr x) (.str x t) = true:=by show ycQ (.inr x) (.str x t) = true; simp [ycQ,Value.isStrOf]
theorem zeg (prog : Program) (w : World) (i : Int) (t : Tok) : (ybG prog w).is (.inl i) (.int i t) = true:=zfE i t
theorem zeh (prog : Program) (w : World) (x : Str) (t : Tok) : (ybG prog w).is (.inr x) (.str x t) = true:=zfF x t
end L2
namespace L2
open PySem PySem.Spec PyProof.Rows
inductive V where
 | non | bl (b : Bool) | int (i : Int) | str (x : Str) | byt (b : Array UInt8) | flt (b : UInt64) | ref (a : Addr) | ty (n : String)
 deriving DecidableEq
def RelV : V -> Value -> Prop
 | .non,u=>u = Value.none
 | .bl b,u=>u = Value.bool b
 | .int i,u=>∃ t,u = Value.int i t
 | .str x,u=>∃ t,u = Value.str x t
 | .byt b,u=>∃ t,u = Value.bytes b t
 | .flt b,u=>∃ t,u = Value.float b t
 | .ref a,u=>u = Value.ref a
 | .ty n,u=>u = Value.type n
abbrev Vals : List V -> List Value -> Prop:=Paired RelV
theorem Vals.length {xs : List V} {us : List Value} (r : Vals xs us) : xs.length = us.length:=Paired.length r
theorem Vals.get : ∀ {xs : List V} {us : List Value} {i : Nat} {x : V},Vals xs us -> xs[i]? = some x -> ∃ u,us[i]? = some u /\ RelV x u
 | _,_,_,_,.nil,e=>by simp at e
 | _,_,0,_,.cons r _,e=>by simp at e; subst e; exact ⟨_,rfl,r⟩
 | _,_,i + 1,x,.cons _ t,e=>by
  obtain ⟨u,h1,h2⟩:=Vals.get (i:=i) (x:=x) t (by simpa using e)
  exact ⟨u,by simpa using h1,h2⟩
theorem Vals.set {x : V} {u : Value} (r : RelV x u) : ∀ {xs : List V} {us : List Value} (i : Nat),Vals xs us -> Vals (xs.set i x) (us.set i u)
 | _,_,_,.nil=>.nil
 | _,_,0,.cons _ t=>.cons r t
 | _,_,i + 1,.cons q t=>.cons q (Vals.set r i t)
theorem Vals.append : ∀ {xs ys : List V} {us ws : List Value},Vals xs us -> Vals ys ws -> Vals (xs++ys) (us++ws)
 | _,_,_,_,.nil,s=>s
 | _,_,_,_,.cons r t,s=>.cons r (Vals.append t s)
theorem Vals.take : ∀ {xs : List V} {us : List Value} (n : Nat),Vals xs us -> Vals (xs.take n) (us.take n)
 | _,_,0,_=>.nil
 | _,_,_ + 1,.nil=>.nil
 | _,_,n + 1,.cons r t=>.cons r (Vals.take n t)
theorem Vals.drop : ∀ {xs : List V} {us : List Value} (n : Nat),Vals xs us -> Vals (xs.drop n) (us.drop n)
 | _,_,0,r=>r
 | _,_,_ + 1,.nil=>.nil
 | _,_,n + 1,.cons _ t=>Vals.drop n t
def RelO : Option V -> Option Value -> Prop
 | some v,some u=>RelV v u
 | none,none=>True
 | _,_=>False
def KV {κ : Type} : List (κ × V) -> List (κ × Value) -> Prop:=Paired λ(p : κ × V) (q : κ × Value)=>p.1 = q.1 /\ RelV p.2 q.2
def kV : Key -> V
 | .inl i=>.int i
 | .inr x=>.str x
def kOf : V -> Option Key
 | .int i=>some (.inl i)
 | .bl b=>some (.inl (b01 b))
 | .str x=>some (.inr x)
 | _=>none
theorem ygb (k : Key) : kOf (kV k) = some k:=by cases k<;>rfl
inductive HO where
 | lst (xs : List V)
 | tup (xs : List V)
 | dK (kvs : List (Key × V)) | dT (xc : Option (List Addr)) (kvs : List (List Key × V))
 | set (S : Int -> Bool) (n : Nat)
 | ins (C dx : Addr) (fs : List (Str × V))
 | own (x : Addr)
 | xd (fs : List (Str × V))
 | met (f x : Addr)
 | rng (lo hi : Int)
 | frz (o : Obj) (u : HO)
 | tbl (ps : Array Value)
 | ext (φ : Heap -> Prop)
abbrev Hp:=Addr -> Option HO
def upd (H : Hp) (a : Addr) (o : HO) : Hp:=λb=>if b = a then some o else H b
theorem zac {H : Hp} {a : Addr} {o : HO} : upd H a o a = some o:=by unfold upd; rw [if_pos rfl]
theorem yak {H : Hp} {a b : Addr} {o : HO} (h : b ≠ a) : upd H a o b = H b:=by unfold upd; rw [if_neg h]
theorem zhC {H : Hp} {a : Addr} {o u : HO} : upd (upd H a o) a u = upd H a u:=by
 funext b; unfold upd; split<;>rfl
theorem yhB {H : Hp} {a b : Addr} {o u : HO} (h : H a = some o) (h' : H b = some u) (d : o ≠ u) : a ≠ b:=by
 intro e; subst e; rw [h] at h'; exact d (Option.some.inj h')
theorem zag {H : Hp} {a b : Addr} {o : HO} (h : H a = some o) (h' : H b = none) : a ≠ b:=by
 intro e; subst e; rw [h] at h'; cases h'
section
variable (P : Program) (w : World)
def ObjOk (H : Hp) (h : Heap) (a : Addr) : HO -> Prop
 | .lst xs=>xs.length <= sizeLine /\ ∃ (its : List Value) (n : Nat),Vals xs its /\ h.get? a = some { cls:=.type "list",data:=.seq its.toArray n }
 | .tup xs=>xs.length <= sizeLine /\ ∃ its : List Value,Vals xs its /\ IsTup h a its.toArray
 | .dK kvs=>kvs.length <= sizeLine /\ (a == sysModules) = false /\ ∃ vs,KV kvs vs /\ h.DictOf (ybG P w) a vs
 | .dT xc kvs=>kvs.length <= sizeLine /\ (a == sysModules) = false /\ ∃ xs : List (List Key × Addr × Value),
   Paired (λ(p : List Key × V) (q : List Key × Addr × Value)=>p.1 = q.1 /\ (∃ ys,H q.2.1 = some (.tup ys) /\ ys.map kOf = p.1.map some) /\ RelV p.2 q.2.2) kvs xs /\
   ∃ o es ep,h.get? a = some o /\ o.ExactDict /\ o.data = .dict es ep /\ es.toList = xs.map (entryOfKey (tupleKind (ybE P w))) /\ (xs.map (·.1)).Nodup /\ ep = xs.length /\ ∀ as,xc = some as -> xs.map (·.2.1) = as
 | .set S n=>h.SetOf (intKind P w) a S n
 | .ins C dx fs=>H dx = some (.own a) /\ fs.length <= 1000 /\ dx ≠ a /\ h.get? a = some (PySem.W.instObj C dx) /\
   ∃ mA,h.Ns1 dx mA /\ (∀ f,RelO (fs.lookup f) (mA f)) /\ PySem.Within mA (fs.map (·.1))
 | .own _=>∃ o,h.get? a = some o
 | .xd fs=>∃ mA,h.Ns1 a mA /\ ∀ f,RelO (fs.lookup f) (mA f)
 | .rng lo hi=>∃ t u v,h.get? a = some { cls:=.type "range",data:=.fields #[.int lo t,.int hi u,.int 1 v] }
 | .frz o u=>h.get? a = some o /\ ObjOk H h a u
 | .tbl ps=>h.get? a = some { cls:=.none,data:=.fields ps }
 | .met f x=>h.get? a = some (PySem.W.methodObj (.ref f) (.ref x))
 | .ext φ=>φ h /\ (∃ o,h.get? a = some o) /\ ∀ h1 h2 : Heap,φ h1 -> (∀ o,h1.get? a = some o -> h2.get? a = some o) -> φ h2
def HOk (H : Hp) (h : Heap) : Prop:=∀ a o,H a = some o -> ObjOk P w H h a o
end
section
variable {P : Program} {w : World} {H H' : Hp} {h h' : Heap} {a : Addr} {o : HO}
theorem ObjOk.lt (x : ObjOk P w H h a o) : a < h.objs.size:=by
 cases o with
 | lst xs=>obtain ⟨_,_,_,_,e⟩:=x; exact Heap.lt_size e
 | tup xs=>obtain ⟨_,_,_,p⟩:=x; exact p.lt
 | dK kvs=>obtain ⟨_,_,_,_,o,_,_,e,_⟩:=x; exact Heap.lt_size e
 | dT xc kvs=>obtain ⟨_,_,_,_,o,_,_,e,_⟩:=x; exact Heap.lt_size e
 | set S n=>obtain ⟨o,_,_,_,e,_⟩:=x; exact Heap.lt_size e
 | ins C dx fs=>obtain ⟨_,_,_,e,_⟩:=x; exact Heap.lt_size e
 | own y=>obtain ⟨_,e⟩:=x; exact Heap.lt_size e
 | xd fs=>obtain ⟨_,⟨_,_,_,e,_⟩,_⟩:=x; exact Heap.lt_size e
 | rng lo hi=>obtain ⟨_,_,_,e⟩:=x; exact Heap.lt_size e
 | frz ob u=>obtain ⟨e,_⟩:=x; exact Heap.lt_size e
 | tbl ps=>exact Heap.lt_size (show h.get? a = some _ from x)
 | met f y=>exact Heap.lt_size (show h.get? a = some _ from x)
 | ext φ=>obtain ⟨_,⟨_,e⟩,_⟩:=x; exact Heap.lt_size e
theorem Paired.mapP {α β : Type} {F G : α -> β -> Prop} : ∀ {l₁ : List α} {l₂ : List β},Paired F l₁ l₂ -> (∀ a b,F a b -> G a b) -> Paired G l₁ l₂
 | _,_,.nil,_=>.nil
 | _,_,.cons r t,f=>.cons (f _ _ r) (Paired.mapP t f)
theorem ObjOk.stay (x : ObjOk P w H h a o) (k : ∀ b u,(b = a \/ H b = some (.own a)) -> h.get? b = some u -> h'.get? b = some u)
  (ho : ∀ b,H b = some (.own a) -> H' b = some (.own a)) (ht : ∀ b xs,H b = some (.tup xs) -> H' b = some (.tup xs)) : ObjOk P w H' h' a o:=by
 induction o with
 | lst xs=>obtain ⟨z,its,n,r,e⟩:=x; exact ⟨z,its,n,r,k _ _ (.inl rfl) e⟩
 | tup xs=>obtain ⟨z,its,r,ob,e,c⟩:=x; exact ⟨z,its,r,ob,k _ _ (.inl rfl) e,c⟩
 | dK kvs=>obtain ⟨z,y,vs,r,ob,es,ep,e,c⟩:=x; exact ⟨z,y,vs,r,ob,es,ep,k _ _ (.inl rfl) e,c⟩
 | dT xc kvs =>
  obtain ⟨z,y,xs,r,ob,es,ep,e,c⟩:=x
  exact ⟨z,y,xs,Paired.mapP r λp q z=>⟨z.1,z.2.1.imp λ_ e=>⟨ht _ _ e.1,e.2⟩,z.2.2⟩,ob,es,ep,k _ _ (.inl rfl) e,c⟩
 | set S n=>obtain ⟨ob,es,ep,t,e,c⟩:=x; exact ⟨ob,es,ep,t,k _ _ (.inl rfl) e,c⟩
 | ins C dx fs =>
  obtain ⟨d,z,ne,e,mA,⟨od,es,ep,e2,c⟩,r⟩:=x
  exact ⟨ho _ d,z,ne,k _ _ (.inl rfl) e,mA,⟨od,es,ep,k _ _ (.inr d) e2,c⟩,r⟩
 | own y=>obtain ⟨ob,e⟩:=x; exact ⟨ob,k _ _ (.inl rfl) e⟩
 | xd fs=>obtain ⟨mA,⟨od,es,ep,e,c⟩,r⟩:=x; exact ⟨mA,⟨od,es,ep,k _ _ (.inl rfl) e,c⟩,r⟩
 | rng lo hi=>obtain ⟨t,u,v,e⟩:=x; exact ⟨t,u,v,k _ _ (.inl rfl) e⟩
 | frz ob u ih=>obtain ⟨e,q⟩:=x; exact ⟨k _ _ (.inl rfl) e,ih q⟩
 | tbl ps =>
  have e : h.get? a = some { cls:=.none,data:=.fields ps }:=x
  show h'.get? a = some { cls:=.none,data:=.fields ps }
  exact k a _ (.inl rfl) e
 | met f y =>
  have e : h.get? a = some (PySem.W.methodObj (.ref f) (.ref y)):=x
  show h'.get? a = some (PySem.W.methodObj (.ref f) (.ref y))
  exact k a _ (.inl rfl) e
 | ext φ=>obtain ⟨p,⟨o,e⟩,st⟩:=x; exact ⟨st _ _ p λo q=>k _ _ (.inl rfl) q,⟨o,k _ _ (.inl rfl) e⟩,st⟩
theorem HOk.lt (x : HOk P w H h) (e : H a = some o) : a < h.objs.size:=(x a o e).lt
theorem HOk.fresh (x : HOk P w H h) (e : h.objs.size <= a) : H a = none:=by
 cases q : H a with
 | none=>rfl
 | some u=>exact absurd (Nat.lt_of_lt_of_le (x.lt q) e) (Nat.lt_irrefl _)
theorem HOk.kept (x : HOk P w H h) (k : ∀ b u,h.get? b = some u -> h'.get? b = some u) : HOk P w H h' := λa o e =>
 (x a o e).stay (λb u _ q=>k b u q) (λ_ q=>q) λ_ _ q=>q
theorem HOk.laid (x : HOk P w H h) (k : ∀ b u,h.get? b = some u -> h'.get? b = some u) (hp : h.objs.size <= a) (new : ObjOk P w (upd H a o) h' a o) : HOk P w (upd H a o) h' := λb u e=>by
 have hn:=x.fresh hp
 by_cases hb : b = a
 ·subst hb; rw [zac] at e; cases e; exact new
 ·rw [yak hb] at e
  exact (x b u e).stay (λc v _ q=>k c v q) (λc q=>by rw [yak (zag q hn)]; exact q) λc xs q=>by rw [yak (zag q hn)]; exact q
end
def Rd (H : Hp) (a : Addr) (u : HO) : Prop:=H a = some u \/ ∃ o,H a = some (.frz o u)
theorem Rd.ok {P : Program} {w : World} {H : Hp} {h : Heap} {a : Addr} {u : HO} (r : Rd H a u) (x : HOk P w H h) : ObjOk P w H h a u:=by
 rcases r with r | ⟨o,r⟩
 ·exact x a u r
 ·obtain ⟨_,q⟩:=x a _ r
  exact q
def Mut : Option HO -> Prop
 | some (.lst _)=>True
 | some (.dK _)=>True
 | some (.dT _ _)=>True
 | some (.set _ _)=>True
 | some (.ins _ _ _)=>True
 | some (.ext _)=>True
 | _=>False
section
variable {P : Program} {w : World} {H : Hp} {h h' : Heap} {x e : Addr} {o' : HO}
theorem HOk.write (ok : HOk P w H h) (mu : Mut (H x)) (he : e = x \/ H e = some (.own x)) (k : ∀ b u,b ≠ e -> h.get? b = some u -> h'.get? b = some u) (heo : ∃ u,h'.get? e = some u)
  (new : ObjOk P w (upd H x o') h' x o') : HOk P w (upd H x o') h' := λb u q=>by
 have nown : ∀ c y,H c = some (.own y) -> c ≠ x:=λc y r z=>by subst z; rw [r] at mu; exact mu
 have ntup : ∀ c xs,H c = some (.tup xs) -> c ≠ x:=λc xs r z=>by subst z; rw [r] at mu; exact mu
 by_cases hb : b = x
 ·subst hb; rw [zac] at q; cases q; exact new
 ·rw [yak hb] at q
  by_cases hbe : b = e
  ·have q' : H b = some (.own x):=by
    rcases he with z | z
    ·exact absurd (hbe.trans z) hb
    ·rw [hbe]; exact z
   rw [q] at q'; cases q'
   obtain ⟨v,hv⟩:=heo
   exact ⟨v,by rw [hbe]; exact hv⟩
  ·refine (ok b u q).stay (λc v hc r=>k c v ?_ r) (λc r=>by rw [yak (nown c b r)]; exact r) λc xs r=>by rw [yak (ntup c xs r)]; exact r
   rcases hc with rfl | hc
   ·exact hbe
   ·rintro rfl
    rcases he with z | z
    ·exact nown c b hc z
    ·rw [hc] at z; cases z; exact hb rfl
end
structure Un (fs ex : List Addr) (H H' : Hp) (h h' : Heap) : Prop where
 keep : ∀ b o,h.get? b = some o -> H b = none -> b ∉ fs -> b ∉ ex -> h'.get? b = some o
 slot : ∀ b o,h.get? b = some o -> H b = none -> b ∈ fs -> b ∉ ex -> ∃ sl,h'.get? b = some { o with slots:=sl }
 free : ∀ b o,h.get? b = some o -> H b = none -> b ∉ ex -> H' b = none
 there : ∀ b o,h.get? b = some o -> b ∉ ex -> ∃ o',h'.get? b = some o'
 tups : ∀ b xs,H b = some (.tup xs) -> H' b = some (.tup xs)
 frzs : ∀ b o u,H b = some (.frz o u) -> H' b = some (.frz o u)
 tbls : ∀ b ps,H b = some (.tbl ps) -> ∃ more,H' b = some (.tbl (ps++more))
section
variable {fs fs' ex ex' : List Addr} {H H1 H2 : Hp} {h h1 h2 h' : Heap} {a x e : Addr} {o : HO}
theorem Un.any (u : Un fs ex H H1 h h1) {b : Addr} {ob : Obj} (q : h.get? b = some ob) (n : H b = none) (hx : b ∉ ex) : ∃ sl,h1.get? b = some { ob with slots:=sl }:=by
 by_cases hb : b ∈ fs
 ·exact u.slot b ob q n hb hx
 ·exact ⟨ob.slots,u.keep b ob q n hb hx⟩
theorem Un.kept (k : ∀ b u,h.get? b = some u -> h'.get? b = some u) : Un fs ex H H h h' :=
 ⟨λb ob q _ _ _=>k b ob q,λb ob q _ _ _=>⟨ob.slots,k b ob q⟩,λ_ _ _ n _=>n,λb ob q _=>⟨ob,k b ob q⟩,λ_ _ q=>q,λ_ _ _ q=>q,λ_ ps q=>⟨#[],by rw [q]; simp⟩⟩
theorem Un.refl : Un fs ex H H h h:=Un.kept λ_ _ q=>q
theorem Un.laid (k : ∀ b u,h.get? b = some u -> h'.get? b = some u) (hp : h.objs.size <= a) (hn : H a = none) : Un fs ex H (upd H a o) h h' where
 keep:=λb u q _ _ _=>k b u q
 slot:=λb u q _ _ _=>⟨u.slots,k b u q⟩
 free:=λb u q n _=>by rw [yak (Nat.ne_of_lt (Nat.lt_of_lt_of_le (Heap.lt_size q) hp))]; exact n
 there:=λb u q _=>⟨u,k b u q⟩
 tups:=λb xs q=>by rw [yak (zag q hn)]; exact q
 frzs:=λb u xs q=>by rw [yak (zag q hn)]; exact q
 tbls:=λb ps q=>⟨#[],by rw [yak (zag q hn),q]; simp⟩
theorem Un.write (mu : Mut (H x)) (he : e = x \/ H e = some (.own x)) (k : ∀ b u,b ≠ e -> h.get? b = some u -> h'.get? b = some u) (heo : ∃ u,h'.get? e = some u) : Un fs ex H (upd H x o) h h' := by
 have hx : ∀ b,H b = none -> b ≠ x:=λb n z=>by subst z; rw [n] at mu; exact mu
 have hb : ∀ b,H b = none -> b ≠ e:=λb n z=>by
  subst z
  rcases he with r | r
  ·exact hx b n r
  ·rw [n] at r; cases r
 have hm : ∀ b u,H b = some u -> ¬ Mut (some u) -> b ≠ x:=λb u q nm z=>by subst z; rw [q] at mu; exact nm mu
 refine ⟨λb u q n _ _=>k b u (hb b n) q,λb u q n _ _=>⟨u.slots,k b u (hb b n) q⟩,λb u q n _=>by rw [yak (hx b n)]; exact n,λb u q _=>?_,
  λb xs q=>by rw [yak (hm b _ q λz=>z)]; exact q,λb u xs q=>by rw [yak (hm b _ q λz=>z)]; exact q,λb ps q=>⟨#[],by rw [yak (hm b _ q λz=>z),q]; simp⟩⟩
 by_cases hbe : b = e
 ·subst hbe; exact heo
 ·exact ⟨u,k b u hbe q⟩
end
def trk (h : Heap) (H : Hp) : List Addr:=(List.range h.objs.size).filter λa=>(H a).isSome
def hidT (h : Heap) (H : Hp) : Heap:=PySem.W.hideAll h (trk h H)
theorem zfG (h : Heap) (H : Hp) : (hidT h H).objs.size = h.objs.size:=PySem.W.hideAll_size _ _
theorem zgF {h : Heap} {H : Hp} {b : Addr} {o : Obj} (e : h.get? b = some o) (n : H b = none) : (hidT h H).get? b = some o :=
 PySem.W.hideAll_get _ e λhm=>by
  have q : (H b).isSome = true:=(List.mem_filter.mp hm).2
  rw [n] at q; simp at q
theorem zhD {h : Heap} {H : Hp} {b : Addr} {o : Obj} (e : (hidT h H).get? b = some o) : h.get? b = some o /\ H b = none:=by
 have e' : h.get? b = some o:=PySem.W.of_hideAll (trk h H) e
 refine ⟨e',?_⟩
 cases q : H b with
 | none=>rfl
 | some x =>
  have hm : b ∈ trk h H:=List.mem_filter.mpr ⟨List.mem_range.mpr (Heap.lt_size e'),by simp [q]⟩
  have z : (hidT h H).get? b = none:=PySem.W.hideAll_none (trk h H) hm
  rw [z] at e; cases e
end L2
namespace L2
open PySem PySem.Spec PyProof.Rows
structure Mod (K : PySem.W.Frag) (mg : Str -> Option Value) (base : Heap) : Prop where
 kin : K.In base
 glob : base.Ns mainGlobals mg
 blt : ∃ mb,base.Ns builtinsNs mb /\ ∀ x : Str,x ≠ "__name__" -> mb x = bootBuiltins x
 nolimit : base.NoLimit
structure Cx where
 prog : Program
 w : World
 K : PySem.W.Frag
 mg : Str -> Option Value
 base : Heap
 A : Around
 N : List Str
 s₀ : Shared
 H₀ : Hp
 env : Env
 outer : List Env
 stack : List Env
 ex : List Addr
 fn : Str -> Bool
 calm : Bool
 pn : List (Addr × Obj)
 xe : Value -> Shared -> Prop
def frs (l : List Env) : List Addr:=l.filterMap (·.frame)
abbrev Cx.fs (X : Cx) : List Addr:=frs X.outer
def Vis (sc : Scope) (x : Str) : Prop:=sc.names.lookup x = some .local \/ sc.names.lookup x = some .cell \/ sc.names.lookup x = some .free
def Loc (sc : Scope) (x : Str) : Prop:=sc.names.lookup x = some .local \/ sc.names.lookup x = some .cell
def Look (env : Env) (h : Heap) (m : Str -> Option Value) (x : Str) (u : Value) : Prop :=
 (env.kindOf x = some .local /\ m x = some u) \/ ((env.kindOf x = some .cell \/ env.kindOf x = some .free) /\ ∃ c,env.cells.lookup x = some c /\ h.IsCell c (some u))
structure Cx.Ok (X : Cx) : Prop where
 mod : Mod X.K X.mg X.base
 kind : X.env.scope.kind = .function
 glob : X.env.globals = mainGlobals
 blt : X.env.builtins = builtinsNs
 above : X.s₀.heap.objs.size <= X.env.locals
 inj : ∀ x y c,X.env.cells.lookup x = some c -> X.env.cells.lookup y = some c -> x = y
 has : ∀ x,(X.env.kindOf x = some .cell \/ X.env.kindOf x = some .free) -> ∃ c,X.env.cells.lookup x = some c
 cab : ∀ x c,X.fn x = true -> X.env.cells.lookup x = some c -> X.s₀.heap.objs.size <= c
 hd : X.calm = true -> X.A.handled = none
 frames : X.A.frames = some X.stack
 stk : X.stack = X.outer \/ (X.stack = X.env :: X.outer /\ X.env.frame = some X.env.locals)
 exf : ∀ b ∈ X.ex,b ≠ X.env.locals /\ ∀ x c,X.env.cells.lookup x = some c -> c ≠ b
 bs : ∀ b o,X.base.get? b = some o -> X.s₀.heap.get? b = some o /\ X.H₀ b = none
 bsz : X.base.objs.size <= X.s₀.heap.objs.size
 noex : ∀ b o,X.base.get? b = some o -> b ∉ X.ex
 exfs : ∀ b ∈ X.ex,b ∉ X.fs
 funs : X.s₀.heap.FunFrames X.base X.outer
 frf : ∀ b ∈ X.fs,X.H₀ b = none
structure Inv (X : Cx) (pins : List (Addr × Obj)) (σ : List (Option V)) (H : Hp) (s : Shared) : Prop where
 ok : X.Ok
 os : s.os = X.s₀.os
 bare : AllBare s.gens
 base : Un X.fs X.ex X.H₀ H X.s₀.heap s.heap
 loc : ∃ m,s.heap.Ns X.env.locals m /\ ∀ (i : Nat) (x : Str) (v : V),X.N[i]? = some x -> σ[i]? = some (some v) -> Vis X.env.scope x -> ∃ u,RelV v u /\ Look X.env s.heap m x u
 cell : ∀ x c,X.env.cells.lookup x = some c -> ∃ v,s.heap.IsCell c v
 free : H X.env.locals = none
 freeC : ∀ x c,X.env.cells.lookup x = some c -> H c = none
 pin : ∀ p ∈ X.pn++pins,s.heap.get? p.1 = some p.2 /\ H p.1 = none /\ p.1 ≠ X.env.locals /\ p.1 ∉ X.fs /\ ∀ v,p.2.data ≠ .cell v
 hok : HOk X.prog X.w H s.heap
 len : σ.length = X.N.length
section
variable {X : Cx} {pins : List (Addr × Obj)} {σ : List (Option V)} {H H' : Hp} {s : Shared} {h' : Heap}
theorem Cx.Ok.nofr (ok : X.Ok) {b : Addr} {o : Obj} (e : X.base.get? b = some o) : b ∉ X.fs:=λhb=>by
 have:=(ok.funs.mem hb).1
 rw [e] at this; cases this
theorem Inv.bs (I : Inv X pins σ H s) : ∀ b o,X.base.get? b = some o -> s.heap.get? b = some o /\ H b = none:=λb o e =>
 ⟨I.base.keep b o (I.ok.bs b o e).1 (I.ok.bs b o e).2 (I.ok.nofr e) (I.ok.noex b o e),I.base.free b o (I.ok.bs b o e).1 (I.ok.bs b o e).2 (I.ok.noex b o e)⟩
theorem Inv.bk (I : Inv X pins σ H s) : ∀ b o,X.base.get? b = some o -> s.heap.get? b = some o:=λb o e=>(I.bs b o e).1
theorem Inv.mod (I : Inv X pins σ H s) : Mod X.K X.mg X.base:=I.ok.mod
theorem Inv.kIn (I : Inv X pins σ H s) : X.K.In s.heap:=I.ok.mod.kin.keeps I.bk
theorem Inv.fr (I : Inv X pins σ H s) : ∃ m,Fr X.base X.env.locals s.heap m :=
 let ⟨m,hn,_⟩:=I.loc
 ⟨m,hn,I.bk,Nat.le_trans I.ok.bsz I.ok.above⟩
theorem Inv.lt (I : Inv X pins σ H s) : X.env.locals < s.heap.objs.size:=let ⟨_,hn,_⟩:=I.loc; hn.lt
theorem Inv.sz (I : Inv X pins σ H s) : X.s₀.heap.objs.size <= s.heap.objs.size:=Nat.le_trans I.ok.above (Nat.le_of_lt I.lt)
theorem Inv.nofs (I : Inv X pins σ H s) {a : Addr} (h : s.heap.objs.size <= a) : a ∉ X.fs:=λhb=>by
 obtain ⟨_,o,ho,_⟩:=I.ok.funs.mem hb
 exact absurd (Nat.lt_of_lt_of_le (Heap.lt_size ho) (Nat.le_trans I.sz h)) (Nat.lt_irrefl _)
theorem Inv.cne (I : Inv X pins σ H s) : ∀ x c,X.env.cells.lookup x = some c -> c ≠ X.env.locals:=λx c e z=>by
 obtain ⟨v,o,ho,hd⟩:=I.cell x c e
 obtain ⟨m,⟨o',es,ep,ho',hd',_⟩,_⟩:=I.loc
 rw [z,ho'] at ho; cases ho; rw [hd'] at hd; cases hd
theorem Inv.funs (I : Inv X pins σ H s) : s.heap.FunFrames X.base X.outer:=by
 have all : ∀ (l : List Env),(∀ b ∈ frs l,b ∈ X.fs) -> X.s₀.heap.FunFrames X.base l -> s.heap.FunFrames X.base l:=by
  intro l
  induction l with
  | nil=>intro _ _; trivial
  | cons env r ih =>
   intro hs hl
   obtain ⟨hk,⟨L,o,hf,hn,ho,hd⟩,hr⟩:=hl
   have hL : L ∈ X.fs:=hs L (by unfold frs; rw [List.filterMap_cons,hf]; exact List.mem_cons_self)
   obtain ⟨sl,e⟩:=I.base.slot L o ho (I.ok.frf L hL) hL λz=>I.ok.exfs L z hL
   exact ⟨hk,⟨L,_,hf,hn,e,hd⟩,ih (λb hb=>hs b (by unfold frs; rw [List.filterMap_cons,hf]; exact List.mem_cons_of_mem _ hb)) hr⟩
 exact all X.outer (λ_ hb=>hb) I.ok.funs
theorem Inv.stack (I : Inv X pins σ H s) : s.heap.FunFrames X.base X.stack:=by
 rcases I.ok.stk with e | ⟨e,hf⟩
 ·rw [e]; exact I.funs
 ·rw [e]
  obtain ⟨m,hn,_⟩:=I.loc
  refine .cons (by rw [I.ok.kind]; decide) hf hn ?_ I.funs
  exact Heap.get?_none_of_le (Nat.le_trans I.ok.bsz I.ok.above)
theorem Inv.stkSub (I : Inv X pins σ H s) : ∀ b ∈ frs X.stack,b ∈ X.env.locals :: X.fs:=λb hb=>by
 rcases I.ok.stk with e | ⟨e,hf⟩
 ·rw [e] at hb; exact List.mem_cons_of_mem _ hb
 ·rw [e] at hb
  unfold frs at hb
  rw [List.filterMap_cons,hf] at hb
  exact hb
theorem Inv.stkFree (I : Inv X pins σ H s) : ∀ b ∈ frs X.stack,H b = none:=λb hb=>by
 rcases List.mem_cons.mp (I.stkSub b hb) with e | hb
 ·rw [e]; exact I.free
 ·obtain ⟨_,o,ho,_⟩:=I.ok.funs.mem hb
  exact I.base.free b o ho (I.ok.frf b hb) λz=>I.ok.exfs b z hb
theorem Inv.step {g' : Array GenState} {t' : Nat} {d' : Drawn} {ch : List Addr} (I : Inv X pins σ H s)
  (hch : ∀ b ∈ ch,(b ∈ X.ex \/ X.s₀.heap.objs.size <= b) /\ b ≠ X.env.locals /\ (∀ x c,X.env.cells.lookup x = some c -> c ≠ b) /\ ∀ p ∈ X.pn++pins,p.1 ≠ b)
  (keep : ∀ b o,b ≠ X.env.locals -> b ∉ X.fs -> b ∉ ch -> s.heap.get? b = some o -> H b = none -> h'.get? b = some o)
  (slot : ∀ b o,b ≠ X.env.locals -> b ∈ X.fs -> b ∉ ch -> s.heap.get? b = some o -> H b = none -> ∃ sl,h'.get? b = some { o with slots:=sl }) (free : ∀ b o,b ∉ ch -> s.heap.get? b = some o -> H b = none -> H' b = none)
  (there : ∀ b o,b ∉ ch -> s.heap.get? b = some o -> ∃ o',h'.get? b = some o')
  (tups : ∀ b xs,H b = some (.tup xs) -> H' b = some (.tup xs)) (frzs : ∀ b o u,H b = some (.frz o u) -> H' b = some (.frz o u)) (tbls : ∀ b ps,H b = some (.tbl ps) -> ∃ more,H' b = some (.tbl (ps++more)))
  (ns : ∀ m,s.heap.Ns X.env.locals m -> h'.Ns X.env.locals m) (hok : HOk X.prog X.w H' h') (hg : AllBare g') :
  Inv X pins σ H' { s with heap:=h',gens:=g',drawn:=d',toks:=t' }:=by
 have neL : ∀ b o,X.s₀.heap.get? b = some o -> b ≠ X.env.locals:=λb o e=>Nat.ne_of_lt (Nat.lt_of_lt_of_le (Heap.lt_size e) I.ok.above)
 have neC : ∀ b o,X.s₀.heap.get? b = some o -> b ∉ X.ex -> b ∉ ch:=λb o e hx hb=>by
  rcases (hch b hb).1 with z | z
  ·exact hx z
  ·exact absurd (Nat.lt_of_lt_of_le (Heap.lt_size e) z) (Nat.lt_irrefl _)
 have cellK : ∀ x c,X.env.cells.lookup x = some c -> ∀ v,s.heap.IsCell c v -> h'.IsCell c v:=λx c e v ⟨o,ho,hd⟩=>by
  have nch : c ∉ ch:=λz=>(hch c z).2.2.1 x c e rfl
  by_cases hc : c ∈ X.fs
  ·obtain ⟨sl,q⟩:=slot c o (I.cne x c e) hc nch ho (I.freeC x c e)
   exact ⟨_,q,hd⟩
  ·exact ⟨o,keep c o (I.cne x c e) hc nch ho (I.freeC x c e),hd⟩
 refine ⟨I.ok,I.os,hg,⟨λb o e n hb hx=>?_,λb o e n hb hx=>?_,λb o e n hx=>?_,λb o e hx=>?_,λb xs e=>tups b xs (I.base.tups b xs e),λb o xs e=>frzs b o xs (I.base.frzs b o xs e),λb ps e=>?_⟩,?_,λx c e=>?_,?_,λx c e=>?_,λp hp=>?_,hok,I.len⟩
 ·exact keep b o (neL b o e) hb (neC b o e hx) (I.base.keep b o e n hb hx) (I.base.free b o e n hx)
 ·obtain ⟨sl,e1⟩:=I.base.slot b o e n hb hx
  obtain ⟨sl',e2⟩:=slot b _ (neL b o e) hb (neC b o e hx) e1 (I.base.free b o e n hx)
  exact ⟨sl',e2⟩
 ·obtain ⟨o',e1⟩:=I.base.there b o e hx
  exact free b o' (neC b o e hx) e1 (I.base.free b o e n hx)
 ·obtain ⟨o',e1⟩:=I.base.there b o e hx
  exact there b o' (neC b o e hx) e1
 ·obtain ⟨m1,e1⟩:=I.base.tbls b ps e
  obtain ⟨m2,e2⟩:=tbls b _ e1
  exact ⟨m1++m2,by rw [e2,Array.append_assoc]⟩
 ·obtain ⟨m,hn,hl⟩:=I.loc
  refine ⟨m,ns m hn,λi x v e1 e2 e3=>?_⟩
  obtain ⟨u,r,l⟩:=hl i x v e1 e2 e3
  refine ⟨u,r,?_⟩
  rcases l with l | ⟨k,c,e,z⟩
  ·exact .inl l
  ·exact .inr ⟨k,c,e,cellK x c e _ z⟩
 ·obtain ⟨v,z⟩:=I.cell x c e
  exact ⟨v,cellK x c e v z⟩
 ·obtain ⟨m,⟨o,_,_,ho,_⟩,_⟩:=I.loc
  exact free _ o (λz=>(hch _ z).2.1 rfl) ho I.free
 ·obtain ⟨v,o,ho,hd⟩:=I.cell x c e
  exact free c o (λz=>(hch c z).2.2.1 x c e rfl) ho (I.freeC x c e)
 ·obtain ⟨e,n,ne,nf,d⟩:=I.pin p hp
  have nch : p.1 ∉ ch:=λz=>(hch p.1 z).2.2.2 p hp rfl
  exact ⟨keep p.1 p.2 ne nf nch e n,free p.1 p.2 nch e n,ne,nf,d⟩
theorem Inv.un {t' : Nat} (I : Inv X pins σ H s) (u : Un X.fs [] H H' s.heap h') (hok : HOk X.prog X.w H' h') : Inv X pins σ H' { s with heap:=h',toks:=t' }:=by
 obtain ⟨m,⟨o,es,ep,ho,r⟩,_⟩:=id I.loc
 obtain ⟨sl,hL⟩:=u.any ho I.free (by simp)
 exact I.step (g' := s.gens) (d' := s.drawn) (ch:=[]) (λ_ z=>nomatch z) (λb o _ hb _ e n=>u.keep b o e n hb (by simp)) (λb o _ hb _ e n=>u.slot b o e n hb (by simp)) (λb o _ e n=>u.free b o e n (by simp)) (λb o _ e=>u.there b o e (by simp)) u.tups u.frzs u.tbls (λm' hm=>by
  obtain ⟨o',es',ep',ho',r'⟩:=hm
  rw [ho] at ho'; cases ho'
  exact ⟨_,es',ep',hL,r'⟩) hok I.bare
theorem Inv.call {g' : Array GenState} {t' : Nat} {d' : Drawn} {ch : List Addr} (I : Inv X pins σ H s) (u : Un (frs X.stack) ch H H' s.heap h') (hok : HOk X.prog X.w H' h') (hg : AllBare g')
  (hch : ∀ b ∈ ch,(b ∈ X.ex \/ X.s₀.heap.objs.size <= b) /\ b ≠ X.env.locals /\ (∀ x c,X.env.cells.lookup x = some c -> c ≠ b) /\ ∀ p ∈ X.pn++pins,p.1 ≠ b) :
  Inv X pins σ H' { s with heap:=h',gens:=g',drawn:=d',toks:=t' }:=by
 obtain ⟨m,⟨o,es,ep,ho,r⟩,_⟩:=id I.loc
 obtain ⟨sl,hL⟩:=u.any ho I.free λz=>(hch _ z).2.1 rfl
 exact I.step (ch:=ch) hch (λb o hL hb hc e n=>u.keep b o e n (λz=>(List.mem_cons.mp (I.stkSub b z)).elim hL hb) hc) (λb o _ _ hc e n=>u.any e n hc) (λb o hc e n=>u.free b o e n hc) (λb o hc e=>u.there b o e hc) u.tups u.frzs u.tbls (λm' hm=>by
  obtain ⟨o',es',ep',ho',r'⟩:=hm
  rw [ho] at ho'; cases ho'
  exact ⟨_,es',ep',hL,r'⟩) hok hg
theorem Inv.turned {t' : Nat} {it : Addr} (I : Inv X pins σ H s) (k : ∀ b o,b ≠ it -> s.heap.get? b = some o -> h'.get? b = some o) (hn : H it = none) (hL : it ≠ X.env.locals)
  (h1 : it ∈ X.ex \/ X.s₀.heap.objs.size <= it) (h2 : ∀ x c,X.env.cells.lookup x = some c -> c ≠ it) (h3 : ∀ p ∈ X.pn++pins,p.1 ≠ it) : Inv X pins σ H { s with heap:=h',toks:=t' }:=by
 have nit : ∀ b u,H b = some u -> b ≠ it:=λb u e z=>by rw [z,hn] at e; cases e
 refine I.step (g' := s.gens) (d' := s.drawn) (ch:=[it]) (λb hb=>?_) (λb o _ _ hc e _=>k b o (λz=>hc (by simp [z])) e) (λb o _ _ hc e _=>⟨o.slots,k b o (λz=>hc (by simp [z])) e⟩) (λ_ _ _ _ n=>n)
  (λb o hc e=>⟨o,k b o (λz=>hc (by simp [z])) e⟩) (λ_ _ e=>e) (λ_ _ _ e=>e) (λb ps e=>⟨#[],by rw [e]; simp⟩) (λm hm=>?_) (λb u e=>?_) I.bare
 ·have e : b = it:=by simpa using hb
  subst e
  exact ⟨h1,hL,h2,h3⟩
 ·obtain ⟨o,es,ep,ho,r⟩:=hm
  exact ⟨o,es,ep,k _ o (Ne.symm hL) ho,r⟩
 ·refine (I.hok b u e).stay (λc v hc q=>k c v ?_ q) (λ_ q=>q) λ_ _ q=>q
  rcases hc with z | z
  ·rw [z]; exact nit b u e
  ·exact nit c _ z
theorem Inv.tok (I : Inv X pins σ H s) (t : Nat) : Inv X pins σ H { s with toks:=t }:=I.un (h' := s.heap) (t' := t) Un.refl I.hok
theorem Inv.kept {t' : Nat} (I : Inv X pins σ H s) (k : ∀ b u,s.heap.get? b = some u -> h'.get? b = some u) : Inv X pins σ H { s with heap:=h',toks:=t' }:=I.un (Un.kept k) (I.hok.kept k)
theorem Inv.laid {a : Addr} {o : HO} {t' : Nat} (I : Inv X pins σ H s) (k : ∀ b u,s.heap.get? b = some u -> h'.get? b = some u) (hp : s.heap.objs.size <= a) (new : ObjOk X.prog X.w (upd H a o) h' a o) :
  Inv X pins σ (upd H a o) { s with heap:=h',toks:=t' }:=I.un (Un.laid k hp (I.hok.fresh hp)) (I.hok.laid k hp new)
theorem Inv.write {x e : Addr} {o : HO} {t' : Nat} (I : Inv X pins σ H s) (mu : Mut (H x)) (he : e = x \/ H e = some (.own x)) (k : ∀ b u,b ≠ e -> s.heap.get? b = some u -> h'.get? b = some u) (heo : ∃ u,h'.get? e = some u)
  (new : ObjOk X.prog X.w (upd H x o) h' x o) : Inv X pins σ (upd H x o) { s with heap:=h',toks:=t' }:=I.un (Un.write mu he k heo) (I.hok.write mu he k heo new)
theorem Inv.weak {σ' : List (Option V)} (I : Inv X pins σ H s) (hl : σ'.length = σ.length) (w : ∀ (i : Nat) v,σ'[i]? = some (some v) -> σ[i]? = some (some v)) : Inv X pins σ' H s :=
 ⟨I.ok,I.os,I.bare,I.base,let ⟨m,hn,hl'⟩:=I.loc; ⟨m,hn,λi x v e1 e2 e3=>hl' i x v e1 (w i v e2) e3⟩,I.cell,I.free,I.freeC,I.pin,I.hok,hl.trans I.len⟩
theorem Inv.pins_of {pins' : List (Addr × Obj)} (I : Inv X pins σ H s) (h : ∀ p ∈ pins',s.heap.get? p.1 = some p.2 /\ H p.1 = none /\ p.1 ≠ X.env.locals /\ p.1 ∉ X.fs /\ ∀ v,p.2.data ≠ .cell v) : Inv X pins' σ H s :=
 ⟨I.ok,I.os,I.bare,I.base,I.loc,I.cell,I.free,I.freeC,λp hp=>(List.mem_append.mp hp).elim (λz=>I.pin p (List.mem_append_left _ z)) (h p),I.hok,I.len⟩
theorem zbl {N : List Str} (hN : N.Nodup) {i j : Nat} {x : Str} (a : N[i]? = some x) (b : N[j]? = some x) : i = j:=by
 obtain ⟨h1,e1⟩:=List.getElem?_eq_some_iff.mp a
 obtain ⟨h2,e2⟩:=List.getElem?_eq_some_iff.mp b
 exact (List.getElem_inj hN).mp (e1.trans e2.symm)
theorem zfH {M : Model} {A : Around} {E : Value -> Shared -> Prop} {i : Nat} {x : Str} {v : V} {u : Value} {Q : Unit -> Shared -> Prop} (I : Inv X pins σ H s) (hN : X.N.Nodup) (hi : X.N[i]? = some x) (hx : Loc X.env.scope x) (r : RelV v u)
  (h : ∀ s',Inv X pins (σ.set i (some v)) H s' -> (∃ a,Heap.SameBut a s.heap s'.heap /\ (a = X.env.locals \/ X.env.cells.lookup x = some a)) -> Q () s') (hf : X.fn x = true \/ X.env.scope.names.lookup x = some .local:=by first | exact .inl rfl | exact .inr rfl | assumption) : wpAny M A (storeName X.env x u) Q E s:=by
 obtain ⟨m,hn,hl⟩:=id I.loc
 have hcls : (X.env.scope.kind == .class || (X.env.scope.kind == .module && X.env.locals != X.env.globals)) = false:=by rw [I.ok.kind]; rfl
 have hiσ : i < σ.length:=by rw [I.len]; exact (List.getElem?_eq_some_iff.mp hi).1
 have cne:=I.cne
 have tracked : ∀ {a : Addr} {h' : Heap},(∃ o,s.heap.get? a = some o /\ H a = none) -> Heap.SameBut a s.heap h' -> HOk X.prog X.w H h' := λ{a h'} ha hs b ob e=>by
  obtain ⟨_,_,hfree⟩:=ha
  refine (I.hok b ob e).stay (λc w' hc q=>(hs.2 c ?_).trans q) (λ_ q=>q) λ_ _ q=>q
  rintro rfl
  rcases hc with rfl | hc
  ·rw [hfree] at e; cases e
  ·rw [hfree] at hc; cases hc
 rcases hx with hk | hk
 ·refine wpAny_storeName_local hk hn (λh' hn' hs=>?_) hcls
  obtain ⟨oL,_,_,hoL,_⟩:=id hn
  refine h _ ⟨I.ok,I.os,I.bare,⟨λb o e n hb hx=>?_,λb o e n hb hx=>?_,I.base.free,λb o e hx=>?_,I.base.tups,I.base.frzs,I.base.tbls⟩,⟨_,hn',λj y v' e1 e2 e3=>?_⟩,λy c e=>?_,I.free,I.freeC,λp hp=>?_,tracked ⟨oL,hoL,I.free⟩ hs,by simpa using I.len⟩ ⟨_,hs,.inl rfl⟩
  ·exact (hs.2 b (Nat.ne_of_lt (Nat.lt_of_lt_of_le (Heap.lt_size e) I.ok.above))).trans (I.base.keep b o e n hb hx)
  ·obtain ⟨sl,e1⟩:=I.base.slot b o e n hb hx
   exact ⟨sl,(hs.2 b (Nat.ne_of_lt (Nat.lt_of_lt_of_le (Heap.lt_size e) I.ok.above))).trans e1⟩
  ·obtain ⟨o',e1⟩:=I.base.there b o e hx
   exact ⟨o',(hs.2 b (Nat.ne_of_lt (Nat.lt_of_lt_of_le (Heap.lt_size e) I.ok.above))).trans e1⟩
  ·by_cases hj : j = i
   ·subst hj
    rw [hi] at e1; cases e1
    rw [List.getElem?_set_self hiσ] at e2
    cases e2
    exact ⟨u,r,.inl ⟨hk,by simp⟩⟩
   ·rw [List.getElem?_set_ne (Ne.symm hj)] at e2
    obtain ⟨u',r',q⟩:=hl j y v' e1 e2 e3
    refine ⟨u',r',?_⟩
    rcases q with ⟨k,e⟩ | ⟨k,c,e,z⟩
    ·refine .inl ⟨k,?_⟩
     have : y ≠ x:=λe=>hj (zbl hN e1 (e ▸ hi))
     simp [this,e]
    ·exact .inr ⟨k,c,e,z.sameBut hs (cne y c e)⟩
  ·obtain ⟨w',z⟩:=I.cell y c e
   exact ⟨w',z.sameBut hs (cne y c e)⟩
  ·obtain ⟨e,n,ne,nf,d⟩:=I.pin p hp
   exact ⟨(hs.2 p.1 ne).trans e,n,ne,nf,d⟩
 ·have hfn : X.fn x = true:=by
   rcases hf with z | z
   ·exact z
   ·rw [z] at hk; cases hk
  obtain ⟨c,hc⟩:=I.ok.has x (.inl hk)
  obtain ⟨w',z⟩:=I.cell x c hc
  refine wpAny_storeName_cell I.ok.kind hk hc z (λh' hc' hs=>?_)
  obtain ⟨oc,hoc,hocd⟩:=id z
  refine h { s with heap:=h' } ⟨I.ok,I.os,I.bare,⟨λb o e n hb hx=>?_,λb o e n hb hx=>?_,I.base.free,λb o e hx=>?_,I.base.tups,I.base.frzs,I.base.tbls⟩,⟨m,hn.sameBut hs (Ne.symm (cne x c hc)),λj y v' e1 e2 e3=>?_⟩,λy c' e=>?_,I.free,I.freeC,λp hp=>?_,tracked ⟨oc,hoc,I.freeC x c hc⟩ hs,by simpa using I.len⟩ ⟨c,hs,.inr hc⟩
  ·exact (hs.2 b (Nat.ne_of_lt (Nat.lt_of_lt_of_le (Heap.lt_size e) (I.ok.cab x c hfn hc)))).trans (I.base.keep b o e n hb hx)
  ·obtain ⟨sl,e1⟩:=I.base.slot b o e n hb hx
   exact ⟨sl,(hs.2 b (Nat.ne_of_lt (Nat.lt_of_lt_of_le (Heap.lt_size e) (I.ok.cab x c hfn hc)))).trans e1⟩
  ·obtain ⟨o',e1⟩:=I.base.there b o e hx
   exact ⟨o',(hs.2 b (Nat.ne_of_lt (Nat.lt_of_lt_of_le (Heap.lt_size e) (I.ok.cab x c hfn hc)))).trans e1⟩
  ·by_cases hj : j = i
   ·subst hj
    rw [hi] at e1; cases e1
    rw [List.getElem?_set_self hiσ] at e2
    cases e2
    exact ⟨u,r,.inr ⟨.inl hk,c,hc,hc'⟩⟩
   ·rw [List.getElem?_set_ne (Ne.symm hj)] at e2
    obtain ⟨u',r',q⟩:=hl j y v' e1 e2 e3
    refine ⟨u',r',?_⟩
    rcases q with q | ⟨k,c',e,z'⟩
    ·exact .inl q
    ·refine .inr ⟨k,c',e,z'.sameBut hs ?_⟩
     rintro rfl
     exact hj (zbl hN e1 (I.ok.inj _ _ _ e hc ▸ hi))
  ·by_cases hcc : c' = c
   ·subst hcc; exact ⟨_,hc'⟩
   ·obtain ⟨w2,z2⟩:=I.cell y c' e
    exact ⟨w2,z2.sameBut hs hcc⟩
  ·obtain ⟨e,n,ne,nf,d⟩:=I.pin p hp
   refine ⟨(hs.2 p.1 ?_).trans e,n,ne,nf,d⟩
   intro q
   rw [q,hoc] at e
   have q' : oc = p.2:=Option.some.inj e
   exact d w' (by rw [<- q']; exact hocd)
theorem zbm {M : Model} {A : Around} {E : Value -> Shared -> Prop} {i : Nat} {x : Str} {v : V} {u : Value} {Q : Unit -> Shared -> Prop} (I : Inv X pins σ H s) (hN : X.N.Nodup) (hi : X.N[i]? = some x) (hx : Loc X.env.scope x) (r : RelV v u)
  (h : ∀ s',Inv X pins (σ.set i (some v)) H s' -> Q () s') (hf : X.fn x = true \/ X.env.scope.names.lookup x = some .local:=by first | exact .inl rfl | exact .inr rfl | assumption) : wpAny M A (storeName X.env x u) Q E s :=
 zfH I hN hi hx r (λs' I' _=>h s' I') hf
theorem Inv.call' {s' : Shared} {ch : List Addr} (I : Inv X pins σ H s) (ho : s'.os = s.os) (u : Un (frs X.stack) ch H H' s.heap s'.heap) (hok : HOk X.prog X.w H' s'.heap) (hg : AllBare s'.gens)
  (hch : ∀ b ∈ ch,(b ∈ X.ex \/ X.s₀.heap.objs.size <= b) /\ b ≠ X.env.locals /\ (∀ x c,X.env.cells.lookup x = some c -> c ≠ b) /\ ∀ p ∈ X.pn++pins,p.1 ≠ b) : Inv X pins σ H' s' := by
 obtain ⟨h',g',d',t',o'⟩:=s'
 have e : o' = s.os:=ho
 subst e
 exact I.call (g' := g') (t' := t') (d' := d') u hok hg hch
end
abbrev XK:=Value -> Option Addr -> Hp -> Prop
abbrev St:=List (Option V)
abbrev VK:=V -> Hp -> Prop
abbrev TE:=St -> Hp -> VK -> Prop
abbrev TT:=St -> Hp -> (Bool -> Hp -> Prop) -> Prop
abbrev TA:=St -> Hp -> (List V -> Hp -> Prop) -> Prop
structure Ends where
 nx : St -> Hp -> Prop
 rt : VK
 bk : St -> Hp -> Prop:=λ_ _=>False
 ct : St -> Hp -> Prop:=λ_ _=>False
abbrev TS:=Ends -> St -> Hp -> Prop
def EP (X : Cx) (pins : List (Addr × Obj)) (σ : St) (Q : VK) (u : Value) (s' : Shared) : Prop:=∃ v H',Inv X pins σ H' s' /\ RelV v u /\ Q v H'
def TP (X : Cx) (pins : List (Addr × Obj)) (σ : St) (Q : Bool -> Hp -> Prop) (b : Bool) (s' : Shared) : Prop:=∃ H',Inv X pins σ H' s' /\ Q b H'
def AP (X : Cx) (pins : List (Addr × Obj)) (σ : St) (Q : List V -> Hp -> Prop) (us : List Value) (s' : Shared) : Prop:=∃ vs H',Inv X pins σ H' s' /\ Vals vs us /\ Q vs H'
def SP (X : Cx) (pins : List (Addr × Obj)) (D : Ends) (f : Flow) (s' : Shared) : Prop :=
 match f with
 | .next=>∃ σ' H',Inv X pins σ' H' s' /\ D.nx σ' H'
 | .brk=>∃ σ' H',Inv X pins σ' H' s' /\ D.bk σ' H'
 | .cont=>∃ σ' H',Inv X pins σ' H' s' /\ D.ct σ' H'
 | .ret u=>∃ v σ' H',Inv X pins σ' H' s' /\ RelV v u /\ D.rt v H'
def PE (X : Cx) (e : Expr) (t : TE) : Prop :=
 ∀ (pins : List (Addr × Obj)) (s : Shared) (σ : St) (H : Hp) (Q : VK),Inv X pins σ H s -> t σ H Q -> wpAny (model X.prog X.w) X.A (eval e X.env) (EP X pins σ Q) X.xe s
def PT (X : Cx) (e : Expr) (t : TT) : Prop :=
 ∀ (pins : List (Addr × Obj)) (s : Shared) (σ : St) (H : Hp) (Q : Bool -> Hp -> Prop),Inv X pins σ H s -> t σ H Q -> wpAny (model X.prog X.w) X.A (isTrue e X.env (eval e X.env)) (TP X pins σ Q) X.xe s
def PW (X : Cx) (e : Expr) (t : TT) : Prop :=
 ∀ (whole : Sem Value) (pins : List (Addr × Obj)) (s : Shared) (σ : St) (H : Hp) (Q : Bool -> Hp -> Prop),Inv X pins σ H s -> t σ H Q -> wpAny (model X.prog X.w) X.A (isTrue e X.env whole) (TP X pins σ Q) X.xe s
theorem PW.pt {X : Cx} {e : Expr} {t : TT} (h : PW X e t) : PT X e t:=h _
def PA (X : Cx) (es : List Expr) (t : TA) : Prop :=
 ∀ (pos : Pos) (pins : List (Addr × Obj)) (s : Shared) (σ : St) (H : Hp) (Q : List V -> Hp -> Prop),Inv X pins σ H s -> t σ H Q -> wpAny (model X.prog X.w) X.A (spliced (backTo pos (starEach es X.env))) (AP X pins σ Q) X.xe s
def PS (X : Cx) (st : Stmt) (t : TS) : Prop :=
 ∀ (pins : List (Addr × Obj)) (s : Shared) (σ : St) (H : Hp) (D : Ends),Inv X pins σ H s -> t D σ H -> wpAny (model X.prog X.w) X.A (exec st X.env) (SP X pins D) X.xe s
def PSs (X : Cx) (st : List Stmt) (t : TS) : Prop :=
 ∀ (pins : List (Addr × Obj)) (s : Shared) (σ : St) (H : Hp) (D : Ends),Inv X pins σ H s -> t D σ H -> wpAny (model X.prog X.w) X.A (execs st X.env) (SP X pins D) X.xe s
theorem thn {α : Type} {t : Sem α} {Q Q' : α -> Shared -> Prop} {M : Model} {A : Around} {E : Value -> Shared -> Prop} {s : Shared} (h : wpAny M A t Q E s) (hQ : ∀ a s,Q a s -> Q' a s) : wpAny M A t Q' E s:=wpAny_mono h hQ λ_ _ x=>x
end L2
namespace L2
open PySem PySem.Spec PyProof.Rows
section
variable {X : Cx}
theorem bin {a b : Expr} {ta tb : TE} (ha : PE X a ta) (hb : PE X b tb) {pins : List (Addr × Obj)} {s : Shared} {σ : St} {H : Hp} {R : V -> V -> Hp -> Prop} (I : Inv X pins σ H s) (h : ta σ H λx H1=>tb σ H1 λy H2=>R x y H2)
  {α : Type} {Q : α -> Shared -> Prop} {f : Value -> Value -> Sem α}
  (hf : ∀ v u s2 x y H2,Inv X pins σ H2 s2 -> RelV x v -> RelV y u -> R x y H2 -> wpAny (model X.prog X.w) X.A (f v u) Q X.xe s2) :
  wpAny (model X.prog X.w) X.A (eval a X.env) (λv s₁=>wpAny (model X.prog X.w) X.A (eval b X.env) (λu s₂=>wpAny (model X.prog X.w) X.A (f v u) Q X.xe s₂) X.xe s₁) X.xe s:=by
 refine thn (ha pins s σ H _ I h) λv s1 ⟨x,H1,I1,r1,q1⟩=>?_
 refine thn (hb pins s1 σ H1 _ I1 q1) λu s2 ⟨y,H2,I2,r2,q2⟩=>?_
 exact hf v u s2 x y H2 I2 r1 r2 q2
def tVar (i : Nat) : TE:=λσ H Q=>∃ v,σ[i]? = some (some v) /\ Q v H
def tC (v : V) : TE:=λ_ H Q=>Q v H
theorem ygc {i : Nat} {x : Str} {pos : Pos} (hN : X.N[i]? = some x) (hv : Vis X.env.scope x) (hd : (x == ("__debug__" : Str)) = false:=by decide) (hcd : (x == ("__classdict__" : Str)) = false:=by decide) : PE X (.Name x pos) (tVar i):=by
 intro pins s σ H Q I h
 obtain ⟨v,e,h⟩:=h
 obtain ⟨m,hn,hl⟩:=I.loc
 obtain ⟨u,r,l⟩:=hl i x v hN e hv
 have fin : EP X pins σ Q u s:=⟨v,H,I,r,h⟩
 rcases l with ⟨hk,hm⟩ | ⟨hk,c,hc,hcell⟩
 ·exact wpAny_Name (wpAny_loadName_local I.ok.kind hk hn hm fin) hd
 ·rcases hk with hk | hk
  ·exact wpAny_Name (wpAny_loadName_cell I.ok.kind hk hc hcell fin) hd
  ·exact wpAny_Name (wpAny_loadName_free I.ok.kind hk hc hcell fin hcd) hd
theorem ygd {i j pos} : PE X (.Constant (.int i) j pos) (tC (.int i)):=λ_ _ _ H _ I h=>wpAny_Constant_int ⟨.int i,H,I.tok _,⟨_,rfl⟩,h⟩
theorem yhC {b j pos} : PE X (.Constant (.bool b) j pos) (tC (.bl b)):=λ_ _ _ H _ I h=>Constant_bool ⟨.bl b,H,I,rfl,h⟩
theorem yge {j pos} : PE X (.Constant .none j pos) (tC .non):=λ_ _ _ H _ I h=>Constant_none ⟨.non,H,I,rfl,h⟩
theorem ydC {x j pos} : PE X (.Constant (.str x) j pos) (tC (.str x)):=λ_ _ _ H _ I h=>Calls.Constant_str ⟨.str x,H,I.tok _,⟨_,rfl⟩,h⟩
def Gl (X : Cx) (x : Str) : Prop:=X.env.kindOf x = some .globalImplicit
theorem zaF {E : Value -> Shared -> Prop} {pins : List (Addr × Obj)} {s : Shared} {σ : St} {H : Hp} {x : Str} {u : Value} {pos : Pos} {Q : Value -> Shared -> Prop} (I : Inv X pins σ H s) (hg : Gl X x) (hm : X.mg x = some u) (h : Q u s)
  (hd : (x == ("__debug__" : Str)) = false:=by decide) : wpAny (model X.prog X.w) X.A (eval (.Name x pos) X.env) Q E s :=
 Calls.Name_function_global I.ok.kind hg (Calls.loadGlobal_global (by rw [I.ok.glob]; exact I.mod.glob.keeps I.bk) hm h) hd
theorem ycR {E : Value -> Shared -> Prop} {pins : List (Addr × Obj)} {s : Shared} {σ : St} {H : Hp} {x : Str} {u : Value} {pos : Pos} {Q : Value -> Shared -> Prop} (I : Inv X pins σ H s) (hg : Gl X x) (hm : X.mg x = none) (hv : bootBuiltins x = some u) (h : Q u s)
  (hn : x ≠ "__name__" := by decide) (hd : (x == ("__debug__" : Str)) = false:=by decide) : wpAny (model X.prog X.w) X.A (eval (.Name x pos) X.env) Q E s:=by
 obtain ⟨mb,h1,h2⟩:=I.mod.blt
 exact Calls.Name_function_global I.ok.kind hg (Calls.loadGlobal_builtin (by rw [I.ok.glob]; exact I.mod.glob.keeps I.bk) hm (by rw [I.ok.blt]; exact h1.keeps I.bk) ((h2 x hn).trans hv) h) hd
theorem zbU {x : Str} {v : V} {u : Value} {pos : Pos} (hg : Gl X x) (hm : X.mg x = some u) (r : RelV v u) (hd : (x == ("__debug__" : Str)) = false:=by decide) : PE X (.Name x pos) (tC v) :=
 λ_ _ _ H _ I h=>zaF I hg hm ⟨v,H,I,r,h⟩ hd
theorem zeu {x : Str} {v : V} {u : Value} {pos : Pos} (hg : Gl X x) (hm : X.mg x = none) (hv : bootBuiltins x = some u) (r : RelV v u) (hn : x ≠ "__name__" := by decide) (hd : (x == ("__debug__" : Str)) = false:=by decide) : PE X (.Name x pos) (tC v) :=
 λ_ _ _ H _ I h=>ycR I hg hm hv ⟨v,H,I,r,h⟩ hn hd
variable {a b : Expr} {ta tb : TE} {pos : Pos}
variable {tA tB' : TT} {rest : List Expr}
def tAnd (t u : TT) : TT:=λσ H Q=>t σ H λc H1=>if c = true then u σ H1 Q else Q false H1
def tOr (t u : TT) : TT:=λσ H Q=>t σ H λc H1=>if c = true then Q true H1 else u σ H1 Q
def tNot (t : TT) : TT:=λσ H Q=>t σ H λc H1=>Q (!c) H1
theorem zhE (ha : PT X a tA) : PW X (.BoolOp .And [a] pos) tA:=by
 intro wh pins s σ H Q I h
 refine isTrue_and (thn (ha pins s σ H Q I h) λc s1 e=>?_)
 cases c with
 | true=>exact isTrue_and_nil e
 | false=>exact e
theorem ygf (ha : PT X a tA) : PW X (.BoolOp .Or [a] pos) tA:=by
 intro wh pins s σ H Q I h
 refine isTrue_or (thn (ha pins s σ H Q I h) λc s1 e=>?_)
 cases c with
 | false=>exact isTrue_or_nil e
 | true=>exact e
theorem ygg (ha : PT X a tA) (hb : PW X (.BoolOp .And (b :: rest) pos) tB') : PW X (.BoolOp .And (a :: b :: rest) pos) (tAnd tA tB'):=by
 intro wh pins s σ H Q I h
 refine isTrue_and (thn (ha pins s σ H _ I h) λc s1 ⟨H1,I1,q1⟩=>?_)
 cases c with
 | true=>exact hb wh pins s1 σ H1 Q I1 q1
 | false=>exact ⟨H1,I1,q1⟩
theorem yhD (ha : PT X a tA) (hb : PW X (.BoolOp .Or (b :: rest) pos) tB') : PW X (.BoolOp .Or (a :: b :: rest) pos) (tOr tA tB'):=by
 intro wh pins s σ H Q I h
 refine isTrue_or (thn (ha pins s σ H _ I h) λc s1 ⟨H1,I1,q1⟩=>?_)
 cases c with
 | true=>exact ⟨H1,I1,q1⟩
 | false=>exact hb wh pins s1 σ H1 Q I1 q1
theorem ygh (ha : PT X a tA) : PT X (.UnaryOp .Not a pos) (tNot tA):=by
 intro pins s σ H Q I h
 exact isTrue_not (ha pins s σ H (λc H1=>Q (!c) H1) I h)
def yhE (ta tb : TE) : TE:=λσ H Q=>ta σ H λx H1=>∃ c,x = .bl c /\ if c = true then tb σ H1 Q else Q (.bl false) H1
def tOrV (ta tb : TE) : TE:=λσ H Q=>ta σ H λx H1=>∃ c,x = .bl c /\ if c = true then Q (.bl true) H1 else tb σ H1 Q
def yhF (ta : TE) : TE:=λσ H Q=>ta σ H λx H1=>∃ c,x = .bl c /\ Q (.bl (!c)) H1
theorem ygi {op} {t : TE} (h : PE X a t) : PE X (.BoolOp op [a] pos) t:=λpins s σ H Q I hw=>BoolOp_one (h pins s σ H Q I hw)
theorem ygj (ha : PE X a ta) (hb : PE X (.BoolOp .And (b :: rest) pos) tb) : PE X (.BoolOp .And (a :: b :: rest) pos) (yhE ta tb):=by
 intro pins s σ H Q I h
 refine BoolOp_and (thn (ha pins s σ H _ I h) λv s1 ⟨x,H1,I1,r1,q1⟩=>?_)
 obtain ⟨c,rfl,q1⟩:=q1
 cases r1
 refine wpAny_truthy_bool ?_
 cases c with
 | true=>exact hb pins s1 σ H1 Q I1 q1
 | false=>exact ⟨.bl false,H1,I1,rfl,q1⟩
theorem yhG (ha : PE X a ta) (hb : PE X (.BoolOp .Or (b :: rest) pos) tb) : PE X (.BoolOp .Or (a :: b :: rest) pos) (tOrV ta tb):=by
 intro pins s σ H Q I h
 refine BoolOp_or (thn (ha pins s σ H _ I h) λv s1 ⟨x,H1,I1,r1,q1⟩=>?_)
 obtain ⟨c,rfl,q1⟩:=q1
 cases r1
 refine wpAny_truthy_bool ?_
 cases c with
 | false=>exact hb pins s1 σ H1 Q I1 q1
 | true=>exact ⟨.bl true,H1,I1,rfl,q1⟩
theorem ygk (ha : PE X a ta) : PE X (.UnaryOp .Not a pos) (yhF ta):=by
 intro pins s σ H Q I h
 refine UnaryOp_ (thn (ha pins s σ H _ I h) λv s1 ⟨x,H1,I1,r1,q1⟩=>?_)
 obtain ⟨c,rfl,q1⟩:=q1
 cases r1
 exact not_of (wpAny_truthy_bool ⟨.bl (!c),H1,I1,rfl,q1⟩)
def tIf (t : TT) (ta tb : TE) : TE:=λσ H Q=>t σ H λc H1=>if c = true then ta σ H1 Q else tb σ H1 Q
theorem zgG {c : Expr} (hc : PT X c tA) (ha : PE X a ta) (hb : PE X b tb) : PE X (.IfExp c a b pos) (tIf tA ta tb):=by
 intro pins s σ H Q I h
 refine wpAny_IfExp (thn (hc pins s σ H _ I h) λd s1 ⟨H1,I1,q1⟩=>?_)
 cases d with
 | true=>exact ha pins s1 σ H1 Q I1 q1
 | false=>exact hb pins s1 σ H1 Q I1 q1
end
end L2
namespace L2
open PySem PySem.Spec PyProof.Rows
def SqL (K : PySem.W.Frag) (H : Hp) (a : Addr) (xs : List V) : Prop :=
 Rd H a (.lst xs) \/
  ∃ (o : Obj) (its : Array Value) (n : Nat),K.lookup a = some o /\ o.cls = .type "list" /\ o.dict = none /\ o.data = .seq its n /\ its.size <= sizeLine /\ Vals xs its.toList
def SqT (K : PySem.W.Frag) (H : Hp) (a : Addr) (xs : List V) : Prop :=
 Rd H a (.tup xs) \/
  ∃ (o : Obj) (its : Array Value) (n : Nat),K.lookup a = some o /\ o.cls = .type "tuple" /\ o.data = .seq its n /\ its.size <= sizeLine /\ Vals xs its.toList
def absV : Value -> Option V
 | .none=>some .non
 | .bool b=>some (.bl b)
 | .int i _=>some (.int i)
 | .str x _=>some (.str x)
 | .bytes b _=>some (.byt b)
 | .float b _=>some (.flt b)
 | .ref a=>some (.ref a)
 | .type n=>some (.ty n)
 | _=>none
theorem RelV.abs {x : V} {u : Value} (r : RelV x u) : absV u = some x:=by
 cases x with
 | non=>cases r; rfl
 | bl _=>cases r; rfl
 | int _=>obtain ⟨t,rfl⟩:=r; rfl
 | str _=>obtain ⟨t,rfl⟩:=r; rfl
 | byt _=>obtain ⟨t,rfl⟩:=r; rfl
 | flt _=>obtain ⟨t,rfl⟩:=r; rfl
 | ref _=>cases r; rfl
 | ty _=>cases r; rfl
theorem RelV.inj {x y : V} {u : Value} (r : RelV x u) (q : RelV y u) : x = y:=Option.some.inj (r.abs.symm.trans q.abs)
theorem Vals.inj : ∀ {xs ys : List V} {us : List Value},Vals xs us -> Vals ys us -> xs = ys
 | _,_,_,.nil,.nil=>rfl
 | _,_,_,.cons r t,.cons r' t' => by rw [r.inj r',Vals.inj t t']
section
variable {X : Cx} {pins : List (Addr × Obj)} {σ : St} {H : Hp} {s : Shared} {a : Addr} {xs ys : List V}
theorem SqL.of {K : PySem.W.Frag} (h : H a = some (.lst xs)) : SqL K H a xs:=.inl (.inl h)
theorem SqT.of {K : PySem.W.Frag} (h : H a = some (.tup xs)) : SqT K H a xs:=.inl (.inl h)
theorem Inv.list (I : Inv X pins σ H s) (h : SqL X.K H a xs) : ∃ its : List Value,Vals xs its /\ PlainL s.heap a its.toArray /\ xs.length <= sizeLine:=by
 rcases h with h | ⟨o,its,n,hk,hc,hd,hs,hz,r⟩
 ·obtain ⟨z,its,n,r,e⟩:=h.ok I.hok
  exact ⟨its,r,⟨_,n,e,rfl,rfl,rfl⟩,z⟩
 ·refine ⟨its.toList,r,⟨o,n,I.kIn a o hk,hc,hd,by simpa using hs⟩,?_⟩
  have e:=r.length
  simp only [Array.length_toList] at e
  omega
theorem Inv.tuple (I : Inv X pins σ H s) (h : SqT X.K H a xs) : ∃ its : List Value,Vals xs its /\ IsTup s.heap a its.toArray /\ xs.length <= sizeLine:=by
 rcases h with h | ⟨o,its,n,hk,hc,hs,hz,r⟩
 ·obtain ⟨z,its,r,p⟩:=h.ok I.hok
  exact ⟨its,r,p,z⟩
 ·refine ⟨its.toList,r,⟨o,I.kIn a o hk,hc,n,by simpa using hs⟩,?_⟩
  have e:=r.length
  simp only [Array.length_toList] at e
  omega
theorem Inv.list_inj (I : Inv X pins σ H s) (h : SqL X.K H a xs) (h' : SqL X.K H a ys) : xs = ys:=by
 obtain ⟨its,r,⟨o,n,e,_,_,d⟩,_⟩:=I.list h
 obtain ⟨its',r',⟨o',n',e',_,_,d'⟩,_⟩:=I.list h'
 rw [e] at e'; cases e'
 rw [d] at d'
 injection d' with d1 _
 have : its = its' := by simpa using congrArg Array.toList d1
 subst this
 exact r.inj r'
theorem Inv.tuple_inj (I : Inv X pins σ H s) (h : SqT X.K H a xs) (h' : SqT X.K H a ys) : xs = ys:=by
 obtain ⟨its,r,⟨o,e,_,n,d⟩,_⟩:=I.tuple h
 obtain ⟨its',r',⟨o',e',_,n',d'⟩,_⟩:=I.tuple h'
 rw [e] at e'; cases e'
 rw [d] at d'
 injection d' with d1 _
 have : its = its' := by simpa using congrArg Array.toList d1
 subst this
 exact r.inj r'
end
abbrev Cx.wish (X : Cx) (E : Value -> Shared -> Prop) : Cx:={ X with xe:=E }
abbrev Cx.nox (X : Cx) : Cx:=X.wish λ_ _=>False
theorem Cx.Ok.wish {X : Cx} (ok : X.Ok) (E : Value -> Shared -> Prop) : (X.wish E).Ok :=
 ⟨ok.mod,ok.kind,ok.glob,ok.blt,ok.above,ok.inj,ok.has,ok.cab,ok.hd,ok.frames,ok.stk,ok.exf,ok.bs,ok.bsz,ok.noex,ok.exfs,ok.funs,ok.frf⟩
theorem Cx.Ok.unwish {X : Cx} {E : Value -> Shared -> Prop} (ok : (X.wish E).Ok) : X.Ok :=
 ⟨ok.mod,ok.kind,ok.glob,ok.blt,ok.above,ok.inj,ok.has,ok.cab,ok.hd,ok.frames,ok.stk,ok.exf,ok.bs,ok.bsz,ok.noex,ok.exfs,ok.funs,ok.frf⟩
section
variable {X : Cx} {pins : List (Addr × Obj)} {σ : St} {H : Hp} {s : Shared} {E : Value -> Shared -> Prop}
theorem Inv.wish (I : Inv X pins σ H s) (E : Value -> Shared -> Prop) : Inv (X.wish E) pins σ H s:=⟨I.ok.wish E,I.os,I.bare,I.base,I.loc,I.cell,I.free,I.freeC,I.pin,I.hok,I.len⟩
theorem Inv.unwish (I : Inv (X.wish E) pins σ H s) : Inv X pins σ H s:=⟨I.ok.unwish,I.os,I.bare,I.base,I.loc,I.cell,I.free,I.freeC,I.pin,I.hok,I.len⟩
theorem SP.unwish {D : Ends} {f : Flow} {s' : Shared} (h : SP (X.wish E) pins D f s') : SP X pins D f s' := by
 cases f with
 | next=>obtain ⟨σ',H',I,q⟩:=h; exact ⟨σ',H',I.unwish,q⟩
 | brk=>obtain ⟨σ',H',I,q⟩:=h; exact ⟨σ',H',I.unwish,q⟩
 | cont=>obtain ⟨σ',H',I,q⟩:=h; exact ⟨σ',H',I.unwish,q⟩
 | ret u=>obtain ⟨v,σ',H',I,r,q⟩:=h; exact ⟨v,σ',H',I.unwish,r,q⟩
end
section
variable {X : Cx} {st : Stmt} {rest : List Stmt} {t u : TS} {e : Expr} {te : TE} {pos : Pos}
def yhH : TS:=λD σ H=>D.nx σ H
def tSeq (t u : TS) : TS:=λD σ H=>t { D with nx:=u D } σ H
theorem zhF : PSs X [] yhH:=λ_ _ σ H _ I h=>wpAny_execs_nil ⟨σ,H,I,h⟩
theorem zgH (h1 : PS X st t) (h2 : PSs X rest u) : PSs X (st :: rest) (tSeq t u):=by
 intro pins s σ H D I h
 refine wpAny_execs_cons (thn (h1 pins s σ H { D with nx:=u D } I h) λf s1 q=>?_)
 cases f with
 | next =>
  obtain ⟨σ',H',I',q⟩:=q
  exact h2 pins s1 σ' H' D I' q
 | ret v=>exact q
 | brk=>exact q
 | cont=>exact q
theorem zev (h1 : PS X st t) : PSs X [st] t:=by
 intro pins s σ H D I h
 refine wpAny_execs_cons (thn (h1 pins s σ H D I h) λf s1 q=>?_)
 cases f with
 | next=>exact wpAny_execs_nil q
 | ret v=>exact q
 | brk=>exact q
 | cont=>exact q
theorem Inv.quiet {pins : List (Addr × Obj)} {σ : St} {H : Hp} {s : Shared} (I : Inv X pins σ H s) : interactive X.env = false:=by simp [interactive,I.ok.kind]
def yhI (te : TE) : TS:=λD σ H=>te σ H λ_ H1=>D.nx σ H1
theorem zhG (he : PE X e te) (hs : swapsWith e none pos.line X.env = pure false:=by rfl) : PS X (.Expr e pos) (yhI te):=by
 intro pins s σ H D I h
 exact wpAny_Expr_any (thn (he pins s σ H _ I h) λv s1 ⟨x,H1,I1,r1,q1⟩=>⟨σ,H1,I1,q1⟩) I.quiet hs
def tRet (te : TE) : TS:=λD σ H=>te σ H D.rt
theorem ygl (he : PE X e te) : PS X (.Return (some e) pos) (tRet te):=by
 intro pins s σ H D I h
 exact wpAny_Return_some (thn (he pins s σ H _ I h) λv s1 ⟨x,H1,I1,r1,q1⟩=>⟨x,σ,H1,I1,r1,q1⟩)
def tIfS (c : TT) (t u : TS) : TS:=λD σ H=>c σ H λb H1=>if b = true then t D σ H1 else u D σ H1
theorem yhJ {c : Expr} {a b : List Stmt} {tc : TT} (hc : PT X c tc) (ha : PSs X a t) (hb : PSs X b u) : PS X (.If c a b pos) (tIfS tc t u):=by
 intro pins s σ H D I h
 refine wpAny_If (thn (hc pins s σ H _ I h) λd s1 ⟨H1,I1,q1⟩=>?_)
 cases d with
 | true=>exact ha pins s1 σ H1 D I1 q1
 | false=>exact hb pins s1 σ H1 D I1 q1
end
abbrev TG:=V -> St -> Hp -> (St -> Hp -> Prop) -> Prop
abbrev TGs:=List V -> St -> Hp -> (St -> Hp -> Prop) -> Prop
def PG (X : Cx) (target : Expr) (t : TG) : Prop :=
 ∀ (pins : List (Addr × Obj)) (s : Shared) (σ : St) (H : Hp) (v : V) (u : Value) (Q : St -> Hp -> Prop),Inv X pins σ H s -> RelV v u -> t v σ H Q ->
  wpAny (model X.prog X.w) X.A (assign target X.env u) (λ_ s' => ∃ σ' H',Inv X pins σ' H' s' /\ Q σ' H') X.xe s
def PGs (X : Cx) (ts : List Expr) (t : TGs) : Prop :=
 ∀ (pins : List (Addr × Obj)) (s : Shared) (σ : St) (H : Hp) (vs : List V) (us : List Value) (Q : St -> Hp -> Prop),Inv X pins σ H s -> Vals vs us -> t vs σ H Q ->
  wpAny (model X.prog X.w) X.A (assignInOrder ((assignEach ts X.env).map (·.2)) us) (λ_ s' => ∃ σ' H',Inv X pins σ' H' s' /\ Q σ' H') X.xe s
abbrev TSet:=V -> V -> V -> Hp -> (Hp -> Prop) -> Prop
def PSet (X : Cx) (t : TSet) : Prop :=
 ∀ (pins : List (Addr × Obj)) (s : Shared) (σ : St) (H : Hp) (o i v : V) (ov iv u : Value) (Q : Hp -> Prop),Inv X pins σ H s -> RelV o ov -> RelV i iv -> RelV v u -> t o i v H Q ->
  wpAny (model X.prog X.w) X.A (setItem ov iv u) (λ_ s' => ∃ H',Inv X pins σ H' s' /\ Q H') X.xe s
section
variable {X : Cx} {pos : Pos}
def yeM (i : Nat) : TG:=λv σ H Q=>Q (σ.set i (some v)) H
theorem zew {i : Nat} {x : Str} (hN : X.N.Nodup) (hi : X.N[i]? = some x) (hx : Loc X.env.scope x) (hf : X.fn x = true \/ X.env.scope.names.lookup x = some .local:=by first | exact .inl rfl | exact .inr rfl | assumption) : PG X (.Name x pos) (yeM i):=by
 intro pins s σ H v u Q I r h
 exact wpAny_assign_Name (zbm I hN hi hx r (λs' I' => ⟨_,H,I',h⟩) hf)
def gNil : TGs:=λvs σ H Q=>vs = [] /\ Q σ H
def yhK (t : TG) (u : TGs) : TGs:=λvs σ H Q=>∃ v r,vs = v :: r /\ t v σ H λσ' H' => u r σ' H' Q
theorem zhH : PGs X [] gNil:=by
 intro pins s σ H vs us Q I r h
 obtain ⟨e,h⟩:=h
 subst e
 cases r
 exact assignInOrder_nil ⟨σ,H,I,h⟩
theorem zgI {e : Expr} {es : List Expr} {t : TG} {u : TGs} (h1 : PG X e t) (h2 : PGs X es u)
  (hs : (assignEach (e :: es) X.env).map (·.2) = assign e X.env :: (assignEach es X.env).map (·.2):=by rfl) : PGs X (e :: es) (yhK t u):=by
 intro pins s σ H vs us Q I r h
 obtain ⟨v,vr,e1,h⟩:=h
 subst e1
 cases r with
 | cons r rr =>
  rw [hs]
  refine assignInOrder_cons (thn (h1 pins s σ H _ _ _ I r h) λ_ s1 ⟨σ1,H1,I1,q1⟩=>?_)
  exact h2 pins s1 σ1 H1 _ _ Q I1 rr q1
def gTup (K : PySem.W.Frag) (n : Nat) (t : TGs) : TG:=λv σ H Q=>∃ a xs,v = .ref a /\ SqT K H a xs /\ xs.length = n /\ t xs σ H Q
theorem ygm {es : List Expr} {k : Nat} {t : TGs} {n : Nat} (hc : X.calm = true) (h : PGs X es t)
  (hn : (assignEach es X.env).length = n:=by rfl) (hst : (assignEach es X.env).findIdx? (·.1) = none:=by rfl) : PG X (.Tuple es k pos) (gTup X.K n t):=by
 intro pins s σ H v u Q I r hw
 obtain ⟨a,xs,e1,hq,hl,hw⟩:=hw
 subst e1
 cases r
 obtain ⟨its,rv,ht,hz⟩:=I.tuple hq
 refine assign_Tuple_tuple (I.ok.hd hc) ht (by simp [hn,<- hl,rv.length]) hst λh' hx=>?_
 have I1 : Inv X pins σ H { s with heap:=h' }:=I.kept (t' := s.toks) λb o e=>hx b o (Nat.ne_of_lt (Heap.lt_size e)) e
 exact h pins _ σ H xs _ Q I1 (by simpa using rv) hw
def gSub (to ti : TE) (t : TSet) : TG:=λv σ H Q=>to σ H λo H1=>ti σ H1 λi H2=>t o i v H2 λH3=>Q σ H3
theorem ygn {o i : Expr} {to ti : TE} {t : TSet} (ho : PE X o to) (hi : PE X i ti) (hs : PSet X t)
  (ha : ∀ v,assign (.Subscript o i pos) X.env v = (do
   let ov <- holding [v] (eval o X.env)
   let iv <- holding [v,ov] (eval i X.env)
   standAt pos
   holding [v,ov,iv] (setItem ov iv v)
   release [v,ov,iv] []):=by intro _; rfl) : PG X (.Subscript o i pos) (gSub to ti t):=by
 intro pins s σ H v u Q I r h
 rw [ha]
 refine wpAny_bind (wpAny_holding (thn (ho pins s σ H _ I h) λov s1 ⟨x,H1,I1,r1,q1⟩=>?_))
 refine wpAny_bind (wpAny_holding (thn (hi pins s1 σ H1 _ I1 q1) λiv s2 ⟨y,H2,I2,r2,q2⟩=>?_))
 refine wpAny_bind (wpAny_standAt (wpAny_bind (wpAny_holding (thn (hs pins s2 σ H2 x y v ov iv u _ I2 r1 r2 r q2) λ_ s3 ⟨H3,I3,q3⟩=>?_))))
 exact wpAny_release ⟨σ,H3,I3,q3⟩
def tAsg (te : TE) (g : TG) : TS:=λD σ H=>te σ H λx H1=>g x σ H1 D.nx
theorem ye3 {tg e : Expr} {te : TE} {g : TG} (he : PE X e te) (hg : PG X tg g) (hs : swapsWithSole [tg] e pos.line X.env = pure false:=by rfl) (hw : swappedStores [tg] e X.env = pure none:=by rfl)
  (h1 : (assignEach [tg] X.env).map (·.2) = [assign tg X.env]:=by rfl) : PS X (.Assign [tg] e pos) (tAsg te g):=by
 intro pins s σ H D I h
 refine wpAny_Assign_stores (thn (he pins s σ H _ I h) λv s1 ⟨x,H1,I1,r1,q1⟩=>?_) hs hw
 rw [h1]
 exact thn (hg pins s1 σ H1 x v _ I1 r1 q1) λ_ s2 q=>q
theorem ygo {i : Nat} {x : Str} {e : Expr} {te : TE} {pos' : Pos} (hN : X.N.Nodup) (hi : X.N[i]? = some x) (hx : Loc X.env.scope x) (he : PE X e te) (hs : swapsWith e (some (.Name x pos')) pos.line X.env = pure false:=by rfl) (hf : X.fn x = true \/ X.env.scope.names.lookup x = some .local:=by first | exact .inl rfl | exact .inr rfl | assumption) :
  PS X (.Assign [.Name x pos'] e pos) (tAsg te (yeM i)):=by
 intro pins s σ H D I h
 refine wpAny_Assign_Name (thn (he pins s σ H _ I h) λv s1 ⟨y,H1,I1,r1,q1⟩=>?_) hs
 exact zbm I1 hN hi hx r1 (λs2 I2=>⟨_,H1,I2,q1⟩) hf
end
section
variable {X : Cx} {pos : Pos}
end
structure It where
 go : Nat -> Hp -> Prop
 yld : Nat -> Hp -> V -> Hp -> Prop
 stop : Nat -> Hp -> Prop
def FpOk (X : Cx) (pins : List (Addr × Obj)) (H : Hp) (b : Addr) : Prop :=
 H b = none /\ b ≠ X.env.locals /\ b ∉ X.fs /\ (b ∈ X.ex \/ X.s₀.heap.objs.size <= b) /\ (∀ x c,X.env.cells.lookup x = some c -> c ≠ b) /\ ∀ p ∈ X.pn++pins,p.1 ≠ b
theorem Inv.fpOk {X : Cx} {pins : List (Addr × Obj)} {σ : St} {H H' : Hp} {s : Shared} {b : Addr} (I : Inv X pins σ H s) (hb : s.heap.objs.size <= b) (hn : H' b = none) : FpOk X pins H' b:=by
 refine ⟨hn,Nat.ne_of_gt (Nat.lt_of_lt_of_le I.lt hb),I.nofs hb,.inr (Nat.le_trans I.sz hb),λx c e z=>?_,λp hp z=>?_⟩
 ·obtain ⟨v,q⟩:=I.cell x c e
  exact absurd (Nat.lt_of_lt_of_le q.lt (by rw [z]; exact hb)) (Nat.lt_irrefl _)
 ·exact absurd (Nat.lt_of_lt_of_le (Heap.lt_size (I.pin p hp).1) (by rw [z]; exact hb)) (Nat.lt_irrefl _)
structure Turn (P : Program) (w : World) (K : PySem.W.Frag) (tg : Expr) (J : It) (fp : List Addr) (it : Addr) (tn : Nat -> Heap -> Prop) : Prop where
 mem : it ∈ fp
 obj : ∀ i h,tn i h -> ∀ b ∈ fp,∃ o,h.get? b = some o /\ ∀ v,o.data ≠ .cell v
 keep : ∀ i h h',tn i h -> (∀ b ∈ fp,∀ o,h.get? b = some o -> h'.get? b = some o) -> tn i h'
 item : ∀ (X : Cx),X.prog = P -> X.w = w -> X.K = K -> X.calm = true -> ∀ (i : Nat) (pins : List (Addr × Obj)) (s : Shared) (σ : St) (H : Hp) (E : Value -> Shared -> Prop),Inv X pins σ H s -> (∀ b ∈ fp,FpOk X pins H b) -> tn i s.heap -> J.go i H ->
  wpAny (model P w) X.A (pyNext (.ref it)) (λr s1=>∃ u,r = some u /\
   wpAny (model P w) X.A (letOwnedTupleGo tg (.ref it) u) (λ_ s2=>∃ x H',Inv X pins σ H' s2 /\ RelV x u /\ J.yld i H x H' /\ tn (i + 1) s2.heap /\ ∀ b ∈ fp,H' b = none) E s1) E s
 done : ∀ (X : Cx),X.prog = P -> X.w = w -> X.K = K -> X.calm = true -> ∀ (i : Nat) (pins : List (Addr × Obj)) (s : Shared) (σ : St) (H : Hp) (E : Value -> Shared -> Prop),Inv X pins σ H s -> (∀ b ∈ fp,FpOk X pins H b) -> tn i s.heap -> J.stop i H ->
  wpAny (model P w) X.A (pyNext (.ref it)) (λr s1=>r = none /\ Inv X pins σ H s1) E s
 self : ∀ (A : Around) (i : Nat) (s : Shared) (Q : Value -> Shared -> Prop) (E : Value -> Shared -> Prop),tn i s.heap -> Q (.ref it) s -> wpAny (model P w) A (pyIter (.ref it)) Q E s
abbrev TI:=St -> Hp -> (It -> Hp -> Prop) -> Prop
def PIE (X : Cx) (pins : List (Addr × Obj)) (σ : St) (tg : Expr) (R : It -> Hp -> Prop) (itv : Value) (s2 : Shared) : Prop :=
 ∃ (it : Addr) (fp : List Addr) (tn : Nat -> Heap -> Prop) (J : It) (H' : Hp),itv = .ref it /\ Inv X pins σ H' s2 /\ Turn X.prog X.w X.K tg J fp it tn /\ tn 0 s2.heap /\ (∀ b ∈ fp,FpOk X pins H' b) /\ R J H'
def PI (X : Cx) (tg iter : Expr) (wi : TI) : Prop :=
 ∀ (pins : List (Addr × Obj)) (s : Shared) (σ : St) (H : Hp) (R : It -> Hp -> Prop),Inv X pins σ H s -> wi σ H R ->
  wpAny (model X.prog X.w) X.A (eval iter X.env) (λv s1=>wpAny (model X.prog X.w) X.A (pyIter v) (PIE X pins σ tg R) X.xe s1) X.xe s
theorem yei {M : Model} {A : Around} {E : Value -> Shared -> Prop} {s : Shared} {tg : Expr} {it : Addr} {u : Value} {o : Obj} {n : String} {vs : Array Value} {Q : Unit -> Shared -> Prop} (ho : s.heap.get? it = some o) (hc : o.cls = .type n) (hd : o.data = .fields vs)
  (hn : ["enumerate", "zip", "dict_itemiterator", "dict_reverseitemiterator", "odict_iterator", "itertools.zip_longest", "itertools.pairwise"].contains n = false) (hQ : Q () s) : wpAny M A (letOwnedTupleGo tg (.ref it) u) Q E s:=by
 unfold letOwnedTupleGo
 cases tg<;>first
  | exact wpAny_pure hQ
  | (cases u<;>first
    | exact wpAny_pure hQ
    | (refine wpAny_bind (wpAny_load ho ?_)
       rw [hc,hd]
       show wpAny M A (if (["enumerate", "zip", "dict_itemiterator", "dict_reverseitemiterator", "odict_iterator", "itertools.zip_longest", "itertools.pairwise"].contains n && vs[0]? == some (rawInt _)) = true then _ else _) Q E s
       rw [if_neg (by intro h; rw [hn,Bool.false_and] at h; cases h)]
       exact wpAny_pure hQ))
def Itl (K : PySem.W.Frag) (a : Addr) : It :=
 ⟨λi H=>∃ xs x,SqL K H a xs /\ xs[i]? = some x,λi H x H' => H' = H /\ ∀ xs,SqL K H a xs -> xs[i]? = some x,λi H=>∃ xs,SqL K H a xs /\ xs.length <= i⟩
def Itt (K : PySem.W.Frag) (a : Addr) : It :=
 ⟨λi H=>∃ xs x,SqT K H a xs /\ xs[i]? = some x,λi H x H' => H' = H /\ ∀ xs,SqT K H a xs -> xs[i]? = some x,λi H=>∃ xs,SqT K H a xs /\ xs.length <= i⟩
def Itr (lo : Int) (n : Nat) : It:=⟨λi _=>i < n,λi H x H' => H' = H /\ x = .int (lo + i),λi _=>n <= i⟩
theorem zfI {P : Program} {w : World} {K : PySem.W.Frag} {tg : Expr} (a it : Addr) : Turn P w K tg (Itl K a) [it] it (λi h=>h.IsListIter it a i) where
 mem:=by simp
 obj:=λi h st b hb=>by
  have e : b = it:=by simpa using hb
  subst e
  obtain ⟨o,e,c,d⟩:=st
  exact ⟨o,e,λv z=>by rw [d] at z; cases z⟩
 keep:=λi h h' st k=>st.at λo e=>k it (by simp) o e
 item:=by
  intro X hP hw hK hc i pins s σ H E I hf st hg
  subst hP hw hK
  obtain ⟨xs,x,hq,hx⟩:=hg
  obtain ⟨its,rv,p,hz⟩:=I.list hq
  obtain ⟨u,hu,ru⟩:=rv.get hx
  obtain ⟨f0,f1,f2,f3,f4,f5⟩:=hf it (by simp)
  refine wpAny_pyNext_list_item st p.isList (x:=u) (by simpa using hu) λh' st' sb=>?_
  have I1 : Inv X pins σ H { s with heap:=h' }:=I.turned (t' := s.toks) (λb o hb e=>(sb.2 b hb).trans e) f0 f1 f3 f4 f5
  obtain ⟨o,e,c,d⟩:=id st'
  exact ⟨u,rfl,yei (s:={ s with heap:=h' }) e c d (by decide) ⟨x,H,I1,ru,⟨rfl,λys hy=>by rw [I.list_inj hy hq]; exact hx⟩,st',λb hb=>(hf b hb).1⟩⟩
 done:=by
  intro X hP hw hK hc i pins s σ H E I hf st hg
  subst hP hw hK
  obtain ⟨xs,hq,hx⟩:=hg
  obtain ⟨its,rv,p,hz⟩:=I.list hq
  obtain ⟨f0,f1,f2,f3,f4,f5⟩:=hf it (by simp)
  have hl:=rv.length
  exact wpAny_pyNext_list_end (I.ok.hd hc) st p.isList (by simp; omega) λh' eb=>⟨rfl,I.turned (t' := s.toks) (λb o hb e=>eb b o hb e) f0 f1 f3 f4 f5⟩
 self:=λ_ _ _ _ _ st h=>wpAny_pyIter_listiter st h
theorem ze8 {P : Program} {w : World} {K : PySem.W.Frag} {tg : Expr} (a it : Addr) : Turn P w K tg (Itt K a) [it] it (λi h=>h.IsTupleIter it a i) where
 mem:=by simp
 obj:=λi h st b hb=>by
  have e : b = it:=by simpa using hb
  subst e
  obtain ⟨o,e,c,d⟩:=st
  exact ⟨o,e,λv z=>by rw [d] at z; cases z⟩
 keep:=λi h h' st k=>st.at λo e=>k it (by simp) o e
 item:=by
  intro X hP hw hK hc i pins s σ H E I hf st hg
  subst hP hw hK
  obtain ⟨xs,x,hq,hx⟩:=hg
  obtain ⟨its,rv,p,hz⟩:=I.tuple hq
  obtain ⟨u,hu,ru⟩:=rv.get hx
  obtain ⟨f0,f1,f2,f3,f4,f5⟩:=hf it (by simp)
  refine wpAny_pyNext_tuple_item st (show s.heap.IsTuple a its.toArray from p) (x:=u) (by simpa using hu) λh' st' sb=>?_
  have I1 : Inv X pins σ H { s with heap:=h' }:=I.turned (t' := s.toks) (λb o hb e=>(sb.2 b hb).trans e) f0 f1 f3 f4 f5
  obtain ⟨o,e,c,d⟩:=id st'
  exact ⟨u,rfl,yei (s:={ s with heap:=h' }) e c d (by decide) ⟨x,H,I1,ru,⟨rfl,λys hy=>by rw [I.tuple_inj hy hq]; exact hx⟩,st',λb hb=>(hf b hb).1⟩⟩
 done:=by
  intro X hP hw hK hc i pins s σ H E I hf st hg
  subst hP hw hK
  obtain ⟨xs,hq,hx⟩:=hg
  obtain ⟨its,rv,p,hz⟩:=I.tuple hq
  obtain ⟨f0,f1,f2,f3,f4,f5⟩:=hf it (by simp)
  have hl:=rv.length
  exact wpAny_pyNext_tuple_end (I.ok.hd hc) st (show s.heap.IsTuple a its.toArray from p) (by simp; omega) λh' eb=>⟨rfl,I.turned (t' := s.toks) (λb o hb e=>eb b o hb e) f0 f1 f3 f4 f5⟩
 self:=λ_ _ _ _ _ st h=>wpAny_pyIter_tupleiter st h
theorem ze9 {P : Program} {w : World} {K : PySem.W.Frag} {tg : Expr} (it : Addr) (lo : Int) (n : Nat) : Turn P w K tg (Itr lo n) [it] it (λi h=>IsRangeIter h it (lo + (i : Nat) * 1) ((n : Int) - (i : Nat)) 1) where
 mem:=by simp
 obj:=λi h st b hb=>by
  have e : b = it:=by simpa using hb
  subst e
  exact ⟨_,st,λv z=>by
   have z' : Data.fields _ = Data.cell v:=z
   cases z'⟩
 keep:=λi h h' st k=>k it (by simp) _ st
 item:=by
  intro X hP hw hK hc i pins s σ H E I hf st hg
  subst hP hw hK
  obtain ⟨f0,f1,f2,f3,f4,f5⟩:=hf it (by simp)
  have W:=Walks.range (prog:=X.prog) (w:=X.w) (I.ok.hd hc) it lo 1 n
  refine W.item i s _ _ hg st λv h' tk hv st' kk=>?_
  obtain ⟨t,rfl⟩:=hv
  have I1 : Inv X pins σ H { s with heap:=h',toks:=tk }:=I.turned (λb o hb e=>kk b o (by simpa using hb) e) f0 f1 f3 f4 f5
  refine ⟨_,rfl,yei (s:={ s with heap:=h',toks:=tk }) (n := "range_iterator") st' rfl rfl (by decide) ⟨.int (lo + i),H,I1,⟨t,?_⟩,⟨rfl,rfl⟩,st',λb hb=>(hf b hb).1⟩⟩
  rw [Int.mul_one]
 done:=by
  intro X hP hw hK hc i pins s σ H E I hf st hg
  subst hP hw hK
  obtain ⟨f0,f1,f2,f3,f4,f5⟩:=hf it (by simp)
  exact wpAny_pyNext_range_end (I.ok.hd hc) st (by have : n <= i:=hg; omega) λh' eb=>⟨rfl,I.turned (t' := s.toks) (λb o hb e=>eb b o hb e) f0 f1 f3 f4 f5⟩
 self:=λ_ _ _ _ _ st h=>wpAny_pyIter_rangeiter st h
end L2
namespace L2
open PySem PySem.Spec PyProof.Rows
section
variable {X : Cx} {tg : Expr}
def yfG (K : PySem.W.Frag) (tl : TE) : TI:=λσ H R=>tl σ H λx H1=>∃ a,x = .ref a /\ (∃ xs,SqL K H1 a xs) /\ R (Itl K a) H1
def iTup (K : PySem.W.Frag) (tl : TE) : TI:=λσ H R=>tl σ H λx H1=>∃ a,x = .ref a /\ (∃ xs,SqT K H1 a xs) /\ R (Itt K a) H1
theorem zhI {l : Expr} {tl : TE} (hl : PE X l tl) : PI X tg l (yfG X.K tl):=by
 intro pins s σ H R I h
 refine thn (hl pins s σ H _ I h) λv s1 ⟨x,H1,I1,r1,q1⟩=>?_
 obtain ⟨a,e,⟨xs,hq⟩,q⟩:=q1
 subst e
 cases r1
 obtain ⟨its,rv,p,hz⟩:=I1.list hq
 refine wpAny_pyIter_list p.isList ?_
 refine ⟨s1.heap.objs.size,[s1.heap.objs.size],_,_,H1,rfl,I1.kept (t' := s1.toks) λb o e=>Heap.get?_push_of_some _ e,zfI a _,⟨_,Heap.get?_push_size _ rfl,rfl,rfl⟩,λb hb=>?_,q⟩
 have e : b = s1.heap.objs.size:=by simpa using hb
 subst e
 exact I1.fpOk (Nat.le_refl _) (I1.hok.fresh (Nat.le_refl _))
theorem ygp {l : Expr} {tl : TE} (hl : PE X l tl) : PI X tg l (iTup X.K tl):=by
 intro pins s σ H R I h
 refine thn (hl pins s σ H _ I h) λv s1 ⟨x,H1,I1,r1,q1⟩=>?_
 obtain ⟨a,e,⟨xs,hq⟩,q⟩:=q1
 subst e
 cases r1
 obtain ⟨its,rv,p,hz⟩:=I1.tuple hq
 refine wpAny_pyIter_tuple (show s1.heap.IsTuple a its.toArray from p) ?_
 refine ⟨s1.heap.objs.size,[s1.heap.objs.size],_,_,H1,rfl,I1.kept (t' := s1.toks) λb o e=>Heap.get?_push_of_some _ e,ze8 a _,⟨_,Heap.get?_push_size _ rfl,rfl,rfl⟩,λb hb=>?_,q⟩
 have e : b = s1.heap.objs.size:=by simpa using hb
 subst e
 exact I1.fpOk (Nat.le_refl _) (I1.hok.fresh (Nat.le_refl _))
theorem zdC {pins : List (Addr × Obj)} {σ : St} {H : Hp} {s : Shared} {R : It -> Hp -> Prop} {E : Value -> Shared -> Prop} {lo hi : Int} {t u v : Tok} {tk : Nat} (I : Inv X pins σ H s) (h1 : -(2 ^ 62) <= lo) (h2 : lo < 2 ^ 62) (h3 : -(2 ^ 62) <= hi) (h4 : hi < 2 ^ 62)
  (q : R (Itr lo (hi - lo).toNat) H) : wpAny (model X.prog X.w) X.A (pyIter (.ref s.heap.objs.size)) (PIE X pins σ tg R) E { s with heap:=s.heap.push { cls:=.type "range",data:=.fields #[.int lo t,.int hi u,.int 1 v] },toks:=tk }:=by
 refine wpAny_pyIter_range (IsRange.new ..) (small_one h1 h2 h3 h4) ?_
 have I1 : Inv X pins σ H { s with heap:=s.heap.push { cls:=.type "range",data:=.fields #[.int lo t,.int hi u,.int 1 v] },toks:=tk }:=I.kept λb o e=>Heap.get?_push_of_some _ e
 refine ⟨(s.heap.push { cls:=.type "range",data:=.fields #[.int lo t,.int hi u,.int 1 v] }).objs.size,[(s.heap.push { cls:=.type "range",data:=.fields #[.int lo t,.int hi u,.int 1 v] }).objs.size],_,_,H,rfl,
  I1.kept (t' := tk) λb o e=>Heap.get?_push_of_some _ e,ze9 _ lo (hi - lo).toNat,?_,λb hb=>?_,q⟩
 ·have e1 : lo + ((0 : Nat) : Int) * 1 = lo:=by simp
  have e2 : (((hi - lo).toNat : Nat) : Int) - ((0 : Nat) : Int) = Builtin.Range.rangeSize lo hi 1:=by rw [rangeSize_one]; split<;>omega
  show IsRangeIter _ _ (lo + ((0 : Nat) : Int) * 1) ((((hi - lo).toNat : Nat) : Int) - ((0 : Nat) : Int)) 1
  rw [e1,e2]
  exact Heap.get?_push_size _ rfl
 ·have e : b = (s.heap.push { cls:=.type "range",data:=.fields #[.int lo t,.int hi u,.int 1 v] }).objs.size:=by simpa using hb
  subst e
  exact I1.fpOk (Nat.le_refl _) (I1.hok.fresh (Nat.le_refl _))
def yhL (ta : TA) : TI:=λσ H R=>ta σ H λvs H1=>∃ j : Int,vs = [.int j] /\ -(2 ^ 62) <= j /\ j < 2 ^ 62 /\ R (Itr 0 j.toNat) H1
def yhM (ta : TA) : TI:=λσ H R=>ta σ H λvs H1=>∃ i j : Int,vs = [.int i,.int j] /\ (-(2 ^ 62) <= i /\ i < 2 ^ 62 /\ -(2 ^ 62) <= j /\ j < 2 ^ 62) /\ R (Itr i (j - i).toNat) H1
theorem zfJ {a : Expr} {ta : TA} {p pos : Pos} (hg : Gl X "range") (hm : X.mg "range" = none) (ha : PA X [a] ta) (hs : starEach [a] X.env = [(false,eval a X.env)]:=by rfl) : PI X tg (.Call (.Name "range" p) [a] [] pos) (yhL ta):=by
 intro pins s σ H R I h
 refine Call_ (ycR I hg hm boot_range (PyProof.Rows.callWith_type1 (thn (ha pos pins s σ H _ I h) λus s1 ⟨vs,H1,I1,r1,q1⟩=>?_) hs rfl))
 obtain ⟨j,e,q1,q2,q⟩:=q1
 subst e
 cases r1 with
 | cons r rr =>
  cases rr
  obtain ⟨t,rfl⟩:=r
  exact call_range_1 (zdC I1 (by omega) (by omega) q1 q2 (by simpa using q))
theorem zfK {a b : Expr} {ta : TA} {p pos : Pos} (hg : Gl X "range") (hm : X.mg "range" = none) (ha : PA X [a,b] ta) (hs : starEach [a,b] X.env = [(false,eval a X.env),(false,eval b X.env)]:=by rfl) (hs2 : starEach [b] X.env = [(false,eval b X.env)]:=by rfl) :
  PI X tg (.Call (.Name "range" p) [a,b] [] pos) (yhM ta):=by
 intro pins s σ H R I h
 refine Call_ (ycR I hg hm boot_range (PyProof.Rows.callWith_type1 (thn (ha pos pins s σ H _ I h) λus s1 ⟨vs,H1,I1,r1,q1⟩=>?_) (by rw [hs,hs2]) (by rw [hs2]; rfl)))
 obtain ⟨i,j,e,⟨q1,q2,q3,q4⟩,q⟩:=q1
 subst e
 cases r1 with
 | cons r rr =>
  cases rr with
  | cons r' rr =>
   cases rr
   obtain ⟨t,rfl⟩:=r
   obtain ⟨t',rfl⟩:=r'
   exact call_range_2 (zdC I1 q1 q2 q3 q4 q)
def tFor (wi : TI) (g : TG) (tb : TS) : TS:=λD σ H=>wi σ H λJ H1=>∃ W : Nat -> Nat -> St -> Hp -> Prop,(∃ m,W 0 m σ H1) /\ ∀ i m σ H,W i m σ H ->
 (J.stop i H /\ D.nx σ H) \/ (J.go i H /\ ∃ N : St -> Hp -> Prop,(∀ σ' H',N σ' H' -> ∃ m',m' < m /\ W (i + 1) m' σ' H') /\ ∀ x H',J.yld i H x H' -> g x σ H' λσ2 H2=>tb { D with nx:=N,ct:=N,bk:=D.nx } σ2 H2)
def ycf (fp : List Addr) (h : Heap) : List (Addr × Obj):=fp.filterMap λb=>(h.get? b).map λo=>(b,o)
theorem zaV {fp : List Addr} {h : Heap} {b : Addr} {o : Obj} (hb : b ∈ fp) (e : h.get? b = some o) : (b,o) ∈ ycf fp h:=List.mem_filterMap.mpr ⟨b,hb,by rw [e]; rfl⟩
theorem zfL {fp : List Addr} {h : Heap} {p : Addr × Obj} (hp : p ∈ ycf fp h) : p.1 ∈ fp /\ h.get? p.1 = some p.2:=by
 obtain ⟨b,hb,e⟩:=List.mem_filterMap.mp hp
 cases q : h.get? b with
 | none=>rw [q] at e; cases e
 | some o =>
  rw [q] at e
  have e' : (b,o) = p:=Option.some.inj e
  subst e'
  exact ⟨hb,q⟩
theorem Inv.pinned {pins : List (Addr × Obj)} {σ : St} {H : Hp} {s : Shared} {fp : List Addr} (I : Inv X pins σ H s) (hf : ∀ b ∈ fp,FpOk X pins H b) (ho : ∀ b ∈ fp,∃ o,s.heap.get? b = some o /\ ∀ v,o.data ≠ .cell v) : Inv X (pins++ycf fp s.heap) σ H s :=
 I.pins_of λp hp=>(List.mem_append.mp hp).elim (λz=>I.pin p (List.mem_append_right _ z)) λz=>by
  obtain ⟨hb,e⟩:=zfL z
  obtain ⟨f0,f1,f2,_⟩:=hf p.1 hb
  obtain ⟨o,e',d⟩:=ho p.1 hb
  rw [e] at e'; cases e'
  exact ⟨e,f0,f1,f2,d⟩
theorem Inv.unpinned {pins pl : List (Addr × Obj)} {σ : St} {H : Hp} {s : Shared} (I : Inv X (pins++pl) σ H s) : Inv X pins σ H s:=I.pins_of λp hp=>I.pin p (List.mem_append_right _ (List.mem_append_left _ hp))
theorem ye4 {iter : Expr} {body : List Stmt} {wi : TI} {g : TG} {tb : TS} {pos : Pos} (hp : PassesOwn (model X.prog X.w) X.A X.env X.xe) (hc : X.calm = true) (hi : PI X tg iter wi) (hg : PG X tg g) (hb : PSs X body tb)
  (hs : ∀ x,foldedSetIterable iter X.env x = pure x:=by intro _; rfl) : PS X (.For tg iter body [] pos) (tFor wi g tb):=by
 intro pins s σ H D I h
 refine wpAny_For (thn (hi pins s σ H _ I h) λv s1 h1=>thn h1 λitv s2 h2=>?_) hs
 obtain ⟨it,fp,tn,J,H2,e,I2,T,st2,f2,W,⟨m0,w0⟩,turn⟩:=h2
 subst e
 have stat : ∀ {H' : Hp},(∀ b ∈ fp,H' b = none) -> ∀ b ∈ fp,FpOk X pins H' b:=λhn b hb=>⟨hn b hb,(f2 b hb).2⟩
 refine codeAny_forLoop_any (λn s' => ∃ i σ' H',Inv X pins σ' H' s' /\ tn i s'.heap /\ (∀ b ∈ fp,H' b = none) /\ W i n σ' H') ?_ m0 ⟨0,σ,H2,I2,st2,λb hb=>(f2 b hb).1,w0⟩
 rintro n s3 ⟨i,σ3,H3,I3,st3,fr3,w3⟩
 rcases turn i n σ3 H3 w3 with ⟨stop,qn⟩ | ⟨go,N,hN,step⟩
 ·refine wpAny_passesOwn hp (thn (T.done X rfl rfl rfl hc i pins s3 σ3 H3 X.xe I3 (stat fr3) st3 stop) λr s4 ⟨hr,I4⟩=>?_)
  subst hr
  exact wpAny_execs_nil ⟨σ3,H3,I4,qn⟩
 ·refine wpAny_passesOwn hp (thn (T.item X rfl rfl rfl hc i pins s3 σ3 H3 X.xe I3 (stat fr3) st3 go) λr s4 ⟨u,hr,h4⟩=>?_)
  subst hr
  refine wpAny_passesOwn hp (thn h4 λ_ s5 ⟨x,H5,I5,r5,y5,st5,fr5⟩=>?_)
  have I5' := I5.pinned (stat fr5) (T.obj _ _ st5)
  refine wpAny_passesOwn hp (thn (hg _ s5 σ3 H5 x u _ I5' r5 (step x H5 y5)) λ_ s6 ⟨σ6,H6,I6,q6⟩=>?_)
  refine wpAny_passesOwn hp (thn (hb _ s6 σ6 H6 _ I6 q6) λf s7 q7=>?_)
  have again : ∀ {σ7 : St} {H7 : Hp},Inv X (pins++ycf fp s5.heap) σ7 H7 s7 -> N σ7 H7 -> ∃ m,m < n /\ ∃ i σ' H',Inv X pins σ' H' s7 /\ tn i s7.heap /\ (∀ b ∈ fp,H' b = none) /\ W i m σ' H' := λ{σ7 H7} I7 n7=>by
   obtain ⟨m',hm,w7⟩:=hN σ7 H7 n7
   refine ⟨m',hm,i + 1,σ7,H7,I7.unpinned,T.keep _ _ _ st5 λb hb o e=>(I7.pin (b,o) (List.mem_append_right _ (List.mem_append_right _ (zaV hb e)))).1,λb hb=>?_,w7⟩
   obtain ⟨o,e,d⟩:=T.obj _ _ st5 b hb
   exact (I7.pin (b,o) (List.mem_append_right _ (List.mem_append_right _ (zaV hb e)))).2.1
  cases f with
  | next=>obtain ⟨σ7,H7,I7,n7⟩:=q7; exact again I7 n7
  | cont=>obtain ⟨σ7,H7,I7,n7⟩:=q7; exact again I7 n7
  | brk=>obtain ⟨σ7,H7,I7,q7⟩:=q7; exact ⟨σ7,H7,I7.unpinned,q7⟩
  | ret v=>obtain ⟨x7,σ7,H7,I7,r7,q7⟩:=q7; exact ⟨x7,σ7,H7,I7.unpinned,r7,q7⟩
end
end L2
namespace L2
open PySem PySem.Spec PyProof.Rows
abbrev R2:=V -> V -> Hp -> VK -> Prop
def OpR (X : Cx) (f : Value -> Value -> Sem Value) (r : R2) : Prop :=
 ∀ (pins : List (Addr × Obj)) (s : Shared) (σ : St) (H : Hp) (x y : V) (v u : Value) (Q : VK),Inv X pins σ H s -> RelV x v -> RelV y u -> r x y H Q ->
  wpAny (model X.prog X.w) X.A (f v u) (EP X pins σ Q) X.xe s
def UnR (X : Cx) (f : Value -> Sem Value) (r : V -> Hp -> VK -> Prop) : Prop :=
 ∀ (pins : List (Addr × Obj)) (s : Shared) (σ : St) (H : Hp) (x : V) (v : Value) (Q : VK),Inv X pins σ H s -> RelV x v -> r x H Q ->
  wpAny (model X.prog X.w) X.A (f v) (EP X pins σ Q) X.xe s
def CallR (X : Cx) (f : Value) (r : List V -> Hp -> VK -> Prop) : Prop :=
 ∀ (pins : List (Addr × Obj)) (s : Shared) (σ : St) (H : Hp) (xs : List V) (us : List Value) (Q : VK),Inv X pins σ H s -> Vals xs us -> r xs H Q ->
  wpAny (model X.prog X.w) X.A (call f us) (EP X pins σ Q) X.xe s
def TruR (X : Cx) (r : V -> Hp -> (Bool -> Hp -> Prop) -> Prop) : Prop :=
 ∀ (pins : List (Addr × Obj)) (s : Shared) (σ : St) (H : Hp) (x : V) (v : Value) (Q : Bool -> Hp -> Prop),Inv X pins σ H s -> RelV x v -> r x H Q ->
  wpAny (model X.prog X.w) X.A (truthy v) (TP X pins σ Q) X.xe s
def tOp (r : R2) (ta tb : TE) : TE:=λσ H Q=>ta σ H λx H1=>tb σ H1 λy H2=>r x y H2 Q
def tUn (r : V -> Hp -> VK -> Prop) (ta : TE) : TE:=λσ H Q=>ta σ H λx H1=>r x H1 Q
def rI (C : Int -> Int -> Prop) (g : Int -> Int -> V) : R2:=λx y H Q=>∃ i j,x = .int i /\ y = .int j /\ C i j /\ Q (g i j) H
def rI0 (g : Int -> Int -> V) : R2:=λx y H Q=>∃ i j,x = .int i /\ y = .int j /\ Q (g i j) H
def rU (g : Int -> V) : V -> Hp -> VK -> Prop:=λx H Q=>∃ i,x = .int i /\ Q (g i) H
section
variable {X : Cx} {a b c : Expr} {ta tb tc : TE} {pos : Pos}
theorem binT (ha : PE X a ta) (hb : PE X b tb) {pins : List (Addr × Obj)} {s : Shared} {σ : St} {H : Hp} {R : V -> V -> Hp -> Prop} (I : Inv X pins σ H s)
  (h : ta σ H λx H1=>tb σ H1 λy H2=>R x y H2) {Q : Value -> Shared -> Prop} {f : Value -> Value -> Sem Value}
  (hf : ∀ v u s2 x y H2,Inv X pins σ H2 s2 -> RelV x v -> RelV y u -> R x y H2 -> wpAny (model X.prog X.w) X.A (f v u) Q X.xe s2) :
  wpAny (model X.prog X.w) X.A (eval a X.env) (λv s₁=>wpAny (model X.prog X.w) X.A (eval b X.env) (λu s₂=>wpAny (model X.prog X.w) X.A (f v u) Q X.xe s₂) X.xe s₁) X.xe s:=by
 refine thn (ha pins s σ H _ I h) λv s1 ⟨x,H1,I1,r1,q1⟩=>?_
 refine thn (hb pins s1 σ H1 _ I1 q1) λu s2 ⟨y,H2,I2,r2,q2⟩=>?_
 exact hf v u s2 x y H2 I2 r1 r2 q2
theorem yhN {op : Operator} {r : R2} (ho : OpR X (binaryOp op) r) (ha : PE X a ta) (hb : PE X b tb) : PE X (.BinOp a op b pos) (tOp r ta tb):=by
 intro pins s σ H Q I h
 exact wpAny_BinOp (binT ha hb I h λv u s2 x y H2 I2 rx ry q=>ho pins s2 σ H2 x y v u Q I2 rx ry q)
theorem yhO {op : UnaryOp} {r : V -> Hp -> VK -> Prop} (ho : UnR X (unaryOp op) r) (ha : PE X a ta) : PE X (.UnaryOp op a pos) (tUn r ta):=by
 intro pins s σ H Q I h
 exact UnaryOp_ (thn (ha pins s σ H _ I h) λv s1 ⟨x,H1,I1,r1,q1⟩=>ho pins s1 σ H1 x v Q I1 r1 q1)
theorem opI {f : Value -> Value -> Sem Value} {C : Int -> Int -> Prop} {g : Int -> Int -> Int}
  (rule : ∀ (i j : Int) (t u : Tok) (s : Shared) (Q : Value -> Shared -> Prop) (E : Value -> Shared -> Prop),C i j -> Q (.int (g i j) s.toks) { s with toks:=s.toks + 1 } -> wpAny (model X.prog X.w) X.A (f (.int i t) (.int j u)) Q E s) :
  OpR X f (rI C λi j=>.int (g i j)):=by
 intro pins s σ H x y v u Q I rx ry h
 obtain ⟨i,j,rfl,rfl,hc,q⟩:=h
 obtain ⟨t,rfl⟩:=rx
 obtain ⟨t',rfl⟩:=ry
 exact rule i j t t' s _ _ hc ⟨.int (g i j),H,I.tok _,⟨_,rfl⟩,q⟩
theorem opI0 {f : Value -> Value -> Sem Value} {g : Int -> Int -> Int}
  (rule : ∀ (i j : Int) (t u : Tok) (s : Shared) (Q : Value -> Shared -> Prop) (E : Value -> Shared -> Prop),Q (.int (g i j) s.toks) { s with toks:=s.toks + 1 } -> wpAny (model X.prog X.w) X.A (f (.int i t) (.int j u)) Q E s) :
  OpR X f (rI0 λi j=>.int (g i j)):=by
 intro pins s σ H x y v u Q I rx ry h
 obtain ⟨i,j,rfl,rfl,q⟩:=h
 obtain ⟨t,rfl⟩:=rx
 obtain ⟨t',rfl⟩:=ry
 exact rule i j t t' s _ _ ⟨.int (g i j),H,I.tok _,⟨_,rfl⟩,q⟩
theorem opB0 {f : Value -> Value -> Sem Value} {g : Int -> Int -> Bool}
  (rule : ∀ (i j : Int) (t u : Tok) (s : Shared) (Q : Value -> Shared -> Prop) (E : Value -> Shared -> Prop),Q (.bool (g i j)) s -> wpAny (model X.prog X.w) X.A (f (.int i t) (.int j u)) Q E s) :
  OpR X f (rI0 λi j=>.bl (g i j)):=by
 intro pins s σ H x y v u Q I rx ry h
 obtain ⟨i,j,rfl,rfl,q⟩:=h
 obtain ⟨t,rfl⟩:=rx
 obtain ⟨t',rfl⟩:=ry
 exact rule i j t t' s _ _ ⟨.bl (g i j),H,I,rfl,q⟩
def CPow (i j : Int) : Prop:=0 <= j /\ j <= 1000000 /\ i.natAbs < 2 ^ 64
def CMul (i j : Int) : Prop:=(-(2 ^ 64) < i /\ i < 2 ^ 64) \/ (-(2 ^ 64) < j /\ j < 2 ^ 64)
theorem CMul.ok {i j : Int} (h : CMul i j) : IntMulOk i j:=by
 rcases h with ⟨h1,h2⟩ | ⟨h1,h2⟩
 ·exact .of_left (intBits_le_64 h1 h2)
 ·exact .of_right (intBits_le_64 h1 h2)
theorem op_add : OpR X (binaryOp .Add) (rI0 λi j=>.int (i + j)):=opI0 λ_ _ _ _ _ _ _ q=>add_int q
theorem ygq : OpR X (binaryOp .Sub) (rI0 λi j=>.int (i - j)):=opI0 λ_ _ _ _ _ _ _ q=>sub_int q
theorem ygr : OpR X (binaryOp .Mod) (rI (λ_ j=>0 < j) λi j=>.int (i % j)):=opI λi j _ _ _ _ _ hc q=>by
 have h1 : (0 : Int) < j:=hc
 exact mod_int' (by omega) (by rw [Int.fmod_eq_emod_of_nonneg i (by omega)]; exact q)
theorem ygs : OpR X (binaryOp .Pow) (rI CPow λi j=>.int (i ^ j.toNat)):=opI λ_ _ _ _ _ _ _ hc q=>pow_int_small hc.1 hc.2.1 hc.2.2 q
theorem unI {f : Value -> Sem Value} {g : Int -> Int}
  (rule : ∀ (i : Int) (t : Tok) (s : Shared) (Q : Value -> Shared -> Prop) (E : Value -> Shared -> Prop),Q (.int (g i) s.toks) { s with toks:=s.toks + 1 } -> wpAny (model X.prog X.w) X.A (f (.int i t)) Q E s) :
  UnR X f (rU λi=>.int (g i)):=by
 intro pins s σ H x v Q I rx h
 obtain ⟨i,rfl,q⟩:=h
 obtain ⟨t,rfl⟩:=rx
 exact rule i t s _ _ ⟨.int (g i),H,I.tok _,⟨_,rfl⟩,q⟩
theorem ygt : UnR X (unaryOp .USub) (rU λi=>.int (-i)):=unI λ_ _ _ _ _ q=>neg_int q
end
def scal : V -> V -> Bool
 | .non,.non=>true | .non,.int _=>true | .int _,.non=>true | .non,.bl _=>true | .bl _,.non=>true | .non,.str _=>true | .str _,.non=>true
 | .int _,.int _=>true | .bl _,.bl _=>true | .str _,.str _=>true | .byt _,.byt _=>true
 | .int _,.str _=>true | .str _,.int _=>true | .bl _,.str _=>true | .str _,.bl _=>true
 | _,_=>false
def rEq : R2:=λx y H Q=>scal x y = true /\ Q (.bl (decide (x = y))) H
def rNe : R2:=λx y H Q=>scal x y = true /\ Q (.bl (!decide (x = y))) H
theorem zex {i j : Int} : decide (V.int i = V.int j) = (i == j):=by
 rw [Bool.eq_iff_iff]
 simp
theorem ye5 {i j : Bool} : decide (V.bl i = V.bl j) = (i == j):=by
 rw [Bool.eq_iff_iff]
 simp
theorem zey {i j : Str} : decide (V.str i = V.str j) = (i == j):=by
 rw [Bool.eq_iff_iff]
 simp
theorem zez {i j : Array UInt8} : decide (V.byt i = V.byt j) = (i.toList == j.toList):=by
 rw [Bool.eq_iff_iff]
 cases i
 cases j
 simp
section
variable {X : Cx} {a b c : Expr} {ta tb tc : TE} {pos : Pos}
theorem yaE {pins : List (Addr × Obj)} {σ : St} {H : Hp} {s : Shared} {Q : VK} {k k' : Bool} (I : Inv X pins σ H s) (q : Q (.bl k) H) (e : k = k') : EP X pins σ Q (.bool k') s:=by
 subst e
 exact ⟨.bl k,H,I,rfl,q⟩
theorem op_eq : OpR X (compareOp .Eq) rEq:=by
 intro pins s σ H x y v u Q I rx ry h
 obtain ⟨hs,q⟩:=h
 cases x with
 | non =>
  cases rx
  cases y with
  | non=>cases ry; exact PySem.EqNone.eq_none_none (yaE I q (by simp))
  | bl j=>cases ry; exact PySem.EqNone.eq_none_bool (yaE I q (by simp))
  | int j=>obtain ⟨t',rfl⟩:=ry; exact PySem.EqNone.eq_none_int (yaE I q (by simp))
  | str j=>obtain ⟨t',rfl⟩:=ry; exact PySem.EqNone.eq_none_str (yaE I q (by simp))
  | _=>exact absurd (show false = true from hs) Bool.false_ne_true
 | bl i =>
  cases rx
  cases y with
  | non=>cases ry; exact PySem.EqNone.eq_bool_none (yaE I q (by simp))
  | bl j=>cases ry; exact eq_bool (yaE I q ye5)
  | str j=>obtain ⟨t',rfl⟩:=ry; exact PySem.EqMixed.eq_bool_str (yaE I q (by simp))
  | _=>exact absurd (show false = true from hs) Bool.false_ne_true
 | int i =>
  obtain ⟨t,rfl⟩:=rx
  cases y with
  | non=>cases ry; exact PySem.EqNone.eq_int_none (yaE I q (by simp))
  | int j=>obtain ⟨t',rfl⟩:=ry; exact eq_int (yaE I q zex)
  | str j=>obtain ⟨t',rfl⟩:=ry; exact PySem.EqMixed.eq_int_str (yaE I q (by simp))
  | _=>exact absurd (show false = true from hs) Bool.false_ne_true
 | str i =>
  obtain ⟨t,rfl⟩:=rx
  cases y with
  | non=>cases ry; exact PySem.EqNone.eq_str_none (yaE I q (by simp))
  | bl j=>cases ry; exact PySem.EqMixed.eq_str_bool (yaE I q (by simp))
  | int j=>obtain ⟨t',rfl⟩:=ry; exact PySem.EqMixed.eq_str_int (yaE I q (by simp))
  | str j=>obtain ⟨t',rfl⟩:=ry; exact eq_str (yaE I q zey)
  | _=>exact absurd (show false = true from hs) Bool.false_ne_true
 | byt i =>
  obtain ⟨t,rfl⟩:=rx
  cases y with
  | byt j=>obtain ⟨t',rfl⟩:=ry; exact PySem.W.eq_bytes (yaE I q zez)
  | _=>exact absurd (show false = true from hs) Bool.false_ne_true
 | _=>cases y<;>exact absurd (show false = true from hs) Bool.false_ne_true
theorem op_ne : OpR X (compareOp .NotEq) rNe:=by
 intro pins s σ H x y v u Q I rx ry h
 obtain ⟨hs,q⟩:=h
 cases x with
 | non =>
  cases rx
  cases y with
  | non=>cases ry; exact PySem.EqNone.ne_none_none (yaE I q (by simp))
  | bl j=>cases ry; exact PySem.EqNone.ne_none_bool (yaE I q (by simp))
  | int j=>obtain ⟨t',rfl⟩:=ry; exact PySem.EqNone.ne_none_int (yaE I q (by simp))
  | str j=>obtain ⟨t',rfl⟩:=ry; exact PySem.EqNone.ne_none_str (yaE I q (by simp))
  | _=>exact absurd (show false = true from hs) Bool.false_ne_true
 | bl i =>
  cases rx
  cases y with
  | non=>cases ry; exact PySem.EqNone.ne_bool_none (yaE I q (by simp))
  | bl j=>cases ry; exact ne_bool (yaE I q (congrArg not ye5))
  | str j=>obtain ⟨t',rfl⟩:=ry; exact PySem.EqMixed.ne_bool_str (yaE I q (by simp))
  | _=>exact absurd (show false = true from hs) Bool.false_ne_true
 | int i =>
  obtain ⟨t,rfl⟩:=rx
  cases y with
  | non=>cases ry; exact PySem.EqNone.ne_int_none (yaE I q (by simp))
  | int j=>obtain ⟨t',rfl⟩:=ry; exact ne_int (yaE I q (congrArg not zex))
  | str j=>obtain ⟨t',rfl⟩:=ry; exact PySem.EqMixed.ne_int_str (yaE I q (by simp))
  | _=>exact absurd (show false = true from hs) Bool.false_ne_true
 | str i =>
  obtain ⟨t,rfl⟩:=rx
  cases y with
  | non=>cases ry; exact PySem.EqNone.ne_str_none (yaE I q (by simp))
  | bl j=>cases ry; exact PySem.EqMixed.ne_str_bool (yaE I q (by simp))
  | int j=>obtain ⟨t',rfl⟩:=ry; exact PySem.EqMixed.ne_str_int (yaE I q (by simp))
  | str j=>obtain ⟨t',rfl⟩:=ry; exact ne_str (yaE I q (congrArg not zey))
  | _=>exact absurd (show false = true from hs) Bool.false_ne_true
 | byt i =>
  obtain ⟨t,rfl⟩:=rx
  cases y with
  | byt j=>obtain ⟨t',rfl⟩:=ry; exact PySem.W.ne_bytes (yaE I q (congrArg not zez))
  | _=>exact absurd (show false = true from hs) Bool.false_ne_true
 | _=>cases y<;>exact absurd (show false = true from hs) Bool.false_ne_true
theorem op_le : OpR X (compareOp .LtE) (rI0 λi j=>.bl (decide (i <= j))):=opB0 λ_ _ _ _ _ _ _ q=>le_int q
theorem yhP : OpR X (compareOp .Gt) (rI0 λi j=>.bl (decide (j < i))):=opB0 λ_ _ _ _ _ _ _ q=>gt_int q
theorem yhQ : OpR X (compareOp .GtE) (rI0 λi j=>.bl (decide (j <= i))):=opB0 λ_ _ _ _ _ _ _ q=>ge_int q
theorem ygu : OpR X (compareOp .Is) (λx y H Q=>y = .non /\ Q (.bl (decide (x = .non))) H):=by
 intro pins s σ H x y v u Q I rx ry h
 obtain ⟨rfl,q⟩:=h
 cases ry
 refine is_none_gen (yaE I q ?_)
 cases x<;>first
  | (cases rx; rfl)
  | (obtain ⟨t,rfl⟩:=rx; rfl)
theorem zhJ : OpR X (compareOp .IsNot) (λx y H Q=>y = .non /\ Q (.bl (!decide (x = .non))) H):=by
 intro pins s σ H x y v u Q I rx ry h
 obtain ⟨rfl,q⟩:=h
 cases ry
 refine isnot_none_gen (yaE I q ?_)
 cases x<;>first
  | (cases rx; rfl)
  | (obtain ⟨t,rfl⟩:=rx; rfl)
theorem OpR.or {f : Value -> Value -> Sem Value} {r r' : R2} (h : OpR X f r) (h' : OpR X f r') : OpR X f (λx y H Q=>r x y H Q \/ r' x y H Q):=by
 intro pins s σ H x y v u Q I rx ry q
 rcases q with q | q
 ·exact h pins s σ H x y v u Q I rx ry q
 ·exact h' pins s σ H x y v u Q I rx ry q
theorem yaA (b : Expr) {op : CmpOp} (h : op ≠ .In:=by decide) (h2 : op ≠ .NotIn:=by decide) : behindInMarks op b = false:=by
 have e1 : (op == CmpOp.In) = false:=by cases op<;>first | rfl | exact absurd rfl h
 have e2 : (op == CmpOp.NotIn) = false:=by cases op<;>first | rfl | exact absurd rfl h2
 cases b<;>simp [behindInMarks,e1,e2]
theorem zhK {op : CmpOp} {r : R2} (ho : OpR X (compareOp op) r) (ha : PE X a ta) (hb : PE X b tb) (hm : behindInMarks op b = false) : PE X (.Compare a [op] [b] pos) (tOp r ta tb):=by
 intro pins s σ H Q I h
 exact wpAny_Compare1 (binT ha hb I h λv u s2 x y H2 I2 rx ry q=>ho pins s2 σ H2 x y v u Q I2 rx ry q) hm
def yfH (t : TE) : TT:=λσ H Q=>t σ H λx H' => ∃ k,x = .bl k /\ Q k H'
theorem zhL {op : CmpOp} {r : R2} (ho : OpR X (compareOp op) r) (ha : PE X a ta) (hb : PE X b tb) (hm : behindInMarks op b = false) : PT X (.Compare a [op] [b] pos) (yfH (tOp r ta tb)):=by
 intro pins s σ H Q I h
 refine wpAny_isTrue_Compare1 (thn (ha pins s σ H _ I h) λv s1 ⟨x,H1,I1,r1,q1⟩=>thn (hb pins s1 σ H1 _ I1 q1) λu s2 ⟨y,H2,I2,r2,q2⟩ =>
  thn (ho pins s2 σ H2 x y v u _ I2 r1 r2 q2) λc s3 ⟨z,H3,I3,r3,k,e,q3⟩=>?_) hm
 subst e
 cases r3
 exact wpAny_truthy_bool ⟨H3,I3,q3⟩
def yew (r r' : R2) (ta tb tc : TE) : TE:=λσ H Q=>ta σ H λx H1=>tb σ H1 λy H2=>r x y H2 λz H3=>∃ k,z = .bl k /\
 (if k = true then tc σ H3 λw' H4=>r' y w' H4 Q else Q (.bl false) H3)
theorem zgJ {op op' : CmpOp} {r r' : R2} (ho : OpR X (compareOp op) r) (ho' : OpR X (compareOp op') r') (ha : PE X a ta) (hb : PE X b tb) (hc : PE X c tc)
  (hm : lastMarks [op,op'] [b,c] = false:=by with_unfolding_all rfl) : PE X (.Compare a [op,op'] [b,c] pos) (yew r r' ta tb tc):=by
 intro pins s σ H Q I h
 refine Compare_chain (thn (ha pins s σ H _ I h) λv s1 ⟨x,H1,I1,r1,q1⟩=>chain_link (thn (hb pins s1 σ H1 _ I1 q1) λu s2 ⟨y,H2,I2,r2,q2⟩ =>
  thn (ho pins s2 σ H2 x y v u _ I2 r1 r2 q2) λd s3 ⟨z,H3,I3,r3,k,e,q3⟩=>?_)) hm
 subst e
 cases r3
 refine wpAny_truthy_bool ?_
 cases k with
 | false=>exact ite_ff ⟨.bl false,H3,I3,rfl,q3⟩
 | true=>exact ite_tt (chain_last (thn (hc pins s3 σ H3 _ I3 q3) λw' s4 ⟨z',H4,I4,r4,q4⟩=>ho' pins s4 σ H4 y z' u w' Q I4 r2 r4 q4))
theorem zgK {op op' : CmpOp} {r r' : R2} (ho : OpR X (compareOp op) r) (ho' : OpR X (compareOp op') r') (ha : PE X a ta) (hb : PE X b tb) (hc : PE X c tc)
  (hm : lastMarks [op,op'] [b,c] = false:=by with_unfolding_all rfl) : PT X (.Compare a [op,op'] [b,c] pos) (yfH (yew r r' ta tb tc)):=by
 intro pins s σ H Q I h
 refine isTrue_chain (thn (ha pins s σ H _ I h) λv s1 ⟨x,H1,I1,r1,q1⟩=>test_link (thn (hb pins s1 σ H1 _ I1 q1) λu s2 ⟨y,H2,I2,r2,q2⟩ =>
  thn (ho pins s2 σ H2 x y v u _ I2 r1 r2 q2) λd s3 ⟨z,H3,I3,r3,k,e,q3⟩=>?_)) hm
 subst e
 cases r3
 refine wpAny_truthy_bool ?_
 cases k with
 | false =>
  obtain ⟨k',e',q'⟩:=q3
  cases e'
  exact ite_ff ⟨H3,I3,q'⟩
 | true =>
  refine ite_tt (test_last (thn (hc pins s3 σ H3 _ I3 q3) λw' s4 ⟨z',H4,I4,r4,q4⟩=>thn (ho' pins s4 σ H4 y z' u w' _ I4 r2 r4 q4) λd' s5 ⟨z2,H5,I5,r5,k2,e2,q5⟩=>?_))
  subst e2
  cases r5
  exact wpAny_truthy_bool ⟨H5,I5,q5⟩
def TruV (K : PySem.W.Frag) (x : V) (H : Hp) (k : Bool) : Prop :=
 match x with
 | .non=>k = false
 | .bl b=>k = b
 | .int i=>k = (i != 0)
 | .str y=>y.length <= sizeLine /\ k = ((y.length : Int) != 0)
 | .byt y=>y.size <= sizeLine /\ k = ((y.size : Int) != 0)
 | .ref p=>(∃ xs,SqL K H p xs /\ k = !xs.isEmpty) \/ (∃ xs,SqT K H p xs /\ k = !xs.isEmpty) \/ ∃ kvs,H p = some (.dK kvs) /\ k = !kvs.isEmpty
 | _=>False
theorem zfa {κ : Type} {kvs : List (κ × V)} {vs : List (κ × Value)} (r : KV kvs vs) : (!vs.isEmpty) = !kvs.isEmpty:=by
 cases r<;>rfl
theorem zcw {xs : List V} {its : List Value} (r : Vals xs its) : (!its.toArray.isEmpty) = !xs.isEmpty:=by
 cases r<;>simp
theorem ycS : (sizeLine : Nat) < 2 ^ 63:=by rw [sizeLine_eq]; decide
theorem ygv : TruR X (λx H Q=>∃ k,TruV X.K x H k /\ Q k H):=by
 intro pins s σ H x v Q I rx h
 obtain ⟨k,e,q⟩:=h
 have hl:=ycS
 have hs : sizeLine = 16777216:=sizeLine_eq
 cases x with
 | non =>
  cases rx
  have e' : k = false:=e
  subst e'
  exact truthy_none ⟨H,I,q⟩
 | bl b =>
  cases rx
  have e' : k = b:=e
  subst e'
  exact wpAny_truthy_bool ⟨H,I,q⟩
 | int i =>
  obtain ⟨t,rfl⟩:=rx
  have e' : k = (i != 0):=e
  subst e'
  exact PySem.P.truthy_int ⟨H,I,q⟩
 | str y =>
  obtain ⟨t,rfl⟩:=rx
  obtain ⟨hy,e'⟩ : y.length <= sizeLine /\ k = ((y.length : Int) != 0):=e
  subst e'
  exact PySem.P.truthy_str (by omega) ⟨H,I.tok _,q⟩
 | byt y =>
  obtain ⟨t,rfl⟩:=rx
  obtain ⟨hy,e'⟩ : y.size <= sizeLine /\ k = ((y.size : Int) != 0):=e
  subst e'
  exact PySem.W.truthy_bytes (by omega) ⟨H,I.tok _,q⟩
 | ref p =>
  cases rx
  have e' : (∃ xs,SqL X.K H p xs /\ k = !xs.isEmpty) \/ (∃ xs,SqT X.K H p xs /\ k = !xs.isEmpty) \/ ∃ kvs,H p = some (.dK kvs) /\ k = !kvs.isEmpty:=e
  rcases e' with ⟨xs,hx,e'⟩ | ⟨xs,hx,e'⟩ | ⟨kvs,hx,e'⟩
  ·subst e'
   obtain ⟨its,r,pl,hz⟩:=I.list hx
   have hlen:=r.length
   exact wpAny_truthy_list pl.isList (by simp only [List.size_toArray]; omega) ⟨H,I.tok _,by rw [zcw r]; exact q⟩
  ·subst e'
   obtain ⟨its,r,pl,hz⟩:=I.tuple hx
   have hlen:=r.length
   exact truthy_tuple pl (by simp only [List.size_toArray]; omega) ⟨H,I.tok _,by rw [zcw r]; exact q⟩
  ·subst e'
   obtain ⟨hz,hS,vs,r,m⟩ : kvs.length <= sizeLine /\ (p == sysModules) = false /\ ∃ vs,KV kvs vs /\ s.heap.DictOf (ybG X.prog X.w) p vs:=I.hok p _ hx
   have hlen : kvs.length = vs.length:=Paired.length r
   exact wpAny_truthy_dict hS m (by omega) ⟨H,I.tok _,by rw [zfa r]; exact q⟩
 | _=>exact (show False from e).elim
theorem zgL (ha : PE X a ta) (he : ∀ whole,isTrue a X.env whole = (do let v <- whole; standAt a.pos; holding [v] (truthy v))) :
  PT X a (λσ H Q=>ta σ H λx H' => ∃ k,TruV X.K x H' k /\ Q k H'):=by
 intro pins s σ H Q I h
 exact isTrue_plain (thn (ha pins s σ H _ I h) λv s1 ⟨x,H1,I1,r1,q1⟩=>ygv pins s1 σ H1 x v Q I1 r1 q1) (he _)
theorem zfb : OpR X (binaryOp .Add) (λx y H Q=>∃ i j,x = .str i /\ y = .str j /\ i.length + j.length <= sizeLine /\ Q (.str (i++j)) H):=by
 intro pins s σ H x y v u Q I rx ry h
 obtain ⟨i,j,rfl,rfl,hz,q⟩:=h
 obtain ⟨t,rfl⟩:=rx
 obtain ⟨t',rfl⟩:=ry
 exact add_str (λt' tk=>⟨.str (i++j),H,I.tok _,⟨_,rfl⟩,q⟩) hz
theorem ybJ {x : V} {us : List Value} (r : Vals [x] us) : ∃ u,us = [u] /\ RelV x u:=by
 cases r with
 | cons r1 r2=>cases r2; exact ⟨_,rfl,r1⟩
theorem ydW {x y : V} {us : List Value} (r : Vals [x,y] us) : ∃ u w',us = [u,w'] /\ RelV x u /\ RelV y w' := by
 cases r with
 | cons r1 r2 =>
  cases r2 with
  | cons r3 r4=>cases r4; exact ⟨_,_,rfl,r1,r3⟩
theorem zgM : CallR X (.builtin "abs") (λxs H Q=>∃ i,xs = [.int i] /\ Q (.int (if i < 0 then -i else i)) H):=by
 intro pins s σ H xs us Q I r h
 obtain ⟨i,rfl,q⟩:=h
 obtain ⟨u,rfl,t,rfl⟩:=ybJ r
 exact call_abs_int λu tk=>⟨.int (if i < 0 then -i else i),H,I.tok _,⟨_,rfl⟩,q⟩
theorem zfM (hc : X.calm = true) : CallR X (.builtin "max") (λxs H Q=>∃ i j,xs = [.int i,.int j] /\ Q (.int (if j > i then j else i)) H):=by
 intro pins s σ H xs us Q I r h
 obtain ⟨i,j,rfl,q⟩:=h
 obtain ⟨u,w',rfl,⟨t,rfl⟩,⟨t',rfl⟩⟩:=ydW r
 refine max_two_ints (I.ok.hd hc) λh' tk k=>⟨_,H,I.kept k,?_,q⟩
 by_cases hj : j > i
 ·rw [if_pos hj,if_pos hj]; exact ⟨_,rfl⟩
 ·rw [if_neg hj,if_neg hj]; exact ⟨_,rfl⟩
theorem zfN (hc : X.calm = true) : CallR X (.builtin "min") (λxs H Q=>∃ i j,xs = [.int i,.int j] /\ Q (.int (if j < i then j else i)) H):=by
 intro pins s σ H xs us Q I r h
 obtain ⟨i,j,rfl,q⟩:=h
 obtain ⟨u,w',rfl,⟨t,rfl⟩,⟨t',rfl⟩⟩:=ydW r
 refine min_two_ints (I.ok.hd hc) λh' tk k=>⟨_,H,I.kept k,?_,q⟩
 by_cases hj : j < i
 ·rw [if_pos hj,if_pos hj]; exact ⟨_,rfl⟩
 ·rw [if_neg hj,if_neg hj]; exact ⟨_,rfl⟩
theorem zfO : CallR X (.type "int") (λxs H Q=>(∃ i,xs = [.int i] /\ Q (.int i) H) \/ ∃ k,xs = [.bl k] /\ Q (.int (if k then 1 else 0)) H):=by
 intro pins s σ H xs us Q I r h
 rcases h with ⟨i,rfl,q⟩ | ⟨k,rfl,q⟩
 ·obtain ⟨u,rfl,t,rfl⟩:=ybJ r
  exact call_int_int ⟨.int i,H,I,⟨_,rfl⟩,q⟩
 ·obtain ⟨u,rfl,r1⟩:=ybJ r
  cases r1
  exact call_int_bool ⟨.int (if k then 1 else 0),H,I.tok _,⟨_,rfl⟩,q⟩
end
end L2
namespace L2
open PySem PySem.Spec PyProof.Rows
structure ObjM (h : Heap) (x dx C : Addr) (mA : Str -> Option Value) : Prop where
 obj : h.get? x = some (PySem.W.instObj C dx)
 ns : h.Ns1 dx mA
 ne : dx ≠ x
theorem zfP {h : Heap} {dx : Addr} {mA : Str -> Option Value} (n : h.Ns1 dx mA) : ∃ od,h.get? dx = some od /\ ∀ name,PySem.W.lookIn name od = some (mA name):=by
 obtain ⟨o,es,ep,ho,hd,hk,_,hm⟩:=n
 refine ⟨o,ho,λname=>?_⟩
 have e:=hm name
 unfold nsFind findBy at e
 rw [<- Array.find?_toList] at e
 unfold PySem.W.lookIn
 rw [hd]
 dsimp only
 split
 ·rename_i y q
  rw [q] at e
  exact congrArg some e
 ·rename_i q
  rw [q] at e
  have a : es.toList.any (·.refKey) = false:=by
   rw [List.any_eq_false]
   intro y hy
   obtain ⟨z,t,hkey⟩:=hk y (Array.mem_toList_iff.mp hy)
   simp [DictEntry.refKey,hkey]
  have a' : ¬ es.toList.any (·.refKey) = true:=by rw [a]; exact Bool.false_ne_true
  rw [if_neg a']
  exact congrArg some e
theorem ObjM.look {h : Heap} {x dx C : Addr} {mA : Str -> Option Value} (I : ObjM h x dx C mA) : ∃ od,PySem.W.InstAt h x (PySem.W.instObj C dx) C (some od) /\ ∀ name,PySem.W.lookIn name od = some (mA name) :=
 let ⟨od,ho,hl⟩:=zfP I.ns
 ⟨od,⟨I.obj,rfl,rfl,ho⟩,hl⟩
section
variable {prog : Program} {w : World} {A : Around} {E : Value -> Shared -> Prop} {s : Shared} {K : PySem.W.Frag} {x dx C f : Addr} {mA : Str -> Option Value} {name : Str} {v : Value}
theorem zhM {expr : Bool} {Q : Value -> Shared -> Prop} (X : K.In s.heap) (I : ObjM s.heap x dx C mA) (hg : PySem.W.plainGet K C name = true) (hh : PySem.W.hasDictIn K C = true)
  (ha : PySem.W.findIn K (.ref C) name = some none) (hv : mA name = some v) (hv' : PySem.W.handedIn v = true) (h : Q v { s with toks:=s.toks + 1 }) :
  wpAny (model prog w) A (getAttr (.ref x) name expr) Q E s:=by
 obtain ⟨od,J,hl⟩:=I.look
 exact PySem.W.get_value X J (PySem.W.plainGet_of hg).1 (PySem.W.findObj_own hh ha rfl (by rw [hl,hv])) hv' h
theorem zgN {pl : Sem Bool} {Q : Value × List Value -> Shared -> Prop} (X : K.In s.heap) (I : ObjM s.heap x dx C mA) (hg : PySem.W.plainGet K C name = true)
  (hf : PySem.W.findIn K (.ref C) name = some (some (.ref f))) (ht : PySem.W.isFn K (.ref f) = true) (hv : mA name = none) (h : Q (.ref f,[.ref x]) s) :
  wpAny (model prog w) A (getMethod (.ref x) name pl) Q E s:=by
 obtain ⟨od,J,hl⟩:=I.look
 exact PySem.W.method_fn X J (PySem.W.plainGet_of hg).1 (PySem.W.plainGet_of hg).2 hf (beq_iff_eq.mp ht) (by show (PySem.W.lookIn name od).map (·.isSome) = some false; rw [hl,hv]; rfl) h
theorem zhN {ns : List Str} {Q : Unit -> Shared -> Prop} (X : K.In s.heap) (I : ObjM s.heap x dx C mA)
  (hs : PySem.W.findIn K (.ref C) "__setattr__" = some (some (.builtin "object.__setattr__"))) (hp : PySem.W.plainOver K C = true) (ht : PySem.W.takerIn K C name = some none) (hh : PySem.W.hasDictIn K C = true)
  (hw : PySem.Within mA ns) (hsz : ns.length <= sizeLine)
  (h : ∀ h',ObjM h' x dx C (λy=>if y = name then some v else mA y) -> Heap.SameBut dx s.heap h' -> Q () { s with heap:=h',toks:=s.toks + 2 }) :
  wpAny (model prog w) A (setAttr (.ref x) name v) Q E s:=by
 obtain ⟨od,J,hl⟩:=I.look
 refine PySem.W.set_plain X J hs (PySem.W.osa_open (s:={ s with toks:=s.toks + 1 }) (r:=none) X J hp ht λb=>?_)
 obtain ⟨cd,hc,hd'⟩:=PySem.W.any_some hh
 have hx : s.heap.get? x = some ⟨.ref C,some dx,.plain,#[]⟩:=I.obj
 refine wpAny_bind (wpAny_pure (wpAny_bind (wpAny_bind (wpAny_loadPart hx (wpAny_bind (PySem.W.Looks.here (s:={ s with toks:=s.toks + 1 }) (PySem.W.looks_clsIn X hc) ?_))))))
 rw [hd']
 refine wpAny_pure (a:=some dx) (wpAny_bind (wpAny_pure (wpAny_bind ?_)))
 refine wpAny_nsSet1 (s:={ s with toks:=s.toks + 1 }) I.ns λh' hn2 hs2=>?_
 obtain ⟨oD,esD,epD,hoD,hdD,hcD⟩:=hn2.count (PySem.Within.cons name v hw)
 refine wpAny_bind (wpAny_lookBehind hoD (by rw [hdD]; exact pastItsLine_dict (Nat.le_trans hcD (by rw [List.length_cons]; omega))) ?_)
 exact wpAny_pure (h _ ⟨(hs2.2 _ (Ne.symm I.ne)).trans I.obj,hn2,I.ne⟩ hs2)
theorem zgO {R : Result -> Shared -> Prop} {vs : List Value} {kw : List (Str × Value)} (X : K.In s.heap) (hm : PySem.W.makesIn K C = true)
  (hi : PySem.W.findIn K (.ref C) "__init__" = some (some (.ref f))) (hf : PySem.W.typeIn K (.ref f) = some (.type "function"))
  (h : codeAny (model prog w) (A.under (.builtin "type.__call__" ⟨.ref C :: vs,kw⟩)) (.call (.ref f) ⟨.ref (s.heap.objs.size + 1) :: vs,kw⟩) (PySem.W.InitBack (s.heap.objs.size + 1) R)
   { s with heap:=(s.heap.push PySem.W.emptyDict).push (PySem.W.instObj C s.heap.objs.size) }) :
  codeAny (model prog w) A (.call (.ref C) ⟨vs,kw⟩) R s:=by
 obtain ⟨hh,g,d,t,os⟩:=s
 exact PySem.W.make_core (PySem.W.makes_of X hm) (PySem.W.looks_findIn X hi) (λself=>PySem.W.bind_fn X self hf) (.inl rfl) h
end
def putF (f : Str) (v : V) : List (Str × V) -> List (Str × V)
 | []=>[(f,v)]
 | (g,x) :: r=>if g = f then (g,v) :: r else (g,x) :: putF f v r
theorem zaO (f g : Str) (v : V) : ∀ fs : List (Str × V),(putF f v fs).lookup g = if g = f then some v else fs.lookup g
 | []=>by
  show List.lookup g [(f,v)] = _
  by_cases h : g = f
  ·have hb : (g == f) = true:=beq_iff_eq.mpr h
   simp only [List.lookup,hb,if_pos h]
  ·have hb : (g == f) = false:=beq_eq_false_iff_ne.mpr h
   simp only [List.lookup,hb,if_neg h]
 | (k,x) :: r=>by
  have ih:=zaO f g v r
  rw [show putF f v ((k,x) :: r) = (if k = f then (k,v) :: r else (k,x) :: putF f v r) from rfl]
  by_cases hk : k = f
  ·rw [if_pos hk]
   by_cases h : g = k
   ·have hb : (g == k) = true:=beq_iff_eq.mpr h
    simp only [List.lookup,hb,if_pos (h.trans hk)]
   ·have hb : (g == k) = false:=beq_eq_false_iff_ne.mpr h
    simp only [List.lookup,hb,if_neg (λe : g = f=>h (e.trans hk.symm))]
  ·rw [if_neg hk]
   by_cases h : g = k
   ·have hb : (g == k) = true:=beq_iff_eq.mpr h
    simp only [List.lookup,hb,if_neg (λe : g = f=>hk (h.symm.trans e))]
   ·have hb : (g == k) = false:=beq_eq_false_iff_ne.mpr h
    simp only [List.lookup,hb]
    exact ih
theorem zbE (f : Str) (v : V) : ∀ fs : List (Str × V),f ∈ (putF f v fs).map (·.1) /\ ∀ g,g ∈ fs.map (·.1) -> g ∈ (putF f v fs).map (·.1)
 | []=>⟨by simp [putF],λg h=>by simp at h⟩
 | (k,x) :: r=>by
  obtain ⟨i1,i2⟩:=zbE f v r
  rw [show putF f v ((k,x) :: r) = (if k = f then (k,v) :: r else (k,x) :: putF f v r) from rfl]
  by_cases hk : k = f
  ·rw [if_pos hk]
   subst hk
   exact ⟨by simp,λg h=>by simpa using h⟩
  ·rw [if_neg hk]
   refine ⟨?_,λg h=>?_⟩
   ·rw [List.map_cons]
    exact List.mem_cons_of_mem _ i1
   ·rw [List.map_cons] at h ⊢
    rcases List.mem_cons.mp h with e | e
    ·exact List.mem_cons.mpr (.inl e)
    ·exact List.mem_cons_of_mem _ (i2 g e)
theorem zb7 (f : Str) (v : V) : ∀ fs : List (Str × V),(putF f v fs).length <= fs.length + 1
 | []=>by simp [putF]
 | (k,x) :: r=>by
  have ih:=zb7 f v r
  rw [show putF f v ((k,x) :: r) = (if k = f then (k,v) :: r else (k,x) :: putF f v r) from rfl]
  by_cases hk : k = f
  ·rw [if_pos hk,List.length_cons,List.length_cons]; omega
  ·rw [if_neg hk,List.length_cons,List.length_cons]; omega
theorem RelO.some_of {v : V} {o : Option Value} (r : RelO (some v) o) : ∃ u,o = some u /\ RelV v u:=by
 cases o with
 | none=>exact (show False from r).elim
 | some u=>exact ⟨u,rfl,r⟩
theorem RelO.none_of {o : Option Value} (r : RelO none o) : o = none:=by
 cases o with
 | none=>rfl
 | some u=>exact (show False from r).elim
theorem zc5 {v : V} {u : Value} (r : RelV v u) : PySem.W.handedIn u = true:=by
 cases v with
 | non=>cases (show u = Value.none from r); rfl
 | bl b=>cases (show u = Value.bool b from r); rfl
 | int i=>obtain ⟨t,e⟩:=(show ∃ t,u = Value.int i t from r); cases e; rfl
 | str x=>obtain ⟨t,e⟩:=(show ∃ t,u = Value.str x t from r); cases e; rfl
 | byt b=>obtain ⟨t,e⟩:=(show ∃ t,u = Value.bytes b t from r); cases e; rfl
 | flt b=>obtain ⟨t,e⟩:=(show ∃ t,u = Value.float b t from r); cases e; rfl
 | ref a=>cases (show u = Value.ref a from r); rfl
 | ty n=>cases (show u = Value.type n from r); rfl
section
variable {P : Program} {w : World} {H H' : Hp} {h h' : Heap} {a C dx : Addr} {fs fs' : List (Str × V)}
theorem zbV (hok : HOk P w H h) (e : H a = some (.ins C dx fs)) : ∃ mA,ObjM h a dx C mA /\ (∀ f,RelO (fs.lookup f) (mA f)) /\ PySem.Within mA (fs.map (·.1)) /\ fs.length <= 1000 /\ H dx = some (.own a):=by
 obtain ⟨d,z,ne,ob,mA,n,r,q⟩:=(show ObjOk P w H h a (.ins C dx fs) from hok a _ e)
 exact ⟨mA,⟨ob,n,ne⟩,r,q,z,d⟩
end
structure Cls (K : PySem.W.Frag) (C : Addr) : Prop where
 pg : PySem.W.plainGet K C Str.empty = true
 hd : PySem.W.hasDictIn K C = true
 po : PySem.W.plainOver K C = true
 sa : PySem.W.findIn K (.ref C) "__setattr__" = some (some (.builtin "object.__setattr__"))
theorem Cls.get {K : PySem.W.Frag} {C : Addr} (c : Cls K C) (f : Str) : PySem.W.plainGet K C f = true:=c.pg
def NoAttr (K : PySem.W.Frag) (C : Addr) (f : Str) : Prop:=PySem.W.findIn K (.ref C) f = some none
theorem NoAttr.taker {K : PySem.W.Frag} {C : Addr} {f : Str} (n : NoAttr K C f) : PySem.W.takerIn K C f = some none:=by
 unfold PySem.W.takerIn
 rw [show PySem.W.findIn K (.ref C) f = some none from n]
 rfl
structure Meth (K : PySem.W.Frag) (C : Addr) (m : Str) (f : Addr) : Prop where
 at_ : PySem.W.findIn K (.ref C) m = some (some (.ref f))
 fn : PySem.W.isFn K (.ref f) = true
 kp : PySem.W.keepIn K (.ref f) = true
section
variable {X : Cx} {pins : List (Addr × Obj)} {σ : St} {H : Hp} {s : Shared} {a C dx : Addr} {fs : List (Str × V)} {f : Str} {v : V} {A : Around} {E : Value -> Shared -> Prop}
theorem zfc {b : Bool} {Q : Value -> Shared -> Prop} (I : Inv X pins σ H s) (e : H a = some (.ins C dx fs)) (c : Cls X.K C) (n : NoAttr X.K C f) (l : fs.lookup f = some v)
  (h : ∀ u s',Inv X pins σ H s' -> RelV v u -> Q u s') : wpAny (model X.prog X.w) A (getAttr (.ref a) f b) Q E s:=by
 obtain ⟨mA,O,r,_,_,_⟩:=zbV I.hok e
 obtain ⟨u,hu,ru⟩:=RelO.some_of (v:=v) (o:=mA f) (by rw [<- l]; exact r f)
 exact zhM I.kIn O (c.get f) c.hd n hu (zc5 ru) (h u _ (I.tok _) ru)
theorem zcx {m : Str} {g : Addr} {pl : Sem Bool} {Q : Value × List Value -> Shared -> Prop} (I : Inv X pins σ H s) (e : H a = some (.ins C dx fs)) (c : Cls X.K C) (k : Meth X.K C m g) (l : fs.lookup m = none)
  (h : Q (.ref g,[.ref a]) s) : wpAny (model X.prog X.w) A (getMethod (.ref a) m pl) Q E s:=by
 obtain ⟨mA,O,r,_,_,_⟩:=zbV I.hok e
 have hn : mA m = none:=RelO.none_of (by rw [<- l]; exact r m)
 exact zgN I.kIn O (c.get m) k.at_ k.fn hn h
theorem zfd {y : V} {u : Value} {Q : Unit -> Shared -> Prop} (I : Inv X pins σ H s) (e : H a = some (.ins C dx fs)) (c : Cls X.K C) (n : NoAttr X.K C f) (hl : fs.length < 1000) (ry : RelV y u)
  (h : ∀ s',Inv X pins σ (upd H a (.ins C dx (putF f y fs))) s' -> Q () s') : wpAny (model X.prog X.w) A (setAttr (.ref a) f u) Q E s:=by
 obtain ⟨mA,O,r,wi,_,ho⟩:=zbV I.hok e
 have hz : (fs.map (·.1)).length <= sizeLine:=by rw [List.length_map,sizeLine_eq]; omega
 refine zhN I.kIn O c.sa c.po n.taker c.hd wi hz λh' O' sb=>h _ ?_
 have hd : ∃ o,h'.get? dx = some o:=let ⟨o,_,_,e',_⟩:=O'.ns; ⟨o,e'⟩
 refine I.write (x:=a) (e:=dx) (by rw [e]; exact True.intro) (.inr ho) (λb q hb z=>(sb.2 b hb).trans z) hd ?_
 refine ⟨by rw [yak O.ne]; exact ho,?_,O.ne,O'.obj,_,O'.ns,λg=>?_,λg hg=>?_⟩
 ·have:=zb7 f y fs; omega
 ·show RelO ((putF f y fs).lookup g) (if g = f then some u else mA g)
  rw [zaO]
  by_cases q : g = f
  ·rw [if_pos q,if_pos q]; exact ry
  ·rw [if_neg q,if_neg q]; exact r g
 ·by_cases q : g = f
  ·rw [q]; exact (zbE f y fs).1
  ·refine (zbE f y fs).2 g (wi g λz=>hg ?_)
   show (if g = f then some u else mA g) = none
   rw [if_neg q]; exact z
theorem Inv.made (I : Inv X pins σ H s) : Inv X pins σ (upd (upd H s.heap.objs.size (.own (s.heap.objs.size + 1))) (s.heap.objs.size + 1) (.ins C s.heap.objs.size []))
  { s with heap:=(s.heap.push PySem.W.emptyDict).push (PySem.W.instObj C s.heap.objs.size) }:=by
 have e1 : (s.heap.push PySem.W.emptyDict).get? s.heap.objs.size = some PySem.W.emptyDict:=Heap.get?_push_size s.heap rfl
 have e2 : ((s.heap.push PySem.W.emptyDict).push (PySem.W.instObj C s.heap.objs.size)).get? (s.heap.objs.size + 1) = some (PySem.W.instObj C s.heap.objs.size):=by
  have:=Heap.get?_push_size (s.heap.push PySem.W.emptyDict) (o:=PySem.W.instObj C s.heap.objs.size) rfl
  rwa [Heap.size_push] at this
 have e3 : (s.heap.push PySem.W.emptyDict).Ns s.heap.objs.size (λ_=>none):=⟨PySem.W.emptyDict,#[],_,e1,rfl,(λe he=>absurd he (by simp)),λ_=>rfl⟩
 have I1:=I.laid (a:=s.heap.objs.size) (o:=.own (s.heap.objs.size + 1)) (h' := s.heap.push PySem.W.emptyDict) (t' := s.toks) (λb u q=>Heap.get?_push_of_some _ q) (Nat.le_refl _) ⟨_,e1⟩
 refine I1.laid (a:=s.heap.objs.size + 1) (o:=.ins C s.heap.objs.size []) (t' := s.toks) (λb u q=>Heap.get?_push_of_some _ q) (Nat.le_of_eq (Heap.size_push _ _)) ?_
 have ne : s.heap.objs.size ≠ s.heap.objs.size + 1:=Nat.ne_of_lt (Nat.lt_succ_self _)
 refine ⟨by rw [yak ne,zac],Nat.zero_le _,ne,e2,λ_=>none,(Heap.Ns1.of_empty e3).at λo q=>Heap.get?_push_of_some _ q,λ_=>True.intro,λy hy=>absurd rfl hy⟩
theorem zeA {prog : Program} {w : World} {env : Env} {e : Expr} {f : Str} {pos : Pos} {s : Shared} {Q : Value -> Shared -> Prop} (hb : attributeBase e f env (eval e env) = eval e env)
  (h : wpAny (model prog w) A (eval e env) (λo s₁=>wpAny (model prog w) A (getAttr o f true) Q E s₁) E s) : wpAny (model prog w) A (eval (.Attribute e f pos) env) Q E s :=
 Attribute_any_ h (by rw [arm_eval_Attribute,hb])
end
def tFld (K : PySem.W.Frag) (ta : TE) (f : Str) : TE:=λσ H Q=>ta σ H λx H1=>∃ a C dx fs v,x = .ref a /\ H1 a = some (.ins C dx fs) /\ Cls K C /\ NoAttr K C f /\ fs.lookup f = some v /\ Q v H1
def sFld (K : PySem.W.Frag) (ta tv : TE) (f : Str) : TS:=λD σ H=>tv σ H λy H1=>ta σ H1 λx H2=>∃ a C dx fs,x = .ref a /\ H2 a = some (.ins C dx fs) /\ Cls K C /\ NoAttr K C f /\ fs.length < 1000 /\
 D.nx σ (upd H2 a (.ins C dx (putF f y fs)))
section
variable {X : Cx} {o e value : Expr} {f : Str} {pos pos' tpos : Pos} {ta tv : TE}
theorem ygw (he : PE X e ta) (hb : attributeBase e f X.env (eval e X.env) = eval e X.env) : PE X (.Attribute e f pos) (tFld X.K ta f):=by
 intro pins s σ H Q I h
 refine zeA hb (thn (he pins s σ H _ I h) λu s1 ⟨x,H1,I1,rx,a,C,dx,fs,v,ex,ea,c,n,l,q⟩=>?_)
 subst ex
 obtain rfl : u = Value.ref a:=rx
 exact zfc I1 ea c n l λu' s2 I2 ru=>⟨v,H1,I2,ru,q⟩
theorem ygx (ha : PE X o ta) (hv : PE X value tv) (hs : swapsWith value (some (.Attribute o f pos')) pos.line X.env = pure false) : PS X (.Assign [.Attribute o f pos'] value pos) (sFld X.K ta tv f):=by
 intro pins s σ H D I h
 refine plainObj_wpAny_Assign_Attribute (thn (hv pins s σ H _ I h) λu s1 ⟨y,H1,I1,ry,q⟩=>thn (ha pins s1 σ H1 _ I1 q) λov s2 ⟨x,H2,I2,rx,a,C,dx,fs,ex,ea,c,n,l,q2⟩=>?_) hs
 subst ex
 obtain rfl : ov = Value.ref a:=rx
 exact zfd I2 ea c n l ry λs3 I3=>⟨σ,_,I3,q2⟩
end
section
variable {X : Cx} {pins : List (Addr × Obj)} {σ : St} {H : Hp} {s : Shared} {A : Around} {E : Value -> Shared -> Prop} {Q : Value -> Shared -> Prop} {c : Value} {b : Bool}
inductive TyOf (K : PySem.W.Frag) (H : Hp) : V -> Value -> Prop where
 | non : TyOf K H .non (.type "NoneType")
 | bl (x : Bool) : TyOf K H (.bl x) (.type "bool")
 | int (i : Int) : TyOf K H (.int i) (.type "int")
 | str (x : Str) : TyOf K H (.str x) (.type "str")
 | flt (x : UInt64) : TyOf K H (.flt x) (.type "float")
 | lst {a : Addr} {xs : List V} (e : H a = some (.lst xs)) : TyOf K H (.ref a) (.type "list")
 | frz {a : Addr} {o : Obj} {xs : List V} (e : H a = some (.frz o (.lst xs))) : TyOf K H (.ref a) (.type "list")
 | tup {a : Addr} {xs : List V} (e : H a = some (.tup xs)) : TyOf K H (.ref a) (.type "tuple")
 | dK {a : Addr} {kvs : List (Key × V)} (e : H a = some (.dK kvs)) : TyOf K H (.ref a) (.type "dict")
 | dT {a : Addr} {xc : Option (List Addr)} {kvs : List (List Key × V)} (e : H a = some (.dT xc kvs)) : TyOf K H (.ref a) (.type "dict")
 | ins {a C dx : Addr} {fs : List (Str × V)} (e : H a = some (.ins C dx fs)) (cl : Cls K C) (ha : PySem.W.findIn K (.ref C) "__class__" = some (some (.builtin "object.__class__")))
   (hn : PySem.W.specialIn K (.builtin "object.__class__") "__get__" = some (some (.builtin "getset_descriptor.__get__"))) (htk : PySem.W.takesIn K (.builtin "object.__class__") = some true)
   (hm : PySem.W.mroIn K C (.type "object") = some true) : TyOf K H (.ref a) (.ref C)
theorem zfQ {x : V} {u t : Value} (I : Inv X pins σ H s) (rx : RelV x u) (ty : TyOf X.K H x t) (e : PySem.W.kitOne X.K t c = some b) (h : ∀ tk,Q (.bool b) { s with toks:=tk }) :
  wpAny (model X.prog X.w) A (call (.builtin "isinstance") [u,c]) Q E s:=by
 cases ty with
 | non=>cases (show u = Value.none from rx); exact PySem.W.kia_one PySem.W.kitx_none I.kIn True.intro e (λz=>nomatch z) h
 | bl y=>cases (show u = Value.bool y from rx); exact PySem.W.kia_one PySem.W.kitx_bool I.kIn True.intro e (λz=>nomatch z) h
 | int i=>obtain ⟨t,q⟩:=(show ∃ t,u = Value.int i t from rx); cases q; exact PySem.W.kia_one PySem.W.kitx_int I.kIn True.intro e (λz=>nomatch z) h
 | str y=>obtain ⟨t,q⟩:=(show ∃ t,u = Value.str y t from rx); cases q; exact PySem.W.kia_one PySem.W.kitx_str I.kIn True.intro e (λz=>nomatch z) h
 | flt y=>obtain ⟨t,q⟩:=(show ∃ t,u = Value.float y t from rx); cases q; exact PySem.W.kia_one PySem.W.kitx_float I.kIn True.intro e (λz=>nomatch z) h
 | @lst a xs ea =>
  cases (show u = Value.ref a from rx)
  obtain ⟨_,_,n,_,h1⟩:=(show ObjOk X.prog X.w H s.heap a (.lst xs) from I.hok a _ ea)
  exact PySem.W.kia_one PySem.W.kitx_list I.kIn ⟨_,h1,rfl⟩ e (λz=>nomatch z) h
 | @frz a ob xs ea =>
  cases (show u = Value.ref a from rx)
  obtain ⟨_,_,_,n,_,h1⟩:=(show ObjOk X.prog X.w H s.heap a (.frz ob (.lst xs)) from I.hok a _ ea)
  exact PySem.W.kia_one PySem.W.kitx_list I.kIn ⟨_,h1,rfl⟩ e (λz=>nomatch z) h
 | @tup a xs ea =>
  cases (show u = Value.ref a from rx)
  obtain ⟨_,_,_,p⟩:=(show ObjOk X.prog X.w H s.heap a (.tup xs) from I.hok a _ ea)
  obtain ⟨o,h1,h2,_⟩:=p
  exact PySem.W.kia_one PySem.W.kitx_tuple I.kIn ⟨o,h1,h2⟩ e (λz=>nomatch z) h
 | @dK a kvs ea =>
  cases (show u = Value.ref a from rx)
  obtain ⟨_,_,vs,_,p⟩:=(show ObjOk X.prog X.w H s.heap a (.dK kvs) from I.hok a _ ea)
  obtain ⟨o,es,ep,h1,h2,_⟩:=p
  exact PySem.W.kia_one PySem.W.kitx_dict I.kIn ⟨o,h1,h2.1⟩ e (λz=>nomatch z) h
 | @dT a xc kvs ea =>
  cases (show u = Value.ref a from rx)
  obtain ⟨_,_,xs,_,o,es,ep,h1,h2,_⟩:=(show ObjOk X.prog X.w H s.heap a (.dT xc kvs) from I.hok a _ ea)
  exact PySem.W.kia_one PySem.W.kitx_dict I.kIn ⟨o,h1,h2.1⟩ e (λz=>nomatch z) h
 | @ins a C dx fs ea cl ha hn htk hm =>
  cases (show u = Value.ref a from rx)
  obtain ⟨mA,O,_⟩:=zbV I.hok ea
  obtain ⟨od,J,_⟩:=O.look
  exact PySem.W.kia_one (PySem.W.kitx_own (cl.get _) cl.hd ha hn htk hm) I.kIn J e (λz=>nomatch z) h
end
end L2
namespace L2
open PySem PySem.Spec PyProof.Rows
structure Room (k : Nat) (A : Around) : Prop where
 hd : A.handled = none
 dp : A.depth + 3 * k + 5 < recursionLimit
 un : A.units + 16 * k + 200 < cLine
theorem Room.mono {j k : Nat} {A : Around} (r : Room k A) (h : j <= k) : Room j A:=⟨r.hd,by have:=r.dp; omega,by have:=r.un; omega⟩
theorem Room.deeper {k : Nat} {A : Around} (r : Room (k + 1) A) (env : Env) : Room k (A.deeper env) :=
 ⟨r.hd,by have:=r.dp; show A.depth + 1 + 3 * k + 5 < _; omega,by have:=r.un; show A.units + 3 + 16 * k + 200 < _; omega⟩
theorem zfe {A : Around} {C : Addr} {us : List Value} {kw : List (Str × Value)} : (A.under (.builtin "type.__call__" ⟨.ref C :: us,kw⟩)).depth = A.depth + 1:=by
 first | rfl | simp [Around.under,Code.weight,Code.isCreation,Code.isGuard,Code.isCaller,Code.frames,Code.isFrame,guardIds]
theorem zff {A : Around} {C : Addr} {us : List Value} {kw : List (Str × Value)} : (A.under (.builtin "type.__call__" ⟨.ref C :: us,kw⟩)).units = A.units + 1:=by
 first | rfl | simp [Around.under,Code.cUnits,Code.frames,Code.isFrame]
theorem Room.make {k : Nat} {A : Around} (r : Room (k + 1) A) (C : Addr) (us : List Value) (kw : List (Str × Value)) : Room k (A.under (.builtin "type.__call__" ⟨.ref C :: us,kw⟩)) :=
 ⟨r.hd,by have:=r.dp; rw [zfe]; omega,by have:=r.un; rw [zff]; omega⟩
theorem Room.depth {k : Nat} {A : Around} (r : Room k A) : A.depth < recursionLimit:=by have:=r.dp; omega
def tNil : TA:=λ_ H Q=>Q [] H
def yhR (ta : TE) (tr : TA) : TA:=λσ H Q=>ta σ H λx H1=>tr σ H1 λxs H2=>Q (x :: xs) H2
section
variable {X : Cx} {e : Expr} {es : List Expr} {te : TE} {t : TA} {pos : Pos}
theorem ydX : PA X [] tNil:=λ_ _ _ _ H Q I h=>Calls.spliced_nil ⟨[],H,I,.nil,h⟩
theorem zaY (ha : PE X e te) (hr : PA X es t) (hs : starEach (e :: es) X.env = (false,eval e X.env) :: starEach es X.env:=by rfl) : PA X (e :: es) (yhR te t):=by
 intro pos pins s σ H Q I h
 rw [hs]
 show wpAny _ _ (spliced ((false,eval e X.env) :: backTo pos (starEach es X.env))) _ _ s
 refine Calls.spliced_cons (thn (ha pins s σ H _ I h) λu s1 ⟨x,H1,I1,r1,q1⟩=>?_)
 exact thn (hr pos pins s1 σ H1 _ I1 q1) λus s2 ⟨xs,H2,I2,r2,q2⟩=>⟨x :: xs,H2,I2,.cons r1 r2,q2⟩
def tTup (t : TA) : TE:=λσ H Q=>t σ H λxs H1=>xs.length <= sizeLine /\ ∀ p,H1 p = none -> Q (.ref p) (upd H1 p (.tup xs))
def tLst (t : TA) : TE:=λσ H Q=>t σ H λxs H1=>xs.length <= sizeLine /\ ∀ p,H1 p = none -> Q (.ref p) (upd H1 p (.lst xs))
theorem ygy {x1} (h : PA X es t) : PE X (.Tuple es x1 pos) (tTup t):=by
 intro pins s σ H Q I hq
 refine wpAny_Tuple_spliced (thn (h pos pins s σ H _ I hq) λus s1 ⟨xs,H1,I1,r,z,q⟩=>⟨by rw [<- r.length]; exact z,?_⟩)
 have hf : H1 s1.heap.objs.size = none:=I1.hok.fresh (Nat.le_refl _)
 refine ⟨.ref s1.heap.objs.size,upd H1 s1.heap.objs.size (.tup xs),I1.laid (t' := s1.toks) (λb u e=>Heap.get?_push_of_some _ e) (Nat.le_refl _) ?_,rfl,q _ hf⟩
 exact ⟨z,us,r,⟨_,Heap.get?_push_size _ rfl,rfl,_,rfl⟩⟩
theorem ye6 (h : PA X es t) : PE X (.List es pos) (tLst t):=by
 intro pins s σ H Q I hq
 refine wpAny_List_spliced (thn (h pos pins s σ H _ I hq) λus s1 ⟨xs,H1,I1,r,z,q⟩=>⟨by rw [<- r.length]; exact z,?_⟩)
 have hf : H1 s1.heap.objs.size = none:=I1.hok.fresh (Nat.le_refl _)
 refine ⟨.ref s1.heap.objs.size,upd H1 s1.heap.objs.size (.lst xs),I1.laid (t' := s1.toks) (λb u e=>Heap.get?_push_of_some _ e) (Nat.le_refl _) ?_,rfl,q _ hf⟩
 exact ⟨z,us,0,r,Heap.get?_push_size _ rfl⟩
end
abbrev Sp:=List V -> Hp -> VK -> XK -> Prop
abbrev CXT:=List Env -> Hp -> Shared -> XK -> Value -> Shared -> Prop
structure Env0 (P : Program) (w : World) (K : PySem.W.Frag) (mg : Str -> Option Value) (base : Heap) (A : Around) (outer : List Env) (s : Shared) (H : Hp) : Prop where
 frames : A.frames = some outer
 mod : Mod K mg base
 bs : ∀ b o,base.get? b = some o -> s.heap.get? b = some o /\ H b = none
 bsz : base.objs.size <= s.heap.objs.size
 funs : s.heap.FunFrames base outer
 frf : ∀ b ∈ frs outer,H b = none
 hok : HOk P w H s.heap
 bare : AllBare s.gens
def CE (outer : List Env) (P : Program) (w : World) (H : Hp) (s : Shared) (Q : VK) (u : Value) (s' : Shared) : Prop :=
 ∃ v H',s'.os = s.os /\ AllBare s'.gens /\ Un (frs outer) [] H H' s.heap s'.heap /\ HOk P w H' s'.heap /\ RelV v u /\ Q v H'
def CR (CX : CXT) (outer : List Env) (P : Program) (w : World) (H : Hp) (s : Shared) (Q : VK) (E : XK) (r : Result) (s' : Shared) : Prop :=
 match r with
 | .ok (.ret u)=>CE outer P w H s Q u s'
 | .ok _=>False
 | .error e=>CX outer H s E e s'
structure FnOk (P : Program) (w : World) (K : PySem.W.Frag) (mg : Str -> Option Value) (base : Heap) (CX : CXT) (k : Nat) (f : Addr) (fd : FuncData) (ps : List Str) (sp : Sp) : Prop where
 len : ∀ vs H Q E,sp vs H Q E -> vs.length = ps.length
 run : ∀ (A : Around) (outer : List Env) (s : Shared) (H : Hp) (args : Args) (us : List Value) (vs : List V) (Q : VK) (E : XK),Room k A -> Env0 P w K mg base A outer s H -> BindsTo s fd args (ps.zip us) -> Vals vs us -> sp vs H Q E ->
  codeAny (model P w) A (.call (.ref f) args) (CR CX outer P w H s Q E) s
theorem FnOk.imp {P : Program} {w : World} {K : PySem.W.Frag} {mg : Str -> Option Value} {base : Heap} {CX : CXT} {k : Nat} {f : Addr} {fd : FuncData} {ps : List Str} {sp sp' : Sp} (F : FnOk P w K mg base CX k f fd ps sp)
  (h : ∀ vs H Q E,sp' vs H Q E -> sp vs H Q E) : FnOk P w K mg base CX k f fd ps sp' :=
 ⟨λvs H Q E q=>F.len vs H Q E (h _ _ _ _ q),λA outer s H args us vs Q E hr he hb hv hs=>F.run A outer s H args us vs Q E hr he hb hv (h _ _ _ _ hs)⟩
theorem Env0.make {P : Program} {w : World} {K : PySem.W.Frag} {mg : Str -> Option Value} {base : Heap} {A : Around} {outer : List Env} {s : Shared} {H : Hp} (e : Env0 P w K mg base A outer s H) (C : Addr) (us : List Value) (kw : List (Str × Value)) :
  Env0 P w K mg base (A.under (.builtin "type.__call__" ⟨.ref C :: us,kw⟩)) outer s H:=⟨by first | exact e.frames | (simpa [Around.under,Code.envs,Code.isFrame,pushEnvs] using e.frames),e.mod,e.bs,e.bsz,e.funs,e.frf,e.hok,e.bare⟩
section
variable {X : Cx} {pins : List (Addr × Obj)} {σ : St} {H : Hp} {s s' : Shared}
theorem Inv.env0 (I : Inv X pins σ H s) : Env0 X.prog X.w X.K X.mg X.base X.A X.stack s H :=
 ⟨I.ok.frames,I.ok.mod,I.bs,Nat.le_trans I.ok.bsz I.sz,I.stack,I.stkFree,I.hok,I.bare⟩
theorem Inv.after {Q : VK} {u : Value} (I : Inv X pins σ H s) (h : CE X.stack X.prog X.w H s Q u s') : EP X pins σ Q u s' := by
 obtain ⟨v,H',os,bare,un,hok,r,q⟩:=h
 obtain ⟨hh,g,d,t,os'⟩:=s'
 obtain rfl : os' = s.os:=os
 exact ⟨v,H',I.call (h' := hh) (g' := g) (d' := d) (t' := t) (ch:=[]) un hok bare (λb z=>absurd z (by simp)),r,q⟩
end
def Binds (K : PySem.W.Frag) (fd : FuncData) (ps : List Str) (ds : List Value) : Prop :=
 ∀ (s : Shared) (us : List Value),K.In s.heap -> (us++ds).length = ps.length -> BindsTo s fd ⟨us,[]⟩ (ps.zip (us++ds))
theorem Binds.all {K : PySem.W.Frag} {fd : FuncData} {ps : List Str} (h : ∀ us : List Value,us.length = ps.length -> bindArgs fd ⟨us,[]⟩ = pure (ps.zip us)) : Binds K fd ps []:=λs us _ hl=>by
 rw [List.append_nil] at hl ⊢
 exact .of_eq (h us hl)
def ye7 (CX : CXT) (X : Cx) (E : XK) : Prop:=∀ (pins : List (Addr × Obj)) (σ : St) (H : Hp) (s : Shared) (e : Value) (s' : Shared),Inv X pins σ H s -> CX X.stack H s E e s' -> X.xe e s'
section
variable {X : Cx} {CX : CXT} {k : Nat} {f C : Addr} {fd : FuncData} {ps : List Str} {sp : Sp} {dvs : List V} {ds : List Value} {E : XK} {x m : Str} {p pos apos : Pos} {e o : Expr} {es : List Expr} {ta : TE} {t : TA}
structure Mk (K : PySem.W.Frag) (C f : Addr) : Prop where
 makes : PySem.W.makesIn K C = true
 init : PySem.W.findIn K (.ref C) "__init__" = some (some (.ref f))
 fn : PySem.W.isFn K (.ref f) = true
 kp : PySem.W.keepIn K (.ref C) = true
end
section
variable {X : Cx} {CX : CXT} {k : Nat} {f C : Addr} {fd : FuncData} {ps ks : List Str} {sp : Sp} {E : XK} {x m : Str} {p pos apos kpos : Pos} {e o : Expr} {es : List Expr} {kws : List Keyword} {te ta : TE} {t tk : TA} {nm : Option Str}
variable {g : List Value -> List Value -> List Value} {gV : List V -> List V -> List V}
end
structure FnScope (N P : List Str) (sc : Scope) : Prop where
 kind : sc.kind = .function
 co : sc.isCoroutine = false
 gen : sc.isGenerator = false
 nd : N.Nodup
 pre : N.take P.length = P
 par : ∀ x ∈ P,sc.names.lookup x = some .local \/ sc.names.lookup x = some .cell
 nofree : ∀ y ∈ sc.names,y.2 ≠ .free
theorem zc6 {kindOf : Str -> Option NameKind} {x : Str} : ∀ {binds : List (Str × Value)} {m : Str -> Option Value},(∀ v,(x,v) ∉ binds) -> bindL kindOf binds m x = m x
 | [],_,_=>rfl
 | (n,v) :: r,m,h=>by
  unfold bindL
  rw [zc6 λw hw=>h w (List.mem_cons_of_mem _ hw)]
  split
  ·have : x ≠ n:=by rintro rfl; exact h v List.mem_cons_self
   simp [this]
  ·rfl
theorem zc7 {kindOf : Str -> Option NameKind} {x : Str} : ∀ {binds : List (Str × Value)} {m : Str -> Option Value},(∀ v,(x,v) ∉ binds) -> bindC kindOf binds m x = m x
 | [],_,_=>rfl
 | (n,v) :: r,m,h=>by
  unfold bindC
  rw [zc7 λw hw=>h w (List.mem_cons_of_mem _ hw)]
  split
  ·rfl
  ·have : x ≠ n:=by rintro rfl; exact h v List.mem_cons_self
   simp [this]
theorem zbF {kindOf : Str -> Option NameKind} {x : Str} {v : Value} : ∀ {P : List Str} {vs : List Value} {i : Nat} {m : Str -> Option Value},P.Nodup -> P[i]? = some x -> vs[i]? = some v -> kindOf x = some .local ->
  bindL kindOf (P.zip vs) m x = some v
 | [],_,_,_,_,h,_,_=>by simp at h
 | _ :: _,[],_,_,_,_,h,_=>by simp at h
 | p :: P,w :: vs,0,m,nd,h1,h2,hk=>by
  simp at h1 h2; subst h1; subst h2
  show bindL kindOf ((p,w) :: P.zip vs) m p = _
  unfold bindL
  rw [zc6 λv hv=>(List.nodup_cons.mp nd).1 (List.of_mem_zip hv).1,if_pos hk]
  simp
 | p :: P,w :: vs,i + 1,m,nd,h1,h2,hk=>by
  show bindL kindOf ((p,w) :: P.zip vs) m x = _
  unfold bindL
  exact zbF (i:=i) (List.nodup_cons.mp nd).2 (by simpa using h1) (by simpa using h2) hk
theorem zbG {kindOf : Str -> Option NameKind} {x : Str} {v : Value} : ∀ {P : List Str} {vs : List Value} {i : Nat} {m : Str -> Option Value},P.Nodup -> P[i]? = some x -> vs[i]? = some v -> kindOf x ≠ some .local ->
  bindC kindOf (P.zip vs) m x = some v
 | [],_,_,_,_,h,_,_=>by simp at h
 | _ :: _,[],_,_,_,_,h,_=>by simp at h
 | p :: P,w :: vs,0,m,nd,h1,h2,hk=>by
  simp at h1 h2; subst h1; subst h2
  show bindC kindOf ((p,w) :: P.zip vs) m p = _
  unfold bindC
  rw [zc7 λv hv=>(List.nodup_cons.mp nd).1 (List.of_mem_zip hv).1,if_neg hk]
  simp
 | p :: P,w :: vs,i + 1,m,nd,h1,h2,hk=>by
  show bindC kindOf ((p,w) :: P.zip vs) m x = _
  unfold bindC
  exact zbG (i:=i) (List.nodup_cons.mp nd).2 (by simpa using h1) (by simpa using h2) hk
def start (N : List Str) (vs : List V) : St:=vs.map some++List.replicate (N.length - vs.length) none
def cxOf (CX : CXT) (P : Program) (w : World) (K : PySem.W.Frag) (mg : Str -> Option Value) (base : Heap) (N : List Str) (qual : Str) (scope : Scope) (f : Addr) (cd : Value) (A : Around) (outer : List Env) (s : Shared) (H : Hp) (E : XK) : Cx where
 prog:=P
 w:=w
 K:=K
 mg:=mg
 base:=base
 A:=A.deeper (envOfC qual scope s.heap.objs.size f cd)
 N:=N
 s₀:=s
 H₀:=H
 env:=envOfC qual scope s.heap.objs.size f cd
 outer:=outer
 stack:=envOfC qual scope s.heap.objs.size f cd :: outer
 ex:=[]
 calm:=true
 fn:=λ_=>true
 pn:=[]
 xe:=λe s' => wpAny (model P w) (A.deeper (envOfC qual scope s.heap.objs.size f cd)) (leaving (envOfC qual scope s.heap.objs.size f cd) e) (λ_ s'' => CX outer H s E e s'') (λe' s'' => CX outer H s E e' s'') s'
theorem zbn {sc : Scope} {n : Nat} {x : Str} (h : sc.names.lookup x = some .cell) : ∃ c,(cellsFrom n sc.names []).lookup x = some c:=by
 have q:=PySem.W.cellsFrom_some sc.names n [] (.inl h)
 exact Option.isSome_iff_exists.mp q
theorem zfR {CX : CXT} {P : Program} {w : World} {K : PySem.W.Frag} {mg : Str -> Option Value} {base : Heap} {N ps : List Str} {qual : Str} {scope : Scope} {f : Addr} {cd : Value} {A : Around} {outer : List Env} {s s1 : Shared} {H : Hp} {E : XK} {us : List Value} {vs : List V}
  (S : FnScope N ps scope) (hd : A.handled = none) (e0 : Env0 P w K mg base A outer s H) (hl : vs.length = ps.length) (r : Vals vs us)
  (x : InCallC s s.heap.objs.size (bindL (envOfC qual scope s.heap.objs.size f cd).kindOf (ps.zip us) λ_=>none) (cellsFrom (s.heap.objs.size + 1) scope.names []) (bindC (envOfC qual scope s.heap.objs.size f cd).kindOf (ps.zip us) λ_=>none) s1) :
  Inv (cxOf CX P w K mg base N qual scope f cd A outer s H E) [] (start N vs) H s1:=by
 have hpl : ps.length <= N.length:=by have:=congrArg List.length S.pre; rw [List.length_take] at this; omega
 obtain ⟨h1,tk,rfl,hk⟩:=x.done
 have noA : ∀ b : Addr,b ∉ (cxOf CX P w K mg base N qual scope f cd A outer s H E).ex:=λb z=>absurd (show b ∈ ([] : List Addr) from z) (by simp)
 refine ⟨⟨e0.mod,S.kind,rfl,rfl,Nat.le_refl _,λy z c h1 h2=>?_,λy hy=>?_,λy c _ h=>?_,λ_=>hd,Around.frames_deeper e0.frames,.inr ⟨rfl,rfl⟩,λb z=>absurd z (noA b),e0.bs,e0.bsz,λb _ _=>noA b,λb z=>absurd z (noA b),e0.funs,e0.frf⟩,
  rfl,e0.bare,Un.kept hk,⟨_,x.toInCall.ns,λi y v h1 h2 h3=>?_⟩,λy c h=>⟨_,x.cell y c h⟩,e0.hok.fresh (Nat.le_refl _),λy c h=>?_,λp hp=>absurd (show p ∈ ([] : List (Addr × Obj)) from hp) (by simp),e0.hok.kept hk,?_⟩
 ·exact name_of_addr x.apart (PySem.mem_of_lookup h1) (PySem.mem_of_lookup h2)
 ·have hy : scope.names.lookup y = some .cell \/ scope.names.lookup y = some .free:=hy
  rcases hy with hy | hy
  ·exact zbn hy
  ·exact absurd rfl (S.nofree _ (PySem.mem_of_lookup hy))
 ·exact Nat.le_of_lt (x.above y c (PySem.mem_of_lookup h))
 ·have hi : i < vs.length:=by
   unfold start at h2
   by_cases hi : i < vs.length
   ·exact hi
   ·rw [List.getElem?_append_right (by simpa using hi)] at h2
    rw [List.getElem?_replicate] at h2
    split at h2<;>cases h2
  have ha : vs[i]? = some v:=by
   unfold start at h2
   rw [List.getElem?_append_left (by simpa using hi),List.getElem?_map] at h2
   cases e : vs[i]? with
   | none=>rw [e] at h2; cases h2
   | some a=>rw [e] at h2; cases h2; rfl
  obtain ⟨u,hu,rv⟩:=r.get ha
  have hp : ps[i]? = some y:=by
   rw [<- S.pre,List.getElem?_take_of_lt (by omega)]; exact h1
  have ndP : ps.Nodup:=by rw [<- S.pre]; exact S.nd.sublist (List.take_sublist _ _)
  refine ⟨u,rv,?_⟩
  rcases S.par y (List.mem_of_getElem? hp) with k | k
  ·exact .inl ⟨k,zbF ndP hp hu k⟩
  ·obtain ⟨c,e⟩:=zbn (n:=s.heap.objs.size + 1) k
   refine .inr ⟨.inl k,c,e,?_⟩
   have q:=x.cell y c e
   rw [zbG ndP hp hu (by show scope.names.lookup y ≠ _; rw [k]; decide)] at q
   exact q
 ·exact e0.hok.fresh (Nat.le_of_lt (x.above y c (PySem.mem_of_lookup h)))
 ·unfold start
  show _ = N.length
  rw [List.length_append,List.length_map,List.length_replicate]
  omega
theorem yhS {CX : CXT} {P : Program} {w : World} {K : PySem.W.Frag} {mg : Str -> Option Value} {base : Heap} {k : Nat} {f : Addr} {name qual : Str} {params : Arguments} {body : List Stmt} {scope : Scope} {dV kV doc pm cdv ct oc : Value} {an od : Option Addr}
  {osl : Array (Option Value)} {N ps : List Str} {sp : Sp} (lk : K.lookup f = some ⟨oc,od,.func (PySem.W.fnOf name qual params body scope dV kV doc pm an cdv ct),osl⟩) (hcd : PySem.W.codeIn K cdv qual = true) (S : FnScope N ps scope)
  (len : ∀ vs H Q E,sp vs H Q E -> vs.length = ps.length)
  (hbody : ∀ (A : Around) (outer : List Env) (s : Shared) (H : Hp) (vs : List V) (Q : VK) (E : XK),Room k (A.deeper (envOfC qual scope s.heap.objs.size f cdv)) -> sp vs H Q E ->
   ∃ t,PSs (cxOf CX P w K mg base N qual scope f cdv A outer s H E) body t /\ t { nx:=λ_ H' => Q .non H',rt:=Q } (start N vs) H) :
  FnOk P w K mg base CX (k + 1) f (PySem.W.fnOf name qual params body scope dV kV doc pm an cdv ct) ps sp:=by
 refine ⟨len,λA outer s H args us vs Q E hr e0 hb r hsp=>?_⟩
 have hl:=len _ _ _ _ hsp
 have KX : K.In s.heap:=e0.mod.kin.keeps λb o e=>(e0.bs b o e).1
 have lim : s.heap.NoLimit:=e0.mod.nolimit.keeps λb o e=>(e0.bs b o e).1
 have hkind : ∀ y ∈ ps.zip us,scope.names.lookup y.1 = some .local \/ (scope.names.lookup y.1 = some .cell /\ ((cellsFrom (s.heap.objs.size + 1) scope.names []).lookup y.1).isSome = true):=λ⟨n,v⟩ hy=>by
  rcases S.par n (List.of_mem_zip hy).1 with q | q
  ·exact .inl q
  ·exact .inr ⟨q,PySem.W.cellsFrom_some _ _ _ (.inl q)⟩
 refine codeAny_call_function hr.depth (KX _ _ lk) rfl S.co S.gen rfl (PySem.W.codeRec_of KX hcd) (hb _ _ _ _ ?_)
 refine wpAny_newFunctionEnv_cells S.kind hkind λenv he s1 x=>?_
 subst he
 refine ⟨lim.keeps x.toInCall.keep,codeAny_func ?_⟩
 obtain ⟨t,ht,hq⟩:=hbody A outer s H vs Q E (hr.deeper _) hsp
 have I : Inv (cxOf CX P w K mg base N qual scope f cdv A outer s H E) [] (start N vs) H s1:=zfR S hr.hd e0 hl r x
 refine wpAny_mono (ht [] s1 (start N vs) H _ I hq) (λfl s' hs=>?_) λe s' hs=>hs
 have fin : ∀ {σ' : St} {H' : Hp} {v : V} {u : Value},Inv (cxOf CX P w K mg base N qual scope f cdv A outer s H E) [] σ' H' s' -> RelV v u -> Q v H' -> CE outer P w H s Q u s' :=
  λ{σ' H' v u} J rv q=>⟨v,H',J.os,J.bare,J.base,J.hok,rv,q⟩
 cases fl with
 | ret u =>
  obtain ⟨v,σ',H',J,rv,q⟩:=hs
  exact fin J rv q
 | next =>
  obtain ⟨σ',H',J,q⟩:=hs
  exact fin (v:=V.non) (u:=Value.none) J rfl q
 | brk =>
  obtain ⟨_,_,_,q⟩:=hs
  exact False.elim q
 | cont =>
  obtain ⟨_,_,_,q⟩:=hs
  exact False.elim q
end L2
namespace L2
open PySem PySem.Spec PyProof.Rows
section
variable {X : Cx} {x : Str} {p pos : Pos} {e : Expr} {es : List Expr} {t : TA} {id T : String} {r : List V -> Hp -> VK -> Prop}
def tCB (r : List V -> Hp -> VK -> Prop) (t : TA) : TE:=λσ H Q=>t σ H λvs H1=>r vs H1 Q
theorem zcd (hc : CallR X (.builtin id) r) (hg : Gl X x) (hm : X.mg x = none) (hv : bootBuiltins x = some (.builtin id)) (ha : PA X (e :: es) t) (hn : x ≠ "__name__" := by decide) (hdb : (x == ("__debug__" : Str)) = false:=by decide)
  (he : starEach (e :: es) X.env = (false,eval e X.env) :: starEach es X.env:=by rfl) (hpl : (backTo pos (starEach es X.env)).any (·.1) = false:=by rfl) : PE X (.Call (.Name x p) (e :: es) [] pos) (tCB r t):=by
 intro pins s σ H Q I h
 refine wpAny_Call_Name_kw (ycR I hg hm hv ?_ hn hdb)
 exact PyProof.Rows.callWith_builtin1 (thn (ha pos pins s σ H _ I h) λus s1 ⟨vs,H1,I1,r1,q1⟩=>hc pins s1 σ H1 vs us Q I1 r1 q1) he hpl
theorem zfS (hc : CallR X (.type T) r) (hg : Gl X x) (hm : X.mg x = none) (hv : bootBuiltins x = some (.type T)) (ha : PA X (e :: es) t) (hn : x ≠ "__name__" := by decide) (hdb : (x == ("__debug__" : Str)) = false:=by decide)
  (he : starEach (e :: es) X.env = (false,eval e X.env) :: starEach es X.env:=by rfl) (hpl : (backTo pos (starEach es X.env)).any (·.1) = false:=by rfl) : PE X (.Call (.Name x p) (e :: es) [] pos) (tCB r t):=by
 intro pins s σ H Q I h
 refine wpAny_Call_Name_kw (ycR I hg hm hv ?_ hn hdb)
 exact PyProof.Rows.callWith_type1 (thn (ha pos pins s σ H _ I h) λus s1 ⟨vs,H1,I1,r1,q1⟩=>hc pins s1 σ H1 vs us Q I1 r1 q1) he hpl
end
end L2
namespace HT
open PySem PyProof.Rows
section
open PySem.SeqAt
open PySem.AutoSeq1 (wpAny_loadPart')
open PySem.MeetsSeq PySem.MeetsSeq2 PySem.MeetsSeq3
end
section
variable {prog : Program} {w : World} {A : Around} {E : Value -> Shared -> Prop} {s : Shared}
theorem cat_tup {t b : Addr} {vs ws : List Value} {Q : Value -> Shared -> Prop} (ht : IsTup s.heap t vs.toArray) (hb : IsTup s.heap b ws.toArray) (hv : vs ≠ [])
  (h1 : ws = [] -> Q (.ref t) s) (h2 : ws ≠ [] -> Q (.ref s.heap.objs.size) { s with heap:=s.heap.push { cls:=.type "tuple",data:=.seq (vs++ws).toArray } })
  (hsz : vs.length + ws.length <= sizeLine) : wpAny (model prog w) A (binaryOp .Add (.ref t) (.ref b)) Q E s:=by
 obtain ⟨⟨cls,dd,data,sl⟩,ho,hc,n,hd⟩:=id ht
 obtain ⟨⟨cls2,dd2,data2,sl2⟩,ho2,hc2,n2,hd2⟩:=id hb
 simp only at hc hd hc2 hd2
 subst hc hd hc2 hd2
 have e : vs.toArray++ws.toArray = (vs++ws).toArray:=by simp
 by_cases hw : ws = []
 ·exact concat_meets ⟨_,ho,rfl⟩ ⟨_,ho2,rfl⟩ noFill_tuple_add seq_tuple_add PySem.F.slot_tuple_add PySem.F.entry_tuple_add (PySem.F.args_tuple_add_2 _ _)
   (tuple_addW1 t b vs.toArray ws.toArray n n2 dd dd2 sl sl2 (by simpa using hv) (by simp [hw])) ⟨ho,ho2,h1 hw⟩
 ·refine concat_meets ⟨_,ho,rfl⟩ ⟨_,ho2,rfl⟩ noFill_tuple_add seq_tuple_add PySem.F.slot_tuple_add PySem.F.entry_tuple_add (PySem.F.args_tuple_add_2 _ _)
   (tuple_addW2 t b vs.toArray ws.toArray n n2 dd dd2 sl sl2 (by simpa using hv) (by simpa using hw) (by rw [List.size_toArray,List.size_toArray]; exact hsz)) ⟨ho,ho2,?_⟩
  rw [e]
  exact h2 hw
def sIx (n d : Nat) : Option Int -> Nat
 | none=>d
 | some v=>if v < 0 then (v + (n : Int)).toNat else min v.toNat n
theorem sIx_none (n d : Nat) : sIx n d none = d:=rfl
theorem sIx_nat (n d k : Nat) : sIx n d (some (k : Int)) = min k n:=by
 show (if (k : Int) < 0 then ((k : Int) + (n : Int)).toNat else min (k : Int).toNat n) = min k n
 rw [if_neg (by omega),Int.toNat_natCast]
theorem sIx_le (n d : Nat) (hd : d <= n) (o : Option Int) : sIx n d o <= n:=by
 cases o with
 | none=>exact hd
 | some v =>
  show (if v < 0 then (v + (n : Int)).toNat else min v.toNat n) <= n
  by_cases hv : v < 0
  ·rw [if_pos hv]; omega
  ·rw [if_neg hv]; exact Nat.min_le_right _ _
theorem zeB (v : Int) (n d : Nat) : (if v < 0 then max (v + (n : Int)) 0 else min v (n : Int)) = ((sIx n d (some v) : Nat) : Int):=by
 show (if v < 0 then max (v + (n : Int)) 0 else min v (n : Int)) = (((if v < 0 then (v + (n : Int)).toNat else min v.toNat n) : Nat) : Int)
 by_cases hv : v < 0
 ·simp only [if_pos hv]; omega
 ·simp only [if_neg hv]; omega
theorem zfg (lo hi : Option Int) (n : Nat) : Builtin.Slice.sliceAdjust lo hi 1 (n : Int) = (((sIx n 0 lo : Nat) : Int),((sIx n n hi : Nat) : Int)):=by
 have h1 : ¬ ((1 : Int) < 0):=by omega
 unfold Builtin.Slice.sliceAdjust
 simp only [h1,if_false]
 refine Prod.ext ?_ ?_
 ·cases lo with
  | none=>rfl
  | some v=>exact zeB v n 0
 ·cases hi with
  | none=>rfl
  | some v=>exact zeB v n n
theorem zfh (i j : Nat) : Builtin.Slice.slicePlaces (i : Int) (j : Int) 1 = j - i:=by
 unfold Builtin.Slice.slicePlaces
 have h1 : (1 : Int) > 0:=by omega
 simp only [h1,if_true,Int.ediv_one]
 split<;>omega
theorem zcy {v : Value} {o : Option Int} {Q : Option Int -> Shared -> Prop} (p : IsPart v o) (h : Q o s) : wpAny (model prog w) A (Builtin.Slice.slicePartIndex v) Q E s:=by
 cases p with
 | none=>exact slicePart_none h
 | int i t=>exact slicePart_int h
theorem zce {sl : Addr} {vl vu : Value} {lo hi : Option Int} {n : Nat} {Q : Int × Int × Nat -> Shared -> Prop} (hs : s.heap.IsSliceOf sl vl vu .none) (pl : IsPart vl lo) (pu : IsPart vu hi)
  (h : Q (((sIx n 0 lo : Nat) : Int),1,sIx n n hi - sIx n 0 lo) s) : wpAny (model prog w) A (Builtin.Slice.sliceApplied (.ref sl) (pure (n : Int))) Q E s:=by
 obtain ⟨os,hos,hcs,hds⟩:=id hs
 unfold Builtin.Slice.sliceApplied Builtin.Slice.sliceFields
 refine wpAny_bind (wpAny_bind (wpAny_field hos hds (x:=vl) rfl (wpAny_bind (wpAny_field hos hds (x:=vu) rfl (wpAny_bind (wpAny_field hos hds (x:=.none) rfl (wpAny_pure ?_)))))))
 refine wpAny_bind (slicePart_none ?_)
 show wpAny _ _ (if ((1 : Int) == 0) = true then _ else _) _ _ s
 rw [if_neg (by decide)]
 refine wpAny_bind (zcy pl (wpAny_bind (zcy pu (wpAny_bind (wpAny_pure ?_)))))
 show wpAny _ _ (match Builtin.Slice.sliceAdjust lo hi 1 (n : Int) with | (lo,hi)=>pure (lo,(1 : Int),Builtin.Slice.slicePlaces lo hi 1)) _ _ s
 rw [zfg lo hi n]
 show wpAny _ _ (pure (((sIx n 0 lo : Nat) : Int),(1 : Int),Builtin.Slice.slicePlaces ((sIx n 0 lo : Nat) : Int) ((sIx n n hi : Nat) : Int) 1)) _ _ s
 rw [zfh]
 exact wpAny_pure h
theorem zgP (xs : Array Value) (i k : Nat) : ((List.range k).filterMap λ(m : Nat)=>xs[((i : Int) + (m : Int) * 1).toNat]?).toArray = ((xs.toList.drop i).take k).toArray:=by
 have e : (λ(m : Nat)=>xs[((i : Int) + (m : Int) * 1).toNat]?) = λm=>xs[i + m]? := by
  funext m
  have : ((i : Int) + (m : Int) * 1).toNat = i + m:=by omega
  rw [this]
 rw [e]
 have:=pick_run xs i k
 rw [List.filterMap_map] at this
 have e2 : ((λx=>xs[x]?) ∘ λx=>i + x) = λm=>xs[i + m]? := rfl
 rw [e2] at this
 rw [this]
theorem getItem_tuple_cut {t sl : Addr} {items : Array Value} {vl vu : Value} {lo hi : Option Int} {Q : Value -> Shared -> Prop} (ht : IsTup s.heap t items) (hs : s.heap.IsSliceOf sl vl vu .none) (pl : IsPart vl lo) (pu : IsPart vu hi)
  (hw : ¬ (sIx items.size 0 lo = 0 /\ sIx items.size items.size hi = items.size))
  (h : Q (.ref s.heap.objs.size) { s with heap:=s.heap.push { cls:=.type "tuple",data:=.seq ((items.toList.drop (sIx items.size 0 lo)).take (sIx items.size items.size hi - sIx items.size 0 lo)).toArray } })
  (hsz : items.size <= sizeLine) : wpAny (model prog w) A (getItem (.ref t) (.ref sl)) Q E s:=by
 have htake : sizeOk (.seq ((items.toList.drop (sIx items.size 0 lo)).take (sIx items.size items.size hi - sIx items.size 0 lo)).toArray):=by
  show ((items.toList.drop (sIx items.size 0 lo)).take (sIx items.size items.size hi - sIx items.size 0 lo)).toArray.size <= sizeLine
  rw [List.size_toArray,List.length_take,List.length_drop,Array.length_toList]
  omega
 have hj : sIx items.size items.size hi <= items.size:=sIx_le _ _ (Nat.le_refl _) hi
 obtain ⟨os,hos,hcs,hds⟩:=id hs
 have hTs : s.TypeIs (.ref sl) "slice" := ⟨os,hos,hcs⟩
 unfold getItem
 try with_reducible refine wpAny_holding ?_
 first | refine wpAny_bind (wpAny_pure ?_) | skip
 refine wpAny_bind (wpAny_sequenceKey ht.typeIs (by decide) ?_)
 refine wpAny_bind (wpAny_callSpecial?_slot (name:=Str.ofString "__getitem__") ht.typeIs PyProof.Rows.slot_tuple_getitem
  (wpAny_call_entry PyProof.Rows.slot_tuple_getitem ht.typeIs entry_tuple_getitem ?_ (args_tuple_getitem _ _)))
 show wpAny _ _ (Builtin.Tuple.tupleItemsOf (.ref t) >>= _) _ _ s
 refine wpAny_bind (tupleItemsOf_ ht ?_)
 refine wpAny_bind (wpAny_typeOf hTs ?_)
 rw [if_pos (by decide)]
 refine wpAny_bind (zce hs pl pu ?_)
 have hno : ¬ ((((sIx items.size 0 lo : Nat) : Int) == 0 && (1 : Int) == 1 && (sIx items.size items.size hi - sIx items.size 0 lo) == items.size) = true):=by
  intro q
  rw [Bool.and_eq_true,Bool.and_eq_true] at q
  have q1 : ((sIx items.size 0 lo : Nat) : Int) = 0:=eq_of_beq q.1.1
  have q2 : sIx items.size items.size hi - sIx items.size 0 lo = items.size:=eq_of_beq q.2
  exact hw ⟨by omega,by omega⟩
 show wpAny _ _ (if (((sIx items.size 0 lo : Nat) : Int) == 0 && (1 : Int) == 1 && (sIx items.size items.size hi - sIx items.size 0 lo) == items.size) = true then _ else _) _ _ s
 rw [if_neg hno,zgP]
 first
  | exact wpAny_bind (m:=Builtin.Tuple.tupleExact _) (wpAny_newObj_type (wpAny_pure ⟨_,rfl,wpAny_pure h⟩) htake)
  | exact wpAny_bind (m:=Builtin.Tuple.tupleExact _) (wpAny_newObj_type (wpAny_bind (wpAny_pure (wpAny_pure ⟨_,rfl,wpAny_pure h⟩))) htake)
  | exact wpAny_bind (wpAny_bind (m:=Builtin.Tuple.tupleExact _) (wpAny_newObj_type (wpAny_pure (wpAny_pure ⟨_,rfl,wpAny_pure h⟩)) htake))
  | exact wpAny_bind (wpAny_bind (m:=Builtin.Tuple.tupleExact _) (wpAny_newObj_type (wpAny_pure ⟨_,rfl,wpAny_pure h⟩) htake))
end
end HT
namespace L2
open PySem PySem.Spec PyProof.Rows
abbrev TO:=St -> Hp -> (Option Int -> Hp -> Prop) -> Prop
def PO (X : Cx) (e : Option Expr) (t : TO) : Prop :=
 ∀ (pins : List (Addr × Obj)) (s : Shared) (σ : St) (H : Hp) (Q : Option Int -> Hp -> Prop),Inv X pins σ H s -> t σ H Q ->
  wpAny (model X.prog X.w) X.A (evalPart e X.env) (λu s' => ∃ o H',Inv X pins σ H' s' /\ IsPart u o /\ Q o H') X.xe s
def yeI : TO:=λ_ H Q=>Q none H
def yfI (t : TE) : TO:=λσ H Q=>t σ H λx H1=>∃ i,x = .int i /\ Q (some i) H1
section
variable {X : Cx} {e : Expr} {te : TE} {lo hi : Option Expr} {tl th : TO} {pos p2 : Pos}
theorem zhO : PO X none yeI:=by
 intro pins s σ H Q I h
 rw [evalPart_none]
 exact wpAny_pure ⟨none,H,I,.none,h⟩
theorem zhP (h : PE X e te) : PO X (some e) (yfI te):=by
 intro pins s σ H Q I hw
 rw [evalPart_some]
 refine thn (h pins s σ H _ I hw) λu s1 ⟨x,H1,I1,r1,q1⟩=>?_
 obtain ⟨i,rfl,q⟩:=q1
 obtain ⟨t,rfl⟩:=r1
 exact ⟨some i,H1,I1,.int i t,q⟩
def SlR (X : Cx) (r : V -> Option Int -> Option Int -> Hp -> VK -> Prop) : Prop :=
 ∀ (pins : List (Addr × Obj)) (s : Shared) (σ : St) (H : Hp) (x : V) (v vl vu : Value) (lo hi : Option Int) (sl : Addr) (Q : VK),Inv X pins σ H s -> RelV x v -> s.heap.IsSliceOf sl vl vu .none -> IsPart vl lo -> IsPart vu hi -> r x lo hi H Q ->
  ∃ T id,typeLookup (.type T) "__getitem__" = pure (some (.builtin id)) /\ s.TypeIs v T /\ wpAny (model X.prog X.w) X.A (getItem v (.ref sl)) (EP X pins σ Q) X.xe s
theorem SlR.or {r r' : V -> Option Int -> Option Int -> Hp -> VK -> Prop} (h : SlR X r) (h' : SlR X r') : SlR X (λx lo hi H Q=>r x lo hi H Q \/ r' x lo hi H Q):=by
 intro pins s σ H x v vl vu lo hi sl Q I rx hs pl pu q
 rcases q with q | q
 ·exact h pins s σ H x v vl vu lo hi sl Q I rx hs pl pu q
 ·exact h' pins s σ H x v vl vu lo hi sl Q I rx hs pl pu q
def tSl (r : V -> Option Int -> Option Int -> Hp -> VK -> Prop) (te : TE) (tl th : TO) : TE:=λσ H Q=>te σ H λx H1=>tl σ H1 λl H2=>th σ H2 λu H3=>r x l u H3 Q
theorem zgQ {r : V -> Option Int -> Option Int -> Hp -> VK -> Prop} (hr : SlR X r) (he : PE X e te) (hl : PO X lo tl) (hu : PO X hi th) : PE X (.Subscript e (.Slice lo hi none p2) pos) (tSl r te tl th):=by
 intro pins s σ H Q I h
 refine Subscript_ (thn (he pins s σ H _ I h) λv s1 ⟨x,H1,I1,r1,q1⟩=>?_)
 refine wpAny_Slice (thn (hl pins s1 σ H1 _ I1 q1) λvl s2 ⟨l,H2,I2,pl,q2⟩=>thn (hu pins s2 σ H2 _ I2 q2) λvu s3 ⟨u,H3,I3,pu,q3⟩=>?_)
 rw [evalPart_none]
 refine wpAny_pure ?_
 have I4 : Inv X pins σ H3 { s3 with heap:=s3.heap.push { cls:=.type "slice",data:=.fields #[vl,vu,.none] } }:=I3.kept (t' := s3.toks) λb ob q=>Heap.get?_push_of_some _ q
 obtain ⟨T,id,hT,ht,hg⟩:=hr pins { s3 with heap:=s3.heap.push { cls:=.type "slice",data:=.fields #[vl,vu,.none] } } σ H3 x v vl vu l u s3.heap.objs.size Q I4 r1 (Heap.IsSliceOf.new ..) pl pu q3
 show wpAny (model X.prog X.w) X.A (subscriptTail e (.Slice lo hi none p2) v (.ref s3.heap.objs.size)) (EP X pins σ Q) X.xe { s3 with heap:=s3.heap.push { cls:=.type "slice",data:=.fields #[vl,vu,.none] } }
 exact tail_any (ops:=[.ref s3.heap.objs.size,v]) ht hT hg (by with_unfolding_all rfl)
def cutV (xs : List V) (lo hi : Option Int) : List V:=(xs.drop (HT.sIx xs.length 0 lo)).take (HT.sIx xs.length xs.length hi - HT.sIx xs.length 0 lo)
theorem zb8 (xs : List V) (lo hi : Option Int) : (cutV xs lo hi).length <= xs.length:=by
 unfold cutV
 rw [List.length_take,List.length_drop]
 omega
def rSlT (K : PySem.W.Frag) : V -> Option Int -> Option Int -> Hp -> VK -> Prop:=λx lo hi H Q=>∃ a xs,x = .ref a /\ SqT K H a xs /\
 ¬ (HT.sIx xs.length 0 lo = 0 /\ HT.sIx xs.length xs.length hi = xs.length) /\ ∀ p,H p = none -> Q (.ref p) (upd H p (.tup (cutV xs lo hi)))
theorem sl_tup : SlR X (rSlT X.K):=by
 intro pins s σ H x v vl vu lo hi sl Q I rx hs pl pu h
 obtain ⟨a,xs,rfl,hx,hw,q⟩:=h
 cases rx
 obtain ⟨its,r,ht,hz⟩:=I.tuple hx
 have hlen : its.toArray.size = xs.length:=by rw [List.size_toArray]; exact r.length.symm
 refine ⟨"tuple",_,PyProof.Rows.slot_tuple_getitem.lookup,ht.typeIs,?_⟩
 refine HT.getItem_tuple_cut ht hs pl pu (by rw [hlen]; exact hw) ?_ (by rw [hlen]; exact hz)
 rw [hlen]
 refine ⟨.ref s.heap.objs.size,_,I.laid (t' := s.toks) (o:=.tup (cutV xs lo hi)) (λb ob q=>Heap.get?_push_of_some _ q) (Nat.le_refl _) ?_,rfl,q _ (I.hok.fresh (Nat.le_refl _))⟩
 exact ⟨Nat.le_trans (zb8 xs lo hi) hz,_,(r.drop (HT.sIx xs.length 0 lo)).take (HT.sIx xs.length xs.length hi - HT.sIx xs.length 0 lo),IsTup.new _ _⟩
def yhT (K : PySem.W.Frag) : R2:=λx y H Q=>∃ a b xs ys,x = .ref a /\ y = .ref b /\ SqT K H a xs /\ SqT K H b ys /\ xs ≠ [] /\ xs.length + ys.length <= sizeLine /\
 (ys = [] -> Q (.ref a) H) /\ (ys ≠ [] -> ∀ p,H p = none -> Q (.ref p) (upd H p (.tup (xs++ys))))
theorem Vals.nil_iff {xs : List V} {us : List Value} (r : Vals xs us) : us = [] ↔ xs = []:=by
 cases r with
 | nil=>simp
 | cons _ _=>simp
theorem zhQ : OpR X (binaryOp .Add) (yhT X.K):=by
 intro pins s σ H x y v u Q I rx ry h
 obtain ⟨a,b,xs,ys,rfl,rfl,ha,hb,hx,hz,q1,q2⟩:=h
 cases rx
 cases ry
 obtain ⟨its,r1,p1,_⟩:=I.tuple ha
 obtain ⟨its2,r2,p2,_⟩:=I.tuple hb
 refine HT.cat_tup p1 p2 (λz=>hx (r1.nil_iff.mp z)) (λz=>⟨.ref a,H,I,rfl,q1 (r2.nil_iff.mp z)⟩) (λz=>?_) (by rw [<- r1.length,<- r2.length]; exact hz)
 refine ⟨.ref s.heap.objs.size,_,I.laid (t' := s.toks) (o:=.tup (xs++ys)) (λb ob q=>Heap.get?_push_of_some _ q) (Nat.le_refl _) ?_,rfl,q2 (λw=>z (r2.nil_iff.mpr w)) _ (I.hok.fresh (Nat.le_refl _))⟩
 exact ⟨by rw [List.length_append]; exact hz,_,r1.append r2,IsTup.new _ _⟩
end
end L2
namespace L2
open PySem PySem.Spec PyProof.Rows
def ixN (n : Nat) (i : Int) : Option Nat:=if 0 <= i then (if i < n then some i.toNat else none) else if -(n : Int) <= i then some (i + n).toNat else none
def atI {α : Type} (xs : List α) (i : Int) : Option α:=(ixN xs.length i).bind λj=>xs[j]?
theorem zeC {n : Nat} {i : Int} {j : Nat} (h : ixN n i = some j) : seqIndex? i n = some j /\ j < n /\ -(n : Int) <= i /\ i < n:=by
 unfold ixN at h
 by_cases h0 : 0 <= i
 ·rw [if_pos h0] at h
  by_cases h1 : i < n
  ·rw [if_pos h1] at h
   have e : i.toNat = j:=Option.some.inj h
   exact ⟨by rw [seqIndex_of h0 h1,e],by omega,by omega,h1⟩
  ·rw [if_neg h1] at h; cases h
 ·rw [if_neg h0] at h
  by_cases h1 : -(n : Int) <= i
  ·rw [if_pos h1] at h
   have e : (i + n).toNat = j:=Option.some.inj h
   exact ⟨by rw [seqIndex_neg (by omega) h1,e],by omega,h1,by omega⟩
  ·rw [if_neg h1] at h; cases h
theorem zbW {α : Type} {xs : List α} {i : Int} {v : α} (h : atI xs i = some v) : ∃ j,seqIndex? i xs.length = some j /\ xs[j]? = some v /\ j < xs.length /\ -(xs.length : Int) <= i /\ i < xs.length:=by
 unfold atI at h
 cases e : ixN xs.length i with
 | none=>rw [e] at h; cases h
 | some j =>
  rw [e] at h
  obtain ⟨h1,h2,h3,h4⟩:=zeC e
  exact ⟨j,h1,h,h2,h3,h4⟩
theorem zcJ {α : Type} {xs : List α} {j : Nat} {v : α} (h : xs[j]? = some v) : atI xs (j : Int) = some v:=by
 have hj : j < xs.length:=(List.getElem?_eq_some_iff.mp h).1
 have e : ixN xs.length (j : Int) = some j:=by
  unfold ixN
  rw [if_pos (by omega),if_pos (by omega)]; simp
 unfold atI; rw [e]; exact h
def yeJ (b : Expr) : Prop:=∀ o i,subscripted b false o i = operate [o,i] (getItem o i)
def IxR (X : Cx) (r : R2) : Prop :=
 ∀ (value slice : Expr) (pins : List (Addr × Obj)) (s : Shared) (σ : St) (H : Hp) (x y : V) (v u : Value) (Q : VK),Inv X pins σ H s -> RelV x v -> RelV y u -> r x y H Q ->
  subscripted slice false v u = operate [v,u] (getItem v u) -> wpAny (model X.prog X.w) X.A (subscriptTail value slice v u) (EP X pins σ Q) X.xe s
def MtR (X : Cx) (id : String) (r : V -> List V -> Hp -> VK -> Prop) : Prop :=
 ∀ (pins : List (Addr × Obj)) (s : Shared) (σ : St) (H : Hp) (x : V) (xs : List V) (v : Value) (us : List Value) (Q : VK),Inv X pins σ H s -> RelV x v -> Vals xs us -> r x xs H Q ->
  wpAny (model X.prog X.w) X.A (call (.builtin id) (v :: us)) (EP X pins σ Q) X.xe s
section
variable {X : Cx} {a b : Expr} {ta tb : TE} {pos : Pos}
theorem IxR.or {r r' : R2} (h : IxR X r) (h' : IxR X r') : IxR X (λx y H Q=>r x y H Q \/ r' x y H Q):=by
 intro value slice pins s σ H x y v u Q I rx ry q hs
 rcases q with q | q
 ·exact h value slice pins s σ H x y v u Q I rx ry q hs
 ·exact h' value slice pins s σ H x y v u Q I rx ry q hs
theorem yhU {r : R2} (hr : IxR X r) (ha : PE X a ta) (hb : PE X b tb) (hs : yeJ b) : PE X (.Subscript a b pos) (tOp r ta tb):=by
 intro pins s σ H Q I h
 exact Subscript_ (binT ha hb I h λv u s2 x y H2 I2 rx ry q=>hr a b pins s2 σ H2 x y v u Q I2 rx ry q (hs _ _))
def rIxL (K : PySem.W.Frag) : R2:=λx y H Q=>∃ p xs i v,x = .ref p /\ y = .int i /\ SqL K H p xs /\ atI xs i = some v /\ Q v H
def rIxT (K : PySem.W.Frag) : R2:=λx y H Q=>∃ p xs i v,x = .ref p /\ y = .int i /\ SqT K H p xs /\ atI xs i = some v /\ Q v H
def rIxS : R2:=λx y H Q=>∃ z i c,x = .str z /\ y = .int i /\ z.length <= sizeLine /\ atI z.cps.toList i = some c /\ Q (.str ⟨#[c]⟩) H
theorem zhR : IxR X (rIxL X.K):=by
 intro value slice pins s σ H x y v u Q I rx ry h hs
 obtain ⟨p,xs,i,z,rfl,rfl,hq,he,q⟩:=h
 cases rx
 obtain ⟨t,rfl⟩:=ry
 obtain ⟨its,r,pl,hz⟩:=I.list hq
 obtain ⟨j,h1,h2,h3,h4,h5⟩:=zbW he
 obtain ⟨w,ew,rw'⟩:=r.get h2
 have hl:=r.length
 have hn:=ycS
 have fin : EP X pins σ Q w s:=⟨z,H,I,rw',q⟩
 by_cases h0 : 0 <= i
 ·have hj : i.toNat = j:=by
   rw [seqIndex_of h0 h5] at h1
   exact Option.some.inj h1
  exact item_listR pl.isList h0 (by omega) (by rw [hj]; simpa using ew) fin hs
 ·have hj : (i + (its.toArray.size : Int)).toNat = j:=by
   rw [seqIndex_neg (by omega) h4] at h1
   rw [List.size_toArray,<- hl]
   exact Option.some.inj h1
  exact subscriptTail_builtinR (x:=w) pl.isList.typeIs slot_list_getitem.lookup
   (wpAny_getItem_list_neg (Q:=λr s' => r = w /\ EP X pins σ Q r s') pl.isList (by omega) (by rw [List.size_toArray]<;>omega) (by omega) (by rw [hj]; simpa using ew) ⟨rfl,fin⟩) hs
theorem ix_tup : IxR X (rIxT X.K):=by
 intro value slice pins s σ H x y v u Q I rx ry h hs
 obtain ⟨p,xs,i,z,rfl,rfl,hq,he,q⟩:=h
 cases rx
 obtain ⟨t,rfl⟩:=ry
 obtain ⟨its,r,pl,hz⟩:=I.tuple hq
 obtain ⟨j,h1,h2,h3,h4,h5⟩:=zbW he
 obtain ⟨w,ew,rw'⟩:=r.get h2
 have hl:=r.length
 have hn:=ycS
 have fin : EP X pins σ Q w s:=⟨z,H,I,rw',q⟩
 exact subscriptTail_builtinR (x:=w) pl.typeIs slot_tuple_getitem.lookup
  (getItem_tuple (j:=j) (Q:=λr s' => r = w /\ EP X pins σ Q r s') pl (by omega) (by omega) (by rw [List.size_toArray,<- hl]; exact h1) (by simpa using ew) ⟨rfl,fin⟩) hs
theorem ygz : IxR X rIxS:=by
 intro value slice pins s σ H x y v u Q I rx ry h hs
 obtain ⟨z,i,c,rfl,rfl,hz,he,q⟩:=h
 obtain ⟨t,rfl⟩:=rx
 obtain ⟨t',rfl⟩:=ry
 obtain ⟨j,h1,h2,h3,h4,h5⟩:=zbW he
 have hl : z.cps.toList.length = z.length:=by simp [Str.length]
 rw [hl] at h1 h4 h5
 have hn:=ycS
 exact tail_any (typeIs_str s z t) slot_str_getitem.lookup (getItem_str (c:=c) (by
  have e1 : decide (i < -(2 ^ 63 : Int)) = false:=decide_eq_false (by omega)
  have e2 : decide (i ≥ 2 ^ 63) = false:=decide_eq_false (by omega)
  rw [e1,e2,Bool.or_false]) (by rw [h1]; simpa using h2) ⟨.str ⟨#[c]⟩,H,I.tok _,⟨_,rfl⟩,q⟩) hs
def rIx (K : PySem.W.Frag) : R2:=λx y H Q=>rIxL K x y H Q \/ rIxT K x y H Q \/ rIxS x y H Q
theorem ygA : IxR X (rIx X.K):=zhR.or (ix_tup.or ygz)
theorem zfi (its : List Value) (n j : Nat) (u : Value) : Obj.mapSeq (·.setIfInBounds j u) { cls:=.type "list",data:=.seq its.toArray n } = { cls:=.type "list",data:=.seq (its.set j u).toArray n }:=by
 simp [Obj.mapSeq]
theorem Inv.lst {pins : List (Addr × Obj)} {σ : St} {H : Hp} {s : Shared} {p : Addr} {xs : List V} (I : Inv X pins σ H s) (h : H p = some (.lst xs)) :
  ∃ (its : List Value) (n : Nat),Vals xs its /\ s.heap.get? p = some { cls:=.type "list",data:=.seq its.toArray n } /\ xs.length <= sizeLine:=by
 obtain ⟨z,its,n,r,e⟩:=I.hok p _ h
 exact ⟨its,n,r,e,z⟩
theorem Inv.lstUpd {pins : List (Addr × Obj)} {σ : St} {H : Hp} {s : Shared} {p : Addr} {xs ys : List V} {its its' : List Value} {n n' : Nat} {f : Obj -> Obj} (I : Inv X pins σ H s) (h : H p = some (.lst xs))
  (ho : s.heap.get? p = some { cls:=.type "list",data:=.seq its.toArray n }) (hf : f { cls:=.type "list",data:=.seq its.toArray n } = { cls:=.type "list",data:=.seq its'.toArray n' }) (r : Vals ys its') (hz : ys.length <= sizeLine) (t : Nat) :
  Inv X pins σ (upd H p (.lst ys)) { s with heap:=s.heap.update p f,toks:=t }:=by
 have e : (s.heap.update p f).get? p = some { cls:=.type "list",data:=.seq its'.toArray n' }:=by
  rw [Heap.get?_update_self f ho (by rw [hf]<;>rfl),hf]
 refine I.write (x:=p) (e:=p) (by rw [h]; trivial) (.inl rfl) (λb u hb q=>(Heap.get?_update_other _ _ (Ne.symm hb)).trans q) ⟨_,e⟩ ?_
 exact ⟨hz,its',n',r,e⟩
def yhV : V -> V -> V -> Hp -> (Hp -> Prop) -> Prop:=λo i v H Q=>∃ p xs k j,o = .ref p /\ i = .int k /\ H p = some (.lst xs) /\ ixN xs.length k = some j /\ Q (upd H p (.lst (xs.set j v)))
theorem zgR : PSet X yhV:=by
 intro pins s σ H o i v ov iv u Q I ro ri rv h
 obtain ⟨p,xs,k,j,rfl,rfl,hp,hj,q⟩:=h
 cases ro
 obtain ⟨t,rfl⟩:=ri
 obtain ⟨its,n,r,ho,hz⟩:=I.lst hp
 obtain ⟨h1,h2,h3,h4⟩:=zeC hj
 have hl:=r.length
 have hn:=ycS
 have I' : Inv X pins σ (upd H p (.lst (xs.set j v))) { s with heap:=s.heap.update p (Obj.mapSeq (·.setIfInBounds j u)) } :=
  I.lstUpd hp ho (zfi its n j u) (r.set rv j) (by rw [List.length_set]; exact hz) s.toks
 by_cases h0 : 0 <= k
 ·have hk : k.toNat = j:=by
   rw [seqIndex_of h0 h4] at h1
   exact Option.some.inj h1
  exact PySem.W.ki_setAt ho h0 (by omega) (by rw [List.size_toArray,<- hl]; exact h4) (by rw [hk]; exact ⟨_,I',q⟩)
 ·have hk : (k + (its.toArray.size : Int)).toNat = j:=by
   rw [seqIndex_neg (by omega) h3] at h1
   rw [List.size_toArray,<- hl]
   exact Option.some.inj h1
  exact PySem.W.ki_setBack ho (by omega) (by rw [List.size_toArray,<- hl]; exact h3) (by omega) (by rw [hk]; exact ⟨_,I',q⟩)
theorem zdD (lo hi : Option Int) (n : Nat) : (sliceBounds lo hi none n).1 = ((HT.sIx n 0 lo : Nat) : Int) /\ (sliceBounds lo hi none n).2.1 = ((HT.sIx n n hi : Nat) : Int) /\ (sliceBounds lo hi none n).2.2 = 1:=by
 refine ⟨?_,?_,rfl⟩
 ·cases lo with
  | none=>simp [sliceBounds,HT.sIx]
  | some i =>
   simp only [sliceBounds,HT.sIx,Option.getD_none,show (1 : Int) > 0 by decide,if_true]
   by_cases h : i < 0
   ·simp only [h,if_true]<;>omega
   ·simp only [h,if_false]<;>omega
 ·cases hi with
  | none=>simp [sliceBounds,HT.sIx]
  | some i =>
   simp only [sliceBounds,HT.sIx,Option.getD_none,show (1 : Int) > 0 by decide,if_true]
   by_cases h : i < 0
   ·simp only [h,if_true]<;>omega
   ·simp only [h,if_false]<;>omega
theorem zdo (its : List Value) (lo hi : Option Int) : slicePick its.toArray lo hi none = ((its.drop (HT.sIx its.length 0 lo)).take (HT.sIx its.length its.length hi - HT.sIx its.length 0 lo)).toArray:=by
 obtain ⟨h1,h2,h3⟩:=zdD lo hi its.toArray.size
 unfold slicePick
 rw [h1,h2,h3]
 simp only [sliceRange_one,pick_run,List.size_toArray]<;>rfl
def rSlL (K : PySem.W.Frag) : V -> Option Int -> Option Int -> Hp -> VK -> Prop:=λx lo hi H Q=>∃ a xs,x = .ref a /\ SqL K H a xs /\ ∀ p,H p = none -> Q (.ref p) (upd H p (.lst (cutV xs lo hi)))
theorem zhS : SlR X (rSlL X.K):=by
 intro pins s σ H x v vl vu lo hi sl Q I rx hs pl pu h
 obtain ⟨a,xs,rfl,hx,q⟩:=h
 cases rx
 obtain ⟨its,r,ht,hz⟩:=I.list hx
 have hlen:=r.length
 refine ⟨"list",_,slot_list_getitem.lookup,ht.isList.typeIs,?_⟩
 refine wpAny_getItem_list_slice ht.isList hs pl pu .none (by simp) ?_ (by rw [List.size_toArray]<;>omega)
 rw [zdo,<- hlen]
 refine ⟨.ref s.heap.objs.size,_,I.laid (t' := s.toks) (o:=.lst (cutV xs lo hi)) (λb ob q=>Heap.get?_push_of_some _ q) (Nat.le_refl _) ?_,rfl,q _ (I.hok.fresh (Nat.le_refl _))⟩
 exact ⟨Nat.le_trans (zb8 xs lo hi) hz,_,0,(r.drop (HT.sIx xs.length 0 lo)).take (HT.sIx xs.length xs.length hi - HT.sIx xs.length 0 lo),Heap.get?_push_size _ rfl⟩
theorem zdE : OpR X (compareOp .NotIn) (λx y H Q=>∃ i j,x = .str i /\ y = .str j /\ Q (.bl (!(!(Builtin.Str.occurrences j i 0 j.length 1).isEmpty))) H):=by
 intro pins s σ H x y v u Q I rx ry h
 obtain ⟨i,j,rfl,rfl,q⟩:=h
 obtain ⟨t,rfl⟩:=rx
 obtain ⟨t',rfl⟩:=ry
 exact notIn_str ⟨.bl _,H,I,rfl,q⟩
theorem zdF : CallR X (.builtin "len") (λxs H Q=>∃ p ys,xs = [.ref p] /\ (SqL X.K H p ys \/ SqT X.K H p ys) /\ Q (.int ys.length) H):=by
 intro pins s σ H xs us Q I r h
 obtain ⟨p,ys,rfl,hq,q⟩:=h
 obtain ⟨u,rfl,rx⟩:=ybJ r
 cases rx
 have hn:=ycS
 rcases hq with hq | hq
 ·obtain ⟨its,r',pl,hz⟩:=I.list hq
  have hlen:=r'.length
  exact Calls.call_len_list pl.isList (by simp only [List.size_toArray]<;>omega) ⟨.int ys.length,H,I.tok _,⟨s.toks + 1,by rw [List.size_toArray,hlen]⟩,q⟩
 ·obtain ⟨its,r',pl,hz⟩:=I.tuple hq
  have hlen:=r'.length
  exact len_tuple pl (by simp only [List.size_toArray]<;>omega) ⟨.int ys.length,H,I.tok _,⟨s.toks + 1,by rw [List.size_toArray,hlen]⟩,q⟩
theorem zdG : CallR X (.builtin "len") (λxs H Q=>∃ z,xs = [.str z] /\ z.length <= sizeLine /\ Q (.int z.length) H):=by
 intro pins s σ H xs us Q I r h
 obtain ⟨z,rfl,hz,q⟩:=h
 obtain ⟨u,rfl,t,rfl⟩:=ybJ r
 have hn:=ycS
 exact len_str (by omega) ⟨.int z.length,H,I.tok _,⟨_,rfl⟩,q⟩
theorem CallR.or {f : Value} {r r' : List V -> Hp -> VK -> Prop} (h : CallR X f r) (h' : CallR X f r') : CallR X f (λxs H Q=>r xs H Q \/ r' xs H Q):=by
 intro pins s σ H xs us Q I rs q
 rcases q with q | q
 ·exact h pins s σ H xs us Q I rs q
 ·exact h' pins s σ H xs us Q I rs q
def tyV (K : PySem.W.Frag) (T : String) (x : V) (H : Hp) : Prop:=match x with
 | .str _=>T = "str"
 | .int _=>T = "int"
 | .ref p=>(T = "list" /\ ∃ xs,SqL K H p xs) \/ (T = "tuple" /\ ∃ o,K.lookup p = some o /\ o.cls = .type "tuple" /\ o.dict = none) \/
   (T = "dict" /\ ((∃ kvs,H p = some (.dK kvs)) \/ ∃ xc kvs,H p = some (.dT xc kvs))) \/ (T = "set" /\ ∃ S n,H p = some (.set S n))
 | _=>False
theorem ygB {pins : List (Addr × Obj)} {σ : St} {H : Hp} {s : Shared} {T : String} {x : V} {v : Value} (I : Inv X pins σ H s) (r : RelV x v) (ty : tyV X.K T x H) :
  s.TypeIs v T /\ ∀ a,v = .ref a -> ∃ ob,s.heap.get? a = some ob /\ ob.dict = none:=by
 cases x with
 | str z =>
  obtain ⟨t,rfl⟩:=r
  cases (show T = "str" from ty)
  exact ⟨typeIs_str s z t,λ_ e=>nomatch e⟩
 | int i =>
  obtain ⟨t,rfl⟩:=r
  cases (show T = "int" from ty)
  exact ⟨typeIs_int s i t,λ_ e=>nomatch e⟩
 | ref p =>
  cases r
  rcases ty with ⟨rfl,xs,hq⟩ | ⟨rfl,o,hk,hc,hd⟩ | ⟨rfl,hk⟩ | ⟨rfl,S,n,hk⟩
  ·obtain ⟨its,_,pl,_⟩:=I.list hq
   refine ⟨pl.isList.typeIs,λa e=>?_⟩
   cases e
   obtain ⟨o,n,e,c,hd,_⟩:=pl
   exact ⟨o,e,hd⟩
  ·refine ⟨⟨o,I.kIn p o hk,hc⟩,λa e=>?_⟩
   cases e
   exact ⟨o,I.kIn _ o hk,hd⟩
  ·have z : ∃ o,s.heap.get? p = some o /\ o.ExactDict:=by
    rcases hk with ⟨kvs,hk⟩ | ⟨xc,kvs,hk⟩
    ·obtain ⟨_,_,_,_,o,_,_,e,ex,_⟩:=I.hok p _ hk
     exact ⟨o,e,ex⟩
    ·obtain ⟨_,_,_,_,o,_,_,e,ex,_⟩:=I.hok p _ hk
     exact ⟨o,e,ex⟩
   obtain ⟨o,e,ex⟩:=z
   refine ⟨⟨o,e,ex.1⟩,λa e2=>?_⟩
   cases e2
   exact ⟨o,e,ex.2.1⟩
  ·obtain ⟨o,_,_,_,e,ex,_⟩:=I.hok p _ hk
   refine ⟨⟨o,e,ex.1⟩,λa e2=>?_⟩
   cases e2
   exact ⟨o,e,ex.2.1⟩
 | _=>exact False.elim ty
def tBM (K : PySem.W.Frag) (T : String) (r : V -> List V -> Hp -> VK -> Prop) (to : TE) (t : TA) : TE:=λσ H Q=>to σ H λx H1=>tyV K T x H1 /\ t σ H1 λxs H2=>r x xs H2 Q
variable {o e : Expr} {es : List Expr} {to : TE} {t : TA} {name : Str} {apos cpos : Pos} {T id : String} {r : V -> List V -> Hp -> VK -> Prop}
theorem yhW (pa : PlainAttrs T) (slot : Slot T name id) (hty : typeOf (.builtin id) = pure (.type "method_descriptor")) (hm : MtR X id r) (ho : PE X o to) (ha : PA X (e :: es) t)
  (hbase : attributeBase o name X.env (eval o X.env) = eval o X.env:=by rfl)
  (hfew : ((backTo cpos (starEach (e :: es) X.env)).all (λx=>!x.1) && (backToKw cpos (keywordEach [] X.env)).all (λx=>x.1.isSome)
   && decide ((e :: es).length + ([] : List Keyword).length + (if ([] : List Keyword).isEmpty then 0 else 1) < 30)) = true:=by rfl)
  (hline : (apos.endLine == cpos.line) = true:=by rfl) (hs : starEach (e :: es) X.env = (false,eval e X.env) :: starEach es X.env:=by rfl) (hplain : (backTo cpos (starEach es X.env)).any (·.1) = false:=by rfl) :
  PE X (.Call (.Attribute o name apos) (e :: es) [] cpos) (tBM X.K T r to t):=by
 intro pins s σ H Q I h
 refine wpAny_Call_method_late hbase hfew hline rfl (thn (ho pins s σ H _ I h) λv s1 ⟨x,H1,I1,r1,ty,q1⟩=>?_)
 obtain ⟨h1,h2⟩:=ygB I1 r1 ty
 refine ⟨T,id,pa,slot,hty,h1,h2,?_⟩
 have hA:=ha cpos pins s1 σ H1 _ I1 q1
 rw [hs] at hA ⊢
 refine Calls.callWith_builtin (by show (false || (backTo cpos (starEach es X.env)).any (·.1)) = false; rw [hplain]<;>rfl) (Calls.evalArgs_plain ?_)
 exact thn hA λus s2 ⟨vs,H2,I2,r2,q2⟩=>hm pins s2 σ H2 x vs v us Q I2 r1 r2 q2
end
end L2
namespace L2
open PySem PySem.Spec PyProof.Rows
def MtM (X : Cx) (id : String) (r : V -> List V -> Hp -> VK -> Prop) : Prop :=
 ∀ (pins : List (Addr × Obj)) (s : Shared) (σ : St) (H : Hp) (x : V) (xs : List V) (v : Value) (us : List Value) (Q : VK),Inv X pins σ H s -> RelV x v -> Vals xs us -> r x xs H Q ->
  wpAny (model X.prog X.w) X.A (call (.builtin id) (v :: us)) (EP X pins σ Q) X.xe s
theorem Vals.one : ∀ {x : V} {us : List Value},Vals [x] us -> ∃ u,us = [u] /\ RelV x u
 | _,_,.cons r .nil=>⟨_,rfl,r⟩
theorem Vals.rep {xs : List V} {us : List Value} (h : Vals xs us) : ∀ k : Nat,Vals (List.replicate k xs).flatten (List.replicate k us).flatten
 | 0=>.nil
 | k + 1=>by
  rw [List.replicate_succ,List.replicate_succ,List.flatten_cons,List.flatten_cons]
  exact Vals.append h (Vals.rep h k)
section
variable {X : Cx} {pins : List (Addr × Obj)} {σ : St} {H : Hp} {s : Shared} {l b : Addr} {xs ys zs : List V}
theorem Inv.lset {its its' : List Value} {n : Nat} {f : Array Value -> Array Value} {t' : Nat} (I : Inv X pins σ H s) (hH : H l = some (.lst xs))
  (e : s.heap.get? l = some { cls:=.type "list",data:=.seq its.toArray n }) (hf : f its.toArray = its'.toArray) (hv : Vals ys its') (hz : ys.length <= sizeLine) :
  Inv X pins σ (upd H l (.lst ys)) { s with heap:=s.heap.update l (Obj.mapSeq f),toks:=t' }:=by
 have q:=PySem.IsL.update e f
 rw [hf] at q
 refine I.write (x:=l) (e:=l) (by rw [hH]; exact trivial) (.inl rfl) (λb' u hb hu=>(Heap.get?_update_other s.heap (Obj.mapSeq f) (Ne.symm hb)).trans hu) ⟨_,q⟩ ?_
 exact ⟨hz,its',_,hv,q⟩
theorem Inv.lnew {its : List Value} {t' : Nat} (I : Inv X pins σ H s) (hv : Vals ys its) (hz : ys.length <= sizeLine) :
  Inv X pins σ (upd H s.heap.objs.size (.lst ys)) { s with heap:=s.heap.push { cls:=.type "list",data:=.seq its.toArray },toks:=t' } :=
 I.laid (λ_ _ q=>Heap.get?_push_of_some _ q) (Nat.le_refl _) ⟨hz,its,0,hv,Heap.get?_push_size _ rfl⟩
theorem Inv.fresh (I : Inv X pins σ H s) : H s.heap.objs.size = none:=I.hok.fresh (Nat.le_refl _)
theorem Inv.lstM (I : Inv X pins σ H s) (hH : H l = some (.lst xs)) : xs.length <= sizeLine /\ ∃ (its : List Value) (n : Nat),Vals xs its /\ xs.length = its.length /\ s.heap.get? l = some { cls:=.type "list",data:=.seq its.toArray n }:=by
 obtain ⟨z,its,n,r,e⟩:=I.hok l _ hH
 exact ⟨z,its,n,r,r.length,e⟩
end
section
variable {X : Cx}
def yf7 : V -> List V -> Hp -> VK -> Prop:=λx vs H Q=>∃ l xs y,x = .ref l /\ vs = [y] /\ H l = some (.lst xs) /\ xs.length < sizeLine /\ Q .non (upd H l (.lst (xs++[y])))
theorem zc8 : MtM X "list.append" yf7:=by
 intro pins s σ H x vs v us Q I rx rv h
 obtain ⟨l,xs,y,rfl,rfl,hH,hz,q⟩:=h
 cases rx
 obtain ⟨u,rfl,ru⟩:=rv.one
 obtain ⟨z,its,n,r,hl,e⟩:=I.lstM hH
 refine call_meets F.slot_list_append ⟨_,e,rfl⟩ F.entry_list_append (F.args_list_append_2 _ _) (PySem.list_append l its.toArray n u (by rw [List.size_toArray]; omega)) ⟨e,?_⟩
 refine ⟨.non,_,I.lset (its' := its++[u]) hH e (by simp) (r.append (.cons ru .nil)) ?_,rfl,q⟩
 rw [List.length_append,List.length_singleton]
 omega
end
section
variable {prog : Program} {w : World} {A : Around} {E : Value -> Shared -> Prop} {s : Shared}
end
section
variable {X : Cx}
end
end L2
namespace L2
open PySem PySem.Spec PyProof.Rows
section
variable {κ : Type} [DecidableEq κ]
def valV (kvs : List (κ × V)) (k : κ) : Option V:=(kvs.find? λkv=>decide (kv.1 = k)).map (·.2)
def putK (kvs : List (κ × V)) (k : κ) (v : V) : List (κ × V) :=
 if (kvs.any λkv=>decide (kv.1 = k)) = true then kvs.map (λkv=>if kv.1 = k then (kv.1,v) else kv) else kvs++[(k,v)]
theorem zbo {p : κ × V} {r : List (κ × V)} {k : κ} (e : p.1 = k) : valV (p :: r) k = some p.2:=by simp [valV,List.find?_cons,e]
theorem za1 {p : κ × V} {r : List (κ × V)} {k : κ} (e : ¬ p.1 = k) : valV (p :: r) k = valV r k:=by simp [valV,List.find?_cons,e]
theorem zbp (k : κ) : ∀ kvs : List (κ × V),(kvs.any λkv=>decide (kv.1 = k)) = (valV kvs k).isSome
 | []=>rfl
 | p :: r=>by
  rw [List.any_cons]
  by_cases e : p.1 = k
  ·simp only [zbo e,decide_eq_true e,Bool.true_or,Option.isSome_some]
  ·rw [za1 e,decide_eq_false e,Bool.false_or]; exact zbp k r
theorem zbf (kvs : List (κ × V)) (k : κ) (v : V) : (putK kvs k v).length <= kvs.length + 1:=by
 unfold putK
 split
 ·rw [List.length_map]; omega
 ·rw [List.length_append,List.length_cons,List.length_nil]; omega
theorem RelO.isSome_eq {o : Option V} {u : Option Value} (r : RelO o u) : o.isSome = u.isSome:=by
 cases o with
 | none=>cases u with
  | none=>rfl
  | some _=>exact (show False from r).elim
 | some _=>cases u with
  | none=>exact (show False from r).elim
  | some _=>rfl
theorem RelO.getD {o : Option V} {u : Option Value} {d : V} {d' : Value} (r : RelO o u) (rd : RelV d d') : RelV (o.getD d) (u.getD d'):=by
 cases o with
 | none=>cases u with
  | none=>exact rd
  | some _=>exact (show False from r).elim
 | some _=>cases u with
  | none=>exact (show False from r).elim
  | some _=>exact r
theorem KV.val {kvs : List (κ × V)} {vs : List (κ × Value)} (r : KV kvs vs) (k : κ) : RelO (valV kvs k) (valueAt vs k):=by
 unfold KV at r
 induction r with
 | nil=>exact True.intro
 | @cons p q ps qs h t ih =>
  obtain ⟨h1,h2⟩:=h
  by_cases e : p.1 = k
  ·have e' : q.1 = k:=h1.symm.trans e
   have b : valueAt (q :: qs) k = some q.2:=by simp [valueAt,List.find?_cons,e']
   rw [zbo e,b]; exact h2
  ·have e' : ¬ q.1 = k:=λz=>e (h1.trans z)
   have b : valueAt (q :: qs) k = valueAt qs k:=by simp [valueAt,List.find?_cons,e']
   rw [za1 e,b]; exact ih
theorem KV.any {kvs : List (κ × V)} {vs : List (κ × Value)} (r : KV kvs vs) (k : κ) : (kvs.any λkv=>decide (kv.1 = k)) = vs.any λkv=>decide (kv.1 = k):=by
 unfold KV at r
 induction r with
 | nil=>rfl
 | cons h t ih=>rw [List.any_cons,List.any_cons,ih,h.1]
theorem KV.repl {kvs : List (κ × V)} {vs : List (κ × Value)} (r : KV kvs vs) (k : κ) {y : V} {u : Value} (ry : RelV y u) :
  KV (kvs.map λkv=>if kv.1 = k then (kv.1,y) else kv) (vs.map λkv=>if kv.1 = k then (kv.1,u) else kv):=by
 unfold KV at r ⊢
 induction r with
 | nil=>exact .nil
 | @cons p q ps qs h t ih =>
  rw [List.map_cons,List.map_cons]
  refine .cons ?_ ih
  obtain ⟨h1,h2⟩:=h
  by_cases e : p.1 = k
  ·rw [if_pos e,if_pos (h1.symm.trans e)]; exact ⟨h1,ry⟩
  ·rw [if_neg e,if_neg (λz=>e (h1.trans z))]; exact ⟨h1,h2⟩
theorem KV.put {kvs : List (κ × V)} {vs : List (κ × Value)} (r : KV kvs vs) (k : κ) {y : V} {u : Value} (ry : RelV y u) : KV (putK kvs k y) (stored vs k u):=by
 unfold putK stored
 rw [r.any k]
 by_cases e : (vs.any λkv=>decide (kv.1 = k)) = true
 ·rw [if_pos e,if_pos e]; exact r.repl k ry
 ·rw [if_neg e,if_neg e]; exact Paired.snoc r ⟨rfl,ry⟩
theorem KV.length {kvs : List (κ × V)} {vs : List (κ × Value)} (r : KV kvs vs) : kvs.length = vs.length:=Paired.length r
end
theorem ydY {P : Program} {w : World} {k : Key} {u : Value} (r : RelV (kV k) u) : (ybG P w).is k u = true:=by
 cases k with
 | inl i=>obtain ⟨t,e⟩:=(show ∃ t,u = Value.int i t from r); subst e; exact zeg P w i t
 | inr x=>obtain ⟨t,e⟩:=(show ∃ t,u = Value.str x t from r); subst e; exact zeh P w x t
theorem ygC {P : Program} {w : World} {y : V} {k : Key} {u : Value} (e : kOf y = some k) (r : RelV y u) : (ybE P w).is k u = true:=by
 cases y with
 | int i=>cases e; obtain ⟨t,e⟩:=(show ∃ t,u = Value.int i t from r); subst e; exact zdA P w i t
 | str x=>cases e; obtain ⟨t,e⟩:=(show ∃ t,u = Value.str x t from r); subst e; exact zdB P w x t
 | bl b=>cases e; cases (show u = Value.bool b from r); exact decide_eq_true rfl
 | _=>cases e
theorem zc9 {P : Program} {w : World} : ∀ {ys : List V} {ks : List Key} {us : List Value},ys.map kOf = ks.map some -> Vals ys us -> ItemsAre (ybE P w) ks us
 | [],[],_,_,r=>by cases r; exact .nil
 | [],_ :: _,_,e,_=>by simp at e
 | _ :: _,[],_,e,_=>by simp at e
 | y :: ys,k :: ks,_,e,r=>by
  rw [List.map_cons,List.map_cons] at e
  injection e with e1 e2
  cases r with
  | cons h t=>exact .cons (ygC e1 h) (zc9 e2 t)
def KTup (H : Hp) (b : Addr) (k : List Key) : Prop:=∃ ys,H b = some (.tup ys) /\ ys.map kOf = k.map some
theorem KTup.of {H : Hp} {b : Addr} {k : List Key} (e : H b = some (.tup (k.map kV))) : KTup H b k:=⟨_,e,by rw [List.map_map]; exact List.map_congr_left λx _=>ygb x⟩
def DictE {P : Program} {w : World} {K : Type} [DecidableEq K] (h : Heap) (kn : PySem.HeapKind P w K) (d : Addr) (xs : List (K × Addr × Value)) (n : Nat) : Prop :=
 ∃ o es,h.get? d = some o /\ o.ExactDict /\ o.data = .dict es n /\ es.toList = xs.map (entryOfKey kn) /\ (∀ x ∈ xs,kn.is h x.1 x.2.1) /\ (xs.map (·.1)).Nodup
theorem DictE.of {P : Program} {w : World} {K : Type} [DecidableEq K] {h : Heap} {kn : PySem.HeapKind P w K} {d : Addr} {xs : List (K × Addr × Value)} {n : Nat} (e : DictE h kn d xs n) : h.DictOfH kn d xs:=e.imp λ_ ⟨es,r⟩=>⟨es,n,r⟩
theorem setE {P : Program} {w : World} {K : Type} [DecidableEq K] {kn : PySem.HeapKind P w K} {d b : Addr} {k : K} {xs : List (K × Addr × Value)} {A : Around} {E : Value -> Shared -> Prop} {s : Shared} {v : Value} {Q : Unit -> Shared -> Prop}
  (hu : kn.room A.in1) (hk : kn.is s.heap k b) (hm : DictE s.heap kn d xs xs.length) (hz : xs.length <= sizeLine)
  (q : ∀ g,DictE g kn d (storedH xs k b v) (storedH xs k b v).length -> Heap.SameBut d s.heap g -> Q () { s with heap:=g,toks:=s.toks + kn.draws k }) :
  wpAny (model P w) A (setItem (.ref d) (.ref b) v) Q E s:=by
 have ty:=hm.of.typeIs
 obtain ⟨o,es,e1,e2,e3,e4,e5,e6⟩:=hm
 unfold setItem
 try with_reducible refine wpAny_holding ?_
 refine wpAny_bind (wpAny_sequenceKey ty (by decide) (wpAny_bind (wpAny_callSpecial?_slot (name:=Str.ofString "__setitem__") ty slot_dict_setitem (wpAny_call_entry slot_dict_setitem ty entry_dict_setitem ?_ (args_dict_setitem _ _ _)))))
 show wpAny _ _ (Builtin.Dict.notOrdered "__setitem__" _ >>= _) _ _ s
 refine wpAny_bind (wpAny_notOrdered_dict ty (show wpAny _ _ (dictSet d (.ref b) v >>= _) _ _ s from wpAny_bind ?_))
 have fin : ∀ g,DictE g kn d (storedH xs k b v) (storedH xs k b v).length -> Heap.SameBut d s.heap g -> wpAny (model P w) A.in1 (pure Unit.unit) (λ_ s' => Q () s') (λ_ _=>False) { s with heap:=g,toks:=s.toks + kn.draws k }:=λg a c=>wpAny_pure (q g a c)
 unfold dictSet
 try with_reducible refine wpAny_holding ?_
 refine wpAny_bind (kn.pyHash hu hk ?_)
 unfold dictSetHashed
 try with_reducible refine wpAny_holding ?_
 refine wpAny_bind (wpAny_dictFind_heap (s:={ s with toks:=s.toks + kn.draws k }) hu hk e1 e3 e4 e5 e6 (λno=>?_) λj p hj=>?_)
 ·have st:=storedH_new (a:=b) (v:=v) (atKey_none_of_get no)
  refine wpAny_bind (wpAny_rule (wpAny_updateDictKeys (hz:=by have z:=size_of_entries e4; omega) (s:={ s with toks:=s.toks + kn.draws k }) e1 e3 (wpAny_pure ⟨.none,rfl,wpAny_pure (q _ ?_ (Heap.SameBut.update ..))⟩)))
  have ln : (xs++[(k,b,v)]).length = xs.length + 1:=by simp
  rw [st,ln]
  refine ⟨_,_,Heap.get?_update_self _ e1 (Obj.isFreed_of_dict (Obj.data_mapDictKeys e3 _)),e2.mapDictKeys _,Obj.data_mapDictKeys e3 _,?_,λx hx=>?_,?_⟩
  ·simp [e4,entryOfKey]
  ·rcases List.mem_append.mp hx with hx | hx
   ·exact kn.keeps (e5 x hx) e1 e3 (Heap.SameBut.update ..)
   ·have z : x = (k,b,v):=by simpa using hx
    rw [z]; exact kn.keeps hk e1 e3 (Heap.SameBut.update ..)
  ·rw [List.map_append,List.nodup_append]
   exact ⟨e6,by simp,λx hx y hy z=>not_mem_keys_of_get no (by
    have e : y = k:=by simpa using hy
    rw [<- e,<- z]; exact hx)⟩
 ·have st:=storedH_old (a:=b) (v:=v) (atKey_of_get e6 hj)
  refine wpAny_bind (wpAny_rule (wpAny_bind (wpAny_updateDict (s:={ s with toks:=s.toks + kn.draws k }) e1 e3 (wpAny_point (wpAny_pure ⟨.none,rfl,wpAny_pure (q _ ?_ (Heap.SameBut.update ..))⟩)))))
  rw [st,List.length_map]
  refine ⟨_,_,Heap.get?_update_self _ e1 (Obj.isFreed_of_dict (Obj.data_mapDict e3 _)),e2.mapDict _,Obj.data_mapDict e3 _,?_,λx hx=>?_,?_⟩
  ·have z:=modify_map_putAt (entryOfKey kn) (λe : DictEntry=>{ e with val:=v }) k v (λ_ _=>rfl) e6 hj
   rw [<- e4] at z
   obtain ⟨l⟩:=es
   simpa using z
  ·obtain ⟨y,hy,rfl⟩:=List.mem_map.mp hx
   unfold putAt
   split<;>exact kn.keeps (e5 y hy) e1 e3 (Heap.SameBut.update ..)
  ·rw [keys_map_putAt]; exact e6
def adX (xc : Option (List Addr)) (old : Bool) (b : Addr) : Option (List Addr):=xc.map λas=>if old then as else as++[b]
theorem ygD {xs : List (List Key × Addr × Value)} {k : List Key} {b : Addr} {u : Value} {xc : Option (List Addr)} (h : ∀ as,xc = some as -> xs.map (·.2.1) = as) : ∀ as,adX xc (atKey xs k).isSome b = some as -> (storedH xs k b u).map (·.2.1) = as:=by
 intro as e
 obtain ⟨bs,e1,e2⟩:=Option.map_eq_some_iff.mp e
 subst e2
 unfold storedH
 by_cases q : (atKey xs k).isSome = true
 ·rw [if_pos q,if_pos q,List.map_map,<- h bs e1]
  exact List.map_congr_left λx _=>by show (putAt k u x).2.1 = x.2.1; unfold putAt; split<;>rfl
 ·rw [if_neg q,if_neg q,List.map_append,h bs e1]; rfl
abbrev KT (H : Hp) : List (List Key × V) -> List (List Key × Addr × Value) -> Prop:=Paired λp q=>p.1 = q.1 /\ (∃ ys,H q.2.1 = some (.tup ys) /\ ys.map kOf = p.1.map some) /\ RelV p.2 q.2.2
theorem KT.val {H : Hp} {kvs : List (List Key × V)} {xs : List (List Key × Addr × Value)} (r : KT H kvs xs) (k : List Key) : RelO (valV kvs k) ((atKey xs k).map (·.2)):=by
 induction r with
 | nil=>exact True.intro
 | @cons p q ps qs h t ih =>
  obtain ⟨h1,_,h2⟩:=h
  by_cases e : p.1 = k
  ·have e' : q.1 = k:=h1.symm.trans e
   have b : atKey (q :: qs) k = some q.2:=by simp [atKey,List.find?_cons,e']
   rw [zbo e,b]; exact h2
  ·have e' : ¬ q.1 = k:=λz=>e (h1.trans z)
   have b : atKey (q :: qs) k = atKey qs k:=by simp [atKey,List.find?_cons,e']
   rw [za1 e,b]; exact ih
theorem KT.repl {H : Hp} {kvs : List (List Key × V)} {xs : List (List Key × Addr × Value)} (r : KT H kvs xs) (k : List Key) {y : V} {u : Value} (ry : RelV y u) :
  KT H (kvs.map λkv=>if kv.1 = k then (kv.1,y) else kv) (xs.map (putAt k u)):=by
 induction r with
 | nil=>exact .nil
 | @cons p q ps qs h t ih =>
  rw [List.map_cons,List.map_cons]
  refine .cons ?_ ih
  obtain ⟨h1,h2,h3⟩:=h
  unfold putAt
  by_cases e : p.1 = k
  ·rw [if_pos e,if_pos (h1.symm.trans e)]; exact ⟨h1,h2,ry⟩
  ·rw [if_neg e,if_neg (λz=>e (h1.trans z))]; exact ⟨h1,h2,h3⟩
theorem KT.put {H : Hp} {kvs : List (List Key × V)} {xs : List (List Key × Addr × Value)} (r : KT H kvs xs) (k : List Key) {b : Addr} {y : V} {u : Value} (hb : KTup H b k) (ry : RelV y u) :
  KT H (putK kvs k y) (storedH xs k b u):=by
 have e : (kvs.any λkv=>decide (kv.1 = k)) = (atKey xs k).isSome:=by
  rw [zbp,(r.val k).isSome_eq,Option.isSome_map]
 unfold putK storedH
 rw [e]
 by_cases q : (atKey xs k).isSome = true
 ·rw [if_pos q,if_pos q]; exact r.repl k ry
 ·rw [if_neg q,if_neg q]; exact Paired.snoc r ⟨rfl,hb,ry⟩
theorem KT.keeps {H H' : Hp} {kvs : List (List Key × V)} {xs : List (List Key × Addr × Value)} (r : KT H kvs xs) (ht : ∀ b ys,H b = some (.tup ys) -> H' b = some (.tup ys)) : KT H' kvs xs :=
 Paired.mapP r λ_ _ z=>⟨z.1,z.2.1.imp λ_ e=>⟨ht _ _ e.1,e.2⟩,z.2.2⟩
section
variable {P : Program} {w : World} {H : Hp} {h : Heap} {a : Addr}
theorem yfJ {u : HO} (ok : HOk P w H h) (e : Rd H a u) : ObjOk P w H h a u:=e.ok ok
theorem ydn {kvs : List (Key × V)} (ok : HOk P w H h) (e : Rd H a (.dK kvs)) : kvs.length <= sizeLine /\ (a == sysModules) = false /\ ∃ vs,KV kvs vs /\ h.DictOf (ybG P w) a vs :=
 show ObjOk P w H h a (.dK kvs) from yfJ ok e
theorem yfK {kvs : List (Key × V)} (ok : HOk P w H h) (e : H a = some (.dK kvs)) : kvs.length <= sizeLine /\ (a == sysModules) = false /\ ∃ vs,KV kvs vs /\ h.DictOf (ybG P w) a vs:=ydn ok (.inl e)
theorem ydD {ks : List Key} (ok : HOk P w H h) (e : KTup H a ks) : (tupleKind (ybE P w)).is h ks a:=by
 obtain ⟨ys,e,ek⟩:=e
 obtain ⟨_,its,r,o,h1,h2,n,h3⟩:=(show ObjOk P w H h a (.tup ys) from ok a _ e)
 exact ⟨o,its.toArray,n,h1,h2,h3,by simpa using zc9 ek r⟩
theorem ydN {xc : Option (List Addr)} {kvs : List (List Key × V)} (ok : HOk P w H h) (e : Rd H a (.dT xc kvs)) : kvs.length <= sizeLine /\ (a == sysModules) = false /\
  ∃ xs,KT H kvs xs /\ (∀ as,xc = some as -> xs.map (·.2.1) = as) /\ DictE h (tupleKind (ybE P w)) a xs xs.length:=by
 obtain ⟨z,y,xs,r,o,es,ep,h1,h2,h3,h4,h5⟩:=(show ObjOk P w H h a (.dT xc kvs) from yfJ ok e)
 obtain ⟨h5,h6,h7⟩:=h5
 subst h6
 refine ⟨z,y,xs,r,h7,o,es,h1,h2,h3,h4,λx hx=>?_,h5⟩
 have all : ∀ {l : List (List Key × V)} {m : List (List Key × Addr × Value)},KT H l m -> ∀ x ∈ m,(tupleKind (ybE P w)).is h x.1 x.2.1:=by
  intro l m q
  induction q with
  | nil=>intro x hx; exact nomatch hx
  | @cons p q ps qs hq t ih =>
   intro x hx
   rcases List.mem_cons.mp hx with e | hx
   ·subst e
    exact ydD ok (by rw [<- hq.1]; exact hq.2.1)
   ·exact ih x hx
 exact all r x hx
theorem yhX {xc : Option (List Addr)} {kvs : List (List Key × V)} (ok : HOk P w H h) (e : H a = some (.dT xc kvs)) : kvs.length <= sizeLine /\ (a == sysModules) = false /\
  ∃ xs,KT H kvs xs /\ (∀ as,xc = some as -> xs.map (·.2.1) = as) /\ DictE h (tupleKind (ybE P w)) a xs xs.length:=ydN ok (.inl e)
end
def DGet (H : Hp) (a : Addr) (y : V) (r : Option V) : Prop :=
 (∃ kvs k,Rd H a (.dK kvs) /\ y = kV k /\ r = valV kvs k) \/ ∃ xc kvs k b,Rd H a (.dT xc kvs) /\ y = .ref b /\ KTup H b k /\ r = valV kvs k
def DPut (H : Hp) (a : Addr) (y v : V) (H' : Hp) : Prop :=
 (∃ kvs k,H a = some (.dK kvs) /\ y = kV k /\ kvs.length < sizeLine /\ H' = upd H a (.dK (putK kvs k v))) \/
 ∃ xc kvs k b,H a = some (.dT xc kvs) /\ y = .ref b /\ KTup H b k /\ kvs.length < sizeLine /\ H' = upd H a (.dT (adX xc (kvs.any λkv=>decide (kv.1 = k)) b) (putK kvs k v))
theorem DGet.k {H : Hp} {a : Addr} {kvs : List (Key × V)} {k : Key} (e : H a = some (.dK kvs)) : DGet H a (kV k) (valV kvs k):=.inl ⟨kvs,k,.inl e,rfl,rfl⟩
theorem DGet.t {H : Hp} {a b : Addr} {kvs : List (List Key × V)} {k : List Key} {xc : Option (List Addr)} (e : H a = some (.dT xc kvs)) (eb : KTup H b k) : DGet H a (.ref b) (valV kvs k):=.inr ⟨xc,kvs,k,b,.inl e,rfl,eb,rfl⟩
theorem DPut.k {H : Hp} {a : Addr} {kvs : List (Key × V)} {k : Key} {v : V} (e : H a = some (.dK kvs)) (hl : kvs.length < sizeLine) : DPut H a (kV k) v (upd H a (.dK (putK kvs k v))):=.inl ⟨kvs,k,e,rfl,hl,rfl⟩
theorem DPut.t {H : Hp} {a b : Addr} {kvs : List (List Key × V)} {k : List Key} {v : V} (e : H a = some (.dT none kvs)) (eb : KTup H b k) (hl : kvs.length < sizeLine) :
  DPut H a (.ref b) v (upd H a (.dT none (putK kvs k v))):=.inr ⟨none,kvs,k,b,e,rfl,eb,hl,rfl⟩
section
variable {X : Cx} {pins : List (Addr × Obj)} {σ : St} {H : Hp} {s : Shared} {a : Addr} {y v : V} {u r : Value} {o : Option V} {A : Around} {E : Value -> Shared -> Prop}
theorem Inv.big (I : Inv X pins σ H s) : sysModules < s.heap.objs.size:=by
 have h : mainGlobals < s.heap.objs.size:=(I.mod.glob.keeps I.bk).lt
 exact Nat.lt_trans (by decide) h
theorem zfT {Q : Value -> Shared -> Prop} (hu : A.units + 1 < cLine) (I : Inv X pins σ H s) (g : DGet H a y (some v)) (ry : RelV y u) (h : ∀ w' s',Inv X pins σ H s' -> RelV v w' -> Q w' s') :
  wpAny (model X.prog X.w) A (getItem (.ref a) u) Q E s:=by
 rcases g with ⟨kvs,k,e,ey,l⟩ | ⟨xc,kvs,k,b,e,ey,eb,l⟩
 ·subst ey
  obtain ⟨z,hd,vs,rel,dd⟩:=ydn I.hok e
  obtain ⟨w',hw,rw'⟩:=RelO.some_of (v:=v) (o:=valueAt vs k) (by rw [l]; exact rel.val k)
  exact wpAny_getItem_of (ydY ry) dd.mapOf hw (h w' _ (I.tok _) rw')
 ·subst ey
  cases (show u = Value.ref b from ry)
  obtain ⟨z,hd,xs,rel,_,dd⟩:=ydN I.hok e
  replace dd:=dd.of
  obtain ⟨w',hw,rw'⟩:=RelO.some_of (v:=v) (o:=(atKey xs k).map (·.2)) (by rw [l]; exact rel.val k)
  obtain ⟨p,hp,hp2⟩:=Option.map_eq_some_iff.mp hw
  refine wpAny_getItem_heap (tupleKind_room_in1 hu) (ydD I.hok eb) dd hp ?_
  rw [hp2]
  exact h w' _ (I.tok _) rw'
theorem zhT {Q : Value -> Shared -> Prop} (hu : A.units + 1 < cLine) (I : Inv X pins σ H s) (g : DGet H a y o) (ry : RelV y u) (h : ∀ s',Inv X pins σ H s' -> Q (.bool (!o.isSome)) s') :
  wpAny (model X.prog X.w) A (compareOp .NotIn u (.ref a)) Q E s:=by
 rcases g with ⟨kvs,k,e,ey,l⟩ | ⟨xc,kvs,k,b,e,ey,eb,l⟩
 ·subst ey
  obtain ⟨z,hd,vs,rel,dd⟩:=ydn I.hok e
  refine wpAny_notIn_of (ydY ry) hd dd.mapOf ?_
  rw [<- (rel.val k).isSome_eq,<- l]
  exact h _ (I.tok _)
 ·subst ey
  cases (show u = Value.ref b from ry)
  obtain ⟨z,hd,xs,rel,_,dd⟩:=ydN I.hok e
  replace dd:=dd.of
  refine wpAny_notIn_heap (tupleKind_room_in1 hu) (ydD I.hok eb) hd dd ?_
  have q:=(rel.val k).isSome_eq
  rw [Option.isSome_map] at q
  rw [<- q,<- l]
  exact h _ (I.tok _)
theorem zcK {h' : Heap} {t' : Nat} {ob : HO} (I : Inv X pins σ H s) (mu : Mut (H a)) (hs : Heap.SameBut a s.heap h') (he : ∃ q,h'.get? a = some q) (new : ObjOk X.prog X.w (upd H a ob) h' a ob) :
  Inv X pins σ (upd H a ob) { s with heap:=h',toks:=t' } :=
 I.write (x:=a) (e:=a) mu (.inl rfl) (λb q hb z=>(hs.2 b hb).trans z) he new
theorem ye8 {P : Program} {w : World} {H' : Hp} {h' : Heap} {kvs : List (Key × V)} {vs : List (Key × Value)} (z : kvs.length <= sizeLine) (hd : (a == sysModules) = false) (rel : KV kvs vs) (dd : h'.DictOf (ybG P w) a vs) :
  ObjOk P w H' h' a (.dK kvs):=⟨z,hd,vs,rel,dd⟩
theorem zfU {H' : Hp} {Q : Unit -> Shared -> Prop} (hu : A.units + 1 < cLine) (I : Inv X pins σ H s) (g : DPut H a y v H') (ry : RelV y u) (rv : RelV v r) (h : ∀ s',Inv X pins σ H' s' -> Q () s') :
  wpAny (model X.prog X.w) A (setItem (.ref a) u r) Q E s:=by
 rcases g with ⟨kvs,k,e,ey,l,eH⟩ | ⟨xc,kvs,k,b,e,ey,eb,l,eH⟩
 ·subst ey eH
  obtain ⟨z,hd,vs,rel,dd⟩:=yfK I.hok e
  have hz : vs.length <= sizeLine:=by rw [<- rel.length]; exact z
  have hl : (putK kvs k v).length <= sizeLine:=by have:=zbf kvs k v; omega
  refine wpAny_setItem_pairs (hsz:=hz) (ydY ry) dd λh' dd' hs=>h _ ?_
  have he : ∃ q,h'.get? a = some q:=let ⟨q,_,_,hq,_⟩:=dd'; ⟨q,hq⟩
  exact zcK I (by rw [e]; exact True.intro) hs he (ye8 hl hd (rel.put k rv) dd')
 ·subst ey eH
  cases (show u = Value.ref b from ry)
  obtain ⟨z,hd,xs,rel,ha,dd⟩:=yhX I.hok e
  have hz : xs.length <= sizeLine:=by rw [<- Paired.length rel]; exact z
  have hl : (putK kvs k v).length <= sizeLine:=by have:=zbf kvs k v; omega
  have eo : (kvs.any λkv=>decide (kv.1 = k)) = (atKey xs k).isSome:=by rw [zbp,(rel.val k).isSome_eq,Option.isSome_map]
  refine setE (tupleKind_room_in1 hu) (ydD I.hok eb) dd hz λh' dd' hs=>h _ ?_
  obtain ⟨q,es,hq,h2,h3,h4,_,h5⟩:=dd'
  refine zcK I (by rw [e]; exact True.intro) hs ⟨q,hq⟩ ⟨hl,hd,_,(rel.put k eb rv).keeps λc ys ec=>?_,q,es,_,hq,h2,h3,h4,h5,rfl,by rw [eo]; exact ygD ha⟩
  rw [yak (yhB ec e (λz=>nomatch z))]
  exact ec
end
section
variable {X : Cx} {pins : List (Addr × Obj)} {σ : St} {H : Hp} {s : Shared} {a : Addr} {kvs : List (Key × V)} {k : Key} {u : Value} {A : Around} {E : Value -> Shared -> Prop}
theorem yhY {Q : Value -> Shared -> Prop} (I : Inv X pins σ H s) (e : Rd H a (.dK kvs)) (h : ∀ t s',Inv X pins σ H s' -> Q (.int kvs.length t) s') : wpAny (model X.prog X.w) A (call (.builtin "len") [.ref a]) Q E s:=by
 obtain ⟨z,hd,vs,rel,dd⟩:=ydn I.hok e
 refine call_len_dict hd dd (by rw [<- rel.length]; rw [sizeLine_eq] at z; omega) ?_
 rw [<- rel.length]
 exact h _ _ (I.tok _)
end
def NoSl (i : Expr) : Prop:=∀ ov iv,subscripted i false ov iv = operate [ov,iv] (getItem ov iv)
theorem zhU {prog : Program} {w : World} {A : Around} {E : Value -> Shared -> Prop} {s : Shared} {env : Env} {value slice : Expr} {pos : Pos} {T id : String} {Q : Value -> Shared -> Prop}
  (hl : typeLookup (.type T) "__getitem__" = pure (some (.builtin id))) (hs : NoSl slice)
  (h : wpAny (model prog w) A (eval value env) (λo s₁=>wpAny (model prog w) A (eval slice env) (λi s₂=>s₂.TypeIs o T /\ wpAny (model prog w) A (getItem o i) Q E s₂) E s₁) E s) :
  wpAny (model prog w) A (eval (.Subscript value slice pos) env) Q E s:=by
 refine Subscript_ (wpAny_mono h (λo s₁ h₁=>wpAny_mono h₁ (λi s₂ h₂=>?_) λ_ _ x=>x) λ_ _ x=>x)
 obtain ⟨hT,h₂⟩:=h₂
 unfold subscriptTail
 refine wpAny_bind ?_
 rw [getitemInPython_of_ne hT.not_modules]
 refine wpAny_bind (wpAny_specialOf hT hl ?_)
 have fin : wpAny (model prog w) A (subscripted slice false o i) (λr s₃=>wpAny (model prog w) A (letTemporaryGo value o r >>= λ_=>pure r) Q E s₃) E s₂:=by
  rw [hs o i]
  exact wpAny_operating (wpAny_mono h₂ (λr s₃ h₃=>wpAny_bind (wpAny_letTemporaryGo (wpAny_pure h₃))) λ_ _ x=>x)
 first
  | exact wpAny_pure (wpAny_bind fin)
  | exact wpAny_bind (wpAny_pure (wpAny_bind fin))
  | exact wpAny_bind fin
theorem zei {X : Cx} {pins : List (Addr × Obj)} {σ : St} {H : Hp} {s : Shared} {a : Addr} {y : V} {o : Option V} (I : Inv X pins σ H s) (g : DGet H a y o) : s.TypeIs (.ref a) "dict" := by
 rcases g with ⟨kvs,k,e,_,_⟩ | ⟨xc,kvs,k,b,e,_,_,_⟩
 ·obtain ⟨_,_,vs,_,dd⟩:=ydn I.hok e
  exact dd.typeIs
 ·obtain ⟨_,_,xs,_,_,dd⟩:=ydN I.hok e
  replace dd:=dd.of
  exact dd.typeIs
def yhZ (td ty : TE) : TE:=λσ H Q=>td σ H λx H1=>ty σ H1 λy H2=>∃ a v,x = .ref a /\ DGet H2 a y (some v) /\ Q v H2
def yh0 (td ty tv : TE) : TS:=λD σ H=>tv σ H λv H1=>td σ H1 λx H2=>ty σ H2 λy H3=>∃ a H4,x = .ref a /\ DPut H3 a y v H4 /\ D.nx σ H4
section
variable {X : Cx} {o i e value : Expr} {pos pos' tpos : Pos} {td ty tv : TE}
theorem zhV (hu : X.A.units + 1 < cLine) (ho : PE X o td) (hi : PE X i ty) (hs : NoSl i) : PE X (.Subscript o i pos) (yhZ td ty):=by
 intro pins s σ H Q I h
 refine zhU PySem.F.slot_dict_getitem.lookup hs (thn (ho pins s σ H _ I h) λu s1 ⟨x,H1,I1,rx,q1⟩=>thn (hi pins s1 σ H1 _ I1 q1) λiv s2 ⟨y,H2,I2,ry,a,v,ex,g,q2⟩=>?_)
 subst ex
 obtain rfl : u = Value.ref a:=rx
 exact ⟨zei I2 g,zfT hu I2 g ry λw' s3 I3 rw' => ⟨v,H2,I3,rw',q2⟩⟩
theorem zhW (hu : X.A.units + 1 < cLine) (ho : PE X o td) (hi : PE X i ty) (hv : PE X value tv) (hs : swapsWith value (some (.Subscript o i pos')) pos.line X.env = pure false) :
  PS X (.Assign [.Subscript o i pos'] value pos) (yh0 td ty tv):=by
 intro pins s σ H D I h
 refine wpAny_Assign_Subscript (thn (hv pins s σ H _ I h) λr s1 ⟨v,H1,I1,rv,q1⟩=>thn (ho pins s1 σ H1 _ I1 q1) λu s2 ⟨x,H2,I2,rx,q2⟩=>thn (hi pins s2 σ H2 _ I2 q2) λiv s3 ⟨y,H3,I3,ry,a,H4,ex,g,q3⟩=>?_) hs
 subst ex
 obtain rfl : u = Value.ref a:=rx
 exact zfU hu I3 g ry rv λs4 I4=>⟨σ,H4,I4,q3⟩
end
theorem zgS {P : Program} {w : World} {H : Hp} (h : Heap) (hb : sysModules < h.objs.size) : ObjOk P w H (h.push { cls:=.type "dict",data:=.dict #[] }) h.objs.size (.dK []) :=
 ⟨Nat.zero_le _,beq_eq_false_iff_ne.mpr (Ne.symm (Nat.ne_of_lt hb)),[],.nil,Heap.DictOf.new h⟩
theorem zgT {P : Program} {w : World} {H : Hp} {xc : Option (List Addr)} (hx : xc = none \/ xc = some []) (h : Heap) (hb : sysModules < h.objs.size) : ObjOk P w H (h.push { cls:=.type "dict",data:=.dict #[] }) h.objs.size (.dT xc []) :=
 ⟨Nat.zero_le _,beq_eq_false_iff_ne.mpr (Ne.symm (Nat.ne_of_lt hb)),[],.nil,_,#[],0,Heap.get?_push_size _ rfl,⟨rfl,rfl,rfl⟩,rfl,rfl,List.nodup_nil,rfl,λas e=>by
  rcases hx with rfl | rfl
  ·cases e
  ·injection e⟩
def ygE : TE:=λ_ H Q=>∀ p,H p = none -> Q (.ref p) (upd H p (.dT none []))
section
variable {X : Cx} {pos : Pos}
theorem zgU : PE X (.Dict [] [] pos) ygE:=λpins s σ H Q I h =>
 wpAny_Dict_empty ⟨.ref s.heap.objs.size,_,I.laid (a:=s.heap.objs.size) (o:=.dT none []) (t' := s.toks) (λ_ _ q=>Heap.get?_push_of_some _ q) (Nat.le_refl _) (zgT (.inl rfl) s.heap I.big),rfl,h _ (I.hok.fresh (Nat.le_refl _))⟩
end
def yex : List (TE × TE) -> St -> Hp -> (List (V × V) -> Hp -> Prop) -> Prop
 | [],_,H,Q=>Q [] H
 | (tk,tv) :: r,σ,H,Q=>tk σ H λx H1=>tv σ H1 λy H2=>yex r σ H2 λps H3=>Q ((x,y) :: ps) H3
abbrev VV : List (V × V) -> List (Value × Value) -> Prop:=Paired λp q=>RelV p.1 q.1 /\ RelV p.2 q.2
def PPs (X : Cx) (pos : Pos) (keys : List (Option Expr)) (values : List Expr) (trs : List (TE × TE)) : Prop :=
 ∀ (pins : List (Addr × Obj)) (s : Shared) (σ : St) (H : Hp) (Q : List (V × V) -> Hp -> Prop),Inv X pins σ H s -> yex trs σ H Q ->
  wpAny (model X.prog X.w) X.A (evalPairs (pairTrees keys values X.env pos)) (λvs s' => ∃ ps H',Inv X pins σ H' s' /\ VV ps vs /\ Q ps H') X.xe s
theorem zhX {X : Cx} {pos : Pos} : PPs X pos [] [] []:=λpins s σ H Q I h=>pairTrees_nil_walk ⟨[],H,I,.nil,h⟩
theorem zdH {X : Cx} {pos : Pos} {k v : Expr} {ks : List (Option Expr)} {vs : List Expr} {tk tv : TE} {trs : List (TE × TE)} (hk : PE X k tk) (hv : PE X v tv) (hr : PPs X pos ks vs trs) :
  PPs X pos (some k :: ks) (v :: vs) ((tk,tv) :: trs):=λpins s σ H Q I h =>
 pairTrees_cons_walk (thn (hk pins s σ H _ I h) λu s1 ⟨x,H1,I1,rx,q1⟩=>thn (hv pins s1 σ H1 _ I1 q1) λw2 s2 ⟨y,H2,I2,ry,q2⟩ =>
  thn (hr pins s2 σ H2 _ I2 q2) λws s3 ⟨ps,H3,I3,rel,q3⟩=>⟨(x,y) :: ps,H3,I3,.cons ⟨rx,ry⟩ rel,q3⟩)
def ycT (kvs more : List (Key × V)) : List (Key × V):=more.foldl (λacc kv=>putK acc kv.1 kv.2) kvs
theorem KV.merge : ∀ {more : List (Key × V)} {rs : List (Key × Value)} {kvs : List (Key × V)} {vs : List (Key × Value)},KV more rs -> KV kvs vs -> KV (ycT kvs more) (merged vs rs):=by
 intro more rs kvs vs r
 unfold KV at r
 induction r generalizing kvs vs with
 | nil=>intro q; exact q
 | @cons p q ps qs h t ih =>
  intro r0
  have e : KV (putK kvs p.1 p.2) (stored vs q.1 q.2):=by
   have:=r0.put p.1 h.2
   rw [<- h.1]; exact this
  exact ih e
theorem zbA : ∀ (more kvs : List (Key × V)),(ycT kvs more).length <= kvs.length + more.length
 | [],kvs=>by show kvs.length <= kvs.length + 0; omega
 | p :: r,kvs=>by
  have h1:=zbA r (putK kvs p.1 p.2)
  have h2:=zbf kvs p.1 p.2
  show (ycT (putK kvs p.1 p.2) r).length <= _
  rw [List.length_cons]; omega
theorem zcz {P : Program} {w : World} : ∀ {kvs : List (Key × V)} {ws : List (Value × Value)},VV (kvs.map λkv=>(kV kv.1,kv.2)) ws -> ∃ rs,Carries (ybG P w) ws rs /\ KV kvs rs
 | [],_,r=>by rw [List.map_nil] at r; cases r; exact ⟨[],True.intro,.nil⟩
 | p :: kvs,_,r=>by
  rw [List.map_cons] at r
  cases r with
  | @cons a b as bs h t =>
   obtain ⟨rs,c,q⟩:=zcz (P:=P) (w:=w) t
   obtain ⟨b1,b2⟩:=b
   exact ⟨(p.1,b2) :: rs,⟨ydY h.1,rfl,c⟩,.cons ⟨rfl,h.2⟩ q⟩
def yh1 (trs : List (TE × TE)) : TE:=λσ H Q=>∀ p,H p = none -> yex trs σ (upd H p (.dK [])) λps H2=>H2 p = some (.dK []) /\ ∃ kvs : List (Key × V),ps = kvs.map (λkv=>(kV kv.1,kv.2)) /\ kvs.length <= 15 /\ Q (.ref p) (upd H2 p (.dK (ycT [] kvs)))
theorem zhY {X : Cx} {pos : Pos} {keys : List (Option Expr)} {values : List Expr} {trs : List (TE × TE)} (h : PPs X pos keys values trs) (hall : keys.all (·.isSome) = true) (hl : keys.length = values.length) (h0 : keys ≠ [])
  (h15 : keys.length <= 15) : PE X (.Dict keys values pos) (yh1 trs):=by
 intro pins s σ H Q I q
 have hn:=I.hok.fresh (Nat.le_refl s.heap.objs.size)
 have I1:=I.laid (a:=s.heap.objs.size) (o:=.dK []) (h' := s.heap.push { cls:=.type "dict",data:=.dict #[] }) (t' := s.toks) (λ_ _ q=>Heap.get?_push_of_some _ q) (Nat.le_refl _) (zgS s.heap I.big)
 refine wpAny_Dict_walk (knd:=ybG X.prog X.w) hall hl h0 h15 (thn (h pins _ σ _ _ I1 (q _ hn)) λws s2 ⟨ps,H2,I2,rel,e,kvs,ep,lk,q2⟩=>?_)
 subst ep
 obtain ⟨rs,c,rk⟩:=zcz (P:=X.prog) (w:=X.w) rel
 obtain ⟨z,hd,vs0,r0,dd⟩:=yfK I2.hok e
 cases r0
 refine ⟨rs,c,dd,λh' dd' hs=>⟨.ref s.heap.objs.size,_,?_,rfl,q2⟩⟩
 have hz : (ycT [] kvs).length <= sizeLine:=by
  have h1:=zbA kvs []
  rw [List.length_nil] at h1
  rw [sizeLine_eq]; omega
 have he : ∃ q,h'.get? s.heap.objs.size = some q:=let ⟨q,_,_,hq,_⟩:=dd'; ⟨q,hq⟩
 exact zcK I2 (by rw [e]; exact True.intro) hs he (ye8 hz hd (rk.merge .nil) dd')
structure M2 (X : Cx) (o : Expr) (m : Str) (apos : Pos) (e f : Expr) (cpos : Pos) : Prop where
 base : attributeBase o m X.env (eval o X.env) = eval o X.env
 few : ((backTo cpos (starEach [e,f] X.env)).all (λx=>!x.1) && (backToKw cpos (keywordEach [] X.env)).all (λx=>x.1.isSome)
  && decide (([e,f] : List Expr).length + ([] : List Keyword).length + (if ([] : List Keyword).isEmpty then 0 else 1) < 30)) = true
 line : (apos.endLine == cpos.line) = true
 trees : backTo cpos (starEach [e,f] X.env) = [(false,eval e X.env),(false,eval f X.env)]
def IsD (H : Hp) (a : Addr) : Prop:=(∃ kvs,Rd H a (.dK kvs)) \/ ∃ xc kvs,Rd H a (.dT xc kvs)
theorem ygF {X : Cx} {pins : List (Addr × Obj)} {σ : St} {H : Hp} {s : Shared} {a : Addr} (I : Inv X pins σ H s) (d : IsD H a) :
  s.TypeIs (.ref a) "dict" /\ (∀ b,Value.ref a = .ref b -> ∃ ob,s.heap.get? b = some ob /\ ob.dict = none) /\ (a == sysModules) = false:=by
 rcases d with ⟨kvs,e⟩ | ⟨xc,kvs,e⟩
 ·obtain ⟨_,hd,vs,_,dd⟩:=ydn I.hok e
  refine ⟨dd.typeIs,λb q=>?_,hd⟩
  cases q
  obtain ⟨ob,_,_,h1,h2,_⟩:=dd
  exact ⟨ob,h1,h2.2.1⟩
 ·obtain ⟨_,hd,xs,_,_,dd⟩:=ydN I.hok e
  replace dd:=dd.of
  refine ⟨dd.typeIs,λb q=>?_,hd⟩
  cases q
  obtain ⟨ob,_,_,h1,h2,_⟩:=dd
  exact ⟨ob,h1,h2.2.1⟩
section
variable {X : Cx} {pins : List (Addr × Obj)} {σ : St} {H : Hp} {s : Shared} {a : Addr} {y d : V} {u r : Value} {o : Option V} {A : Around} {E : Value -> Shared -> Prop}
theorem ygG {Q : Value -> Shared -> Prop} (hu : A.units + 1 < cLine) (I : Inv X pins σ H s) (g : DGet H a y o) (ry : RelV y u) (rd : RelV d r) (h : ∀ w' s',Inv X pins σ H s' -> RelV (o.getD d) w' -> Q w' s') :
  wpAny (model X.prog X.w) A (call (.builtin "dict.get") [.ref a,u,r]) Q E s:=by
 rcases g with ⟨kvs,k,e,ey,l⟩ | ⟨xc,kvs,k,b,e,ey,eb,l⟩
 ·subst ey
  obtain ⟨z,hd,vs,rel,dd⟩:=ydn I.hok e
  refine call_meetsIn PySem.F.slot_dict_get dd.typeIs PySem.F.entry_dict_get (PySem.F.args_dict_get_3 _ _ _) (meets_dict_get_default (ybG X.prog X.w) a (ydY ry) hd r) ⟨_,dd.mapOf,h _ _ (I.tok _) ?_⟩
  rw [l]
  exact (rel.val k).getD rd
 ·subst ey
  cases (show u = Value.ref b from ry)
  obtain ⟨z,hd,xs,rel,_,dd⟩:=ydN I.hok e
  replace dd:=dd.of
  refine call_meetsIn PySem.F.slot_dict_get dd.typeIs PySem.F.entry_dict_get (PySem.F.args_dict_get_3 _ _ _) (meetsH_dict_get_default (tupleKind (ybE X.prog X.w)) a b hd r) ⟨tupleKind_room_in1 hu,k,xs,ydD I.hok eb,dd,h _ _ (I.tok _) ?_⟩
  rw [l]
  exact (rel.val k).getD rd
end
def ygH (td ty tx : TE) : TE:=λσ H Q=>td σ H λx H1=>∃ a,x = .ref a /\ IsD H1 a /\ ty σ H1 λy H2=>tx σ H2 λz H3=>∃ o,DGet H3 a y o /\ Q (o.getD z) H3
section
variable {X : Cx} {o e f : Expr} {apos cpos : Pos} {td ty tx : TE}
theorem zgV (hu : X.A.units + 1 < cLine) (ho : PE X o td) (he : PE X e ty) (hf : PE X f tx) (m : M2 X o "get" apos e f cpos) : PE X (.Call (.Attribute o "get" apos) [e,f] [] cpos) (ygH td ty tx):=by
 intro pins s σ H Q I h
 refine wpAny_Call_method m.base m.few m.line PySem.F.plainAttrs_dict PySem.F.slot_dict_get PySem.F.type_dict_get (thn (ho pins s σ H _ I h) λu s1 ⟨x,H1,I1,rx,a,ex,d,q1⟩=>?_)
 subst ex
 obtain rfl : u = Value.ref a:=rx
 obtain ⟨t1,t2,_⟩:=ygF I1 d
 refine ⟨t1,t2,?_⟩
 rw [m.trees]
 refine Calls.callWith_builtin rfl (Calls.evalArgs_plain (Calls.spliced_cons (thn (he pins s1 σ H1 _ I1 q1) λiv s2 ⟨y,H2,I2,ry,q2⟩ =>
  Calls.spliced_cons (thn (hf pins s2 σ H2 _ I2 q2) λfv s3 ⟨z,H3,I3,rz,ov,g,q3⟩=>Calls.spliced_nil ?_))))
 exact ygG hu I3 g ry rz λw' s4 I4 rw' => ⟨_,H3,I4,rw',q3⟩
end
section
variable {X : Cx} {pins : List (Addr × Obj)} {σ : St} {H : Hp} {s : Shared} {a : Addr} {kvs : List (Key × V)} {A : Around} {E : Value -> Shared -> Prop}
end
section
variable {X : Cx} {pins : List (Addr × Obj)} {σ : St} {H : Hp} {s : Shared} {a : Addr} {y : V} {u : Value} {A : Around} {E : Value -> Shared -> Prop}
end
end L2
namespace Att
open PySem PySem.W PySem.Calls PyProof.Rows
theorem zcA {P : Params} {h : Heap} : ∀ (ns : List Int) (vs : List Value),WellAll P h vs (ns.map WData.int) -> IntsAre vs ns:=by
 intro ns
 induction ns with
 | nil =>
  intro vs w
  rw [List.map_nil] at w
  cases w
  exact .nil
 | cons n ns ih =>
  intro vs w
  rw [List.map_cons] at w
  cases w with
  | cons a b =>
   cases a
   exact .cons _ _ (ih _ b)
theorem zfV {l : OpenLaw} {n : Nat} (hn : l.most = some n) {P : Params} {h : Heap} {args : List WData} {vals : List Value}
  (hpre : l.row.toRowW.claim.pre args = true) (hwl : WellAll P h vals args) :
  ∃ a vs ns,vals = [Value.ref a] /\ args = [WData.list (ns.map WData.int)] /\ h.get? a = some { cls:=.type "list",data:=.seq vs.toArray } /\ IntsAre vs ns /\ ns.length <= n:=by
 have hsh : WShape.hasAll [] args [.list .int] = true:=(pre_splitW hpre).1
 have hc : l.pre.holds [] { args:=args } = true:=(pre_splitW hpre).2
 obtain ⟨d,r,rfl,h1,h2⟩:=hasAllW_cons hsh
 obtain rfl:=hasAllW_nil h2
 obtain ⟨xs,rfl,h3⟩:=hasW_list h1
 obtain ⟨ns,rfl⟩:=items_int h3
 have hlen : ns.length <= n:=by
  unfold OpenLaw.pre at hc
  have h4 : (WTm.not (.lt (.lit (.int (n : Int))) (.len (.arg 0)))).holds [] { args:=[.list (ns.map .int)] } = true:=by
   have h4:=(holds_andW hc).1
   rw [hn] at h4
   exact h4
  have h5:=condW_of h4 (w_not (w_lt w_lit (w_len_list (w_arg rfl))))
  rw [List.length_map] at h5
  refine Nat.le_of_not_lt λq=>?_
  have q' : (n : Int) < ((ns.length : Nat) : Int):=by omega
  first
   | (rw [decide_eq_true q'] at h5; exact absurd h5 (by decide))
   | (simp at h5; omega)
 cases hwl with
 | cons w1 w2 =>
  cases w2
  cases w1 with
  | list ho hall=>exact ⟨_,_,ns,rfl,rfl,ho,zcA ns _ hall,hlen⟩
theorem zfW (l : OpenLaw) (args : List WData) : l.row.toRowW.claim.post args (.bool true) args = true :=
 postW_of (r:=l.row.toRowW) (X:=(true == true))
  (show WShape.has [] (.bool true) .bool = true by first | rfl | decide | simp [WShape.has,WShape.arms,WShape.armsAll])
  (show (WTm.eq .res (.lit (.bool true))).value [] { args:=args,res:=some (.bool true),after:=args } = some (.bool (true == true)) from w_eq_bool (w_res rfl) w_lit) rfl
theorem attach_call {l : OpenLaw} {n : Nat} {q : Program} {loose : List Str} {XP : (Str -> Option Value) -> Heap -> Prop} {YP : World -> Heap -> Prop} {d : DefRec}
  (hn : l.most = some n) (hdf : d.params.defaults = [])
  (call : ∀ (w : World) (s₀ s₁ : Shared) (mg mb : Str -> Option Value) (fa : Addr) (o : Obj) (pm cd doc : Value) (a : Addr) (vs : List Value) (ns : List Int),
   Ground q loose [] XP w s₀ mg mb s₁.heap -> YP w s₁.heap ->
   s₁.heap.get? fa = some o -> o.data = .func (docDef d.name d.params d.body d.scope pm cd doc) -> s₁.heap.CodeRec cd d.name -> mg d.name = some (.ref fa) ->
   s₁.heap.get? a = some { cls:=.type "list",data:=.seq vs.toArray } -> IntsAre vs ns -> ns.length <= n -> s₁.gens = #[] ->
   codeAny (model l.prog w) callerA (.call (.ref fa) ⟨[.ref a],[]⟩) (λr s' => r = .ok (.ret (.bool true)) /\ OldK s₁.heap s'.heap /\ s'.os = s₁.os /\ AllBare s'.gens) s₁) :
  WalkO q loose XP YP l.row.toRowW d [] (λf vs=>PySem.call f vs):=by
 intro w s₀ s₁ mg mb G Y fa o pm cd doc dV kV ho hd hcd hD hmg hg args vals as hpre hlay hrd hwl hlo
 obtain rfl : dV = .none:=Dflts.none hD hdf
 obtain rfl : kV = .none:=Dflts.noKw hD
 obtain ⟨a,vs,ns,rfl,rfl,hobj,hints,hlen⟩:=zfV hn hpre hwl
 refine enter_call (codeAny_mono (call w s₀ s₁ mg mb fa o pm cd doc a vs ns G Y ho (fd_plain hd) hcd hmg hobj hints hlen hg) λr s' hq=>?_)
 obtain ⟨rfl,h2,h3,h4⟩:=hq
 exact ⟨.inl ⟨.bool true,.bool true,[],rfl,λ_=>rfl,.bool true,zfW l _,λ_=>⟨List.Pairwise.nil,λ_ hm=>(nomatch hm)⟩⟩,h2,h3,h4⟩
section
variable {prog : Program} {w : World} {A : Around} {E : Value -> Shared -> Prop} {s : Shared} {K : Frag}
end
end Att
namespace L2
open PySem PySem.Spec PyProof.Rows
theorem zda : ∀ {vs : List Value} {ns : List Int},IntsAre vs ns -> Vals (ns.map V.int) vs
 | _,_,.nil=>.nil
 | _,_,.cons n t h=>.cons ⟨t,rfl⟩ (zda h)
def Only (H : Hp) : Prop:=∀ b,H b = none \/ ∃ o xs,H b = some (.frz o (.lst xs))
theorem zgW {P : Program} {w : World} {K : PySem.W.Frag} {mg mb : Str -> Option Value} {CX : CXT} {k : Nat} {fa a : Addr} {fd : FuncData} {x : Str} {sp : Sp} {s₁ : Shared} {vs : List Value} {ns : List Int}
  (KX : K.In s₁.heap) (hns : s₁.heap.Ns mainGlobals mg) (hb : s₁.heap.Ns builtinsNs mb) (hbb : ∀ x : Str,x ≠ "__name__" -> mb x = bootBuiltins x) (hlim : s₁.heap.NoLimit) (hg : s₁.gens = #[])
  (ha : s₁.heap.get? a = some { cls:=.type "list",data:=.seq vs.toArray }) (hi : IntsAre vs ns) (hl : ns.length <= sizeLine) (hr : Room k callerA)
  (F : ∀ base : Heap,K.In base -> base.Ns mainGlobals mg -> FnOk P w K mg base CX k fa fd [x] sp) (hbind : ∀ (s : Shared) (u : Value),BindsTo s fd ⟨[u],[]⟩ [(x,u)])
  (hsp : ∀ H : Hp,Only H -> SqL K H a (ns.map V.int) -> sp [.ref a] H (λv _=>v = .bl true) λ_ _ _=>False)
  (hCX : ∀ H e s',CX [] H s₁ (λ_ _ _=>False) e s' -> False) :
  codeAny (model P w) callerA (.call (.ref fa) ⟨[.ref a],[]⟩) (λr s' => r = .ok (.ret (.bool true)) /\ OldK s₁.heap s'.heap /\ s'.os = s₁.os /\ AllBare s'.gens) s₁:=by
 have rv:=zda hi
 have lenV:=hi.length
 have core : ∀ H : Hp,Only H -> SqL K H a (ns.map V.int) -> HOk P w H s₁.heap -> (∀ b,H b ≠ none -> b = a) -> (H a ≠ none -> K.lookup a = none) ->
   codeAny (model P w) callerA (.call (.ref fa) ⟨[.ref a],[]⟩) (λr s' => r = .ok (.ret (.bool true)) /\ OldK s₁.heap s'.heap /\ s'.os = s₁.os /\ AllBare s'.gens) s₁:=by
  intro H hO hS hok hA hK
  have base_of : ∀ {b : Addr} {o : Obj},s₁.heap.get? b = some o -> H b = none -> (hidT s₁.heap H).get? b = some o:=λe n=>zgF e n
  have noA : ∀ {b : Addr} {o : Obj} {es : Array DictEntry} {ep : Nat},s₁.heap.get? b = some o -> o.data = .dict es ep -> H b = none:=λ{b o es ep} e d=>by
   cases q : H b with
   | none=>rfl
   | some u =>
    have e' : b = a:=hA b (by rw [q]; simp)
    subst e'
    rw [ha] at e; cases e
    have d' : Data.seq vs.toArray _ = Data.dict es ep:=d
    cases d'
  have nsK : ∀ {b : Addr} {m : Str -> Option Value},s₁.heap.Ns b m -> (hidT s₁.heap H).Ns b m:=λ{b m} ⟨o,es,ep,e,d,r⟩=>⟨o,es,ep,base_of e (noA e d),d,r⟩
  have hKb : K.In (hidT s₁.heap H):=λb o e=>base_of (KX b o e) (by
   cases q : H b with
   | none=>rfl
   | some u =>
    have e' : b = a:=hA b (by rw [q]; simp)
    subst e'
    rw [hK (by rw [q]; simp)] at e; cases e)
  have hM : Mod K mg (hidT s₁.heap H):=⟨hKb,nsK hns,⟨mb,nsK hb,hbb⟩,let ⟨mc,h1,h2⟩:=hlim; ⟨mc,nsK h1,h2⟩⟩
  have e0 : Env0 P w K mg (hidT s₁.heap H) callerA [] s₁ H:=⟨rfl,hM,λb o e=>zhD e,Nat.le_of_eq (zfG _ _),trivial,λb hb=>absurd (show b ∈ ([] : List Addr) from hb) (by simp),hok,.of_eq hg⟩
  refine codeAny_mono ((F _ hKb (nsK hns)).run callerA [] s₁ H ⟨[.ref a],[]⟩ [.ref a] [.ref a] _ _ hr e0 (hbind s₁ (.ref a)) (.cons rfl .nil) (hsp H hO hS)) λr s' h=>?_
  cases r with
  | error e=>exact (hCX H e s' h).elim
  | ok fl =>
   cases fl with
   | next=>exact False.elim h
   | brk=>exact False.elim h
   | cont=>exact False.elim h
   | ret u =>
    obtain ⟨v,H',os,bare,un,hok',r',q⟩:=h
    have q' : v = .bl true:=q
    subst q'
    obtain rfl : u = Value.bool true:=r'
    refine ⟨rfl,OldK.of_keep λb o e=>?_,os,bare⟩
    cases q : H b with
    | none=>exact un.keep b o e q (by intro z; exact absurd (show b ∈ ([] : List Addr) from z) (by simp)) (by simp)
    | some u =>
     rcases hO b with z | ⟨ob,xs,z⟩
     ·rw [q] at z; cases z
     ·have z2:=un.frzs b ob _ z
      obtain ⟨e1,_⟩:=hok b _ z
      obtain ⟨e2,_⟩:=hok' b _ z2
      rw [e] at e1; cases e1
      exact e2
 cases hk : K.lookup a with
 | some o =>
  have e:=KX a o hk
  rw [ha] at e
  cases e
  refine core (λ_=>none) (λ_=>.inl rfl) (.inr ⟨_,vs.toArray,_,hk,rfl,rfl,rfl,by rw [List.size_toArray,lenV]; exact hl,by simpa using rv⟩) (λb u z=>by have z' : (none : Option HO) = some u:=z; cases z') (λb z=>absurd rfl z) λz=>absurd rfl z
 | none =>
  refine core (λb=>if b = a then some (.frz { cls:=.type "list",data:=.seq vs.toArray } (.lst (ns.map V.int))) else none) (λb=>?_) (.inl (.inr ⟨{ cls:=.type "list",data:=.seq vs.toArray },if_pos rfl⟩)) (λb u z=>?_) (λb z=>?_) λ_=>hk
  ·by_cases hb : b = a
   ·exact .inr ⟨_,_,if_pos hb⟩
   ·exact .inl (if_neg hb)
  ·by_cases hb : b = a
   ·have z' := (if_pos hb).symm.trans z
    cases z'
    subst hb
    exact ⟨ha,by rw [List.length_map]; exact hl,vs,_,rv,ha⟩
   ·have z' := (if_neg hb).symm.trans z
    cases z'
  ·by_cases hb : b = a
   ·exact hb
   ·exact absurd (if_neg hb) z
end L2
namespace L2
open PySem PySem.Spec PyProof.Rows
theorem walk_of {l : PySem.W.OpenLaw} {n k : Nat} {q : Program} {loose : List Str} {XP : (Str -> Option Value) -> Heap -> Prop} {YP : World -> Heap -> Prop} {d : DefRec} {K : Params -> PySem.W.Frag} {CX : World -> CXT} {sp : World -> Sp} {x : Str}
  (hn : l.most = some n) (hn2 : n <= sizeLine) (hdf : d.params.defaults = []) (hr : Room k callerA)
  (hY : ∀ (w : World) (h : Heap),YP w h -> (K w.params).In h)
  (F : ∀ (w : World) (mg : Str -> Option Value) (fa : Addr) (h : Heap),(K w.params).In h -> h.Ns mainGlobals mg -> mg d.name = some (.ref fa) ->
   ∃ fd : FuncData,(∀ (s : Shared) (u : Value),BindsTo s fd ⟨[u],[]⟩ [(x,u)]) /\
    ∀ base : Heap,(K w.params).In base -> base.Ns mainGlobals mg -> FnOk l.prog w (K w.params) mg base (CX w) k fa fd [x] (sp w))
  (hsp : ∀ (w : World) (H : Hp) (a : Addr) (ns : List Int),ns.length <= n -> Only H -> SqL (K w.params) H a (ns.map V.int) -> sp w [.ref a] H (λv _=>v = .bl true) λ_ _ _=>False)
  (hCX : ∀ (w : World) (H : Hp) (s : Shared) (e : Value) (s' : Shared),CX w [] H s (λ_ _ _=>False) e s' -> False) :
  PySem.W.WalkO q loose XP YP l.row.toRowW d [] (λf vs=>PySem.call f vs):=by
 refine Att.attach_call hn hdf λw s₀ s₁ mg mb fa o pm cd doc a vs ns G Y ho hd hcd hmg hobj hints hlen hg=>?_
 have KX:=hY w _ Y
 obtain ⟨fd,hb,hF⟩:=F w mg fa _ KX G.T.g hmg
 exact zgW KX G.T.g G.T.b G.T.builtins G.T.nolimit hg hobj hints (Nat.le_trans hlen hn2) hr hF hb (λH hO hS=>hsp w H a ns hlen hO hS) λH e s' => hCX w H s₁ e s'
end L2
namespace L2
open PySem PySem.Spec PyProof.Rows
def ybz (s : Stmt) (j : Nat) : Stmt:=match s with
 | .ClassDef _ _ _ body _ _ _ _ _ _ _=>body.getD j (.Pass ⟨0,0,0,0⟩)
 | _=>.Pass ⟨0,0,0,0⟩
def yce (s : Stmt) : Arguments:=match s with
 | .FunctionDef _ a _ _ _ _ _ _ _ _=>a
 | _=>{ posonlyargs:=[],args:=[],vararg:=none,kwonlyargs:=[],kw_defaults:=[],kwarg:=none,defaults:=[] }
def ybd (s : Stmt) : List Stmt:=match s with
 | .FunctionDef _ _ b _ _ _ _ _ _ _=>b
 | _=>[]
def yae (s : Stmt) : Scope:=match s with
 | .FunctionDef _ _ _ _ _ _ sc _ _ _=>sc
 | _=>{ kind:=.function,names:=[],isGenerator:=false,isCoroutine:=false }
abbrev CX0 : CXT:=λ_ _ _ _ _ _=>False
abbrev E0 : XK:=λ_ _ _=>False
structure Fun (K : PySem.W.Frag) (x qual : Str) (st : Stmt) (f : Addr) (fd : FuncData) : Prop where
 ex : ∃ (oc : Value) (od : Option Addr) (kV doc pm : Value) (an : Option Addr) (cdv ct : Value) (osl : Array (Option Value)),
  fd = PySem.W.fnOf x qual (yce st) (ybd st) (yae st) .none kV doc pm an cdv ct /\ K.lookup f = some ⟨oc,od,.func fd,osl⟩ /\ PySem.W.codeIn K cdv qual = true
 kp : PySem.W.keepIn K (.ref f) = true
section
variable {P : Program} {w : World} {K : PySem.W.Frag} {mg : Str -> Option Value} {base : Heap}
theorem Fun.binds {x qual : Str} {st : Stmt} {f : Addr} {fd : FuncData} {ps : List Str} (F : Fun K x qual st f fd)
  (h : ∀ (kV doc pm : Value) (an : Option Addr) (cdv ct : Value) (us : List Value),us.length = ps.length -> bindArgs (PySem.W.fnOf x qual (yce st) (ybd st) (yae st) .none kV doc pm an cdv ct) ⟨us,[]⟩ = pure (ps.zip us)) : Binds K fd ps []:=by
 obtain ⟨oc,od,kV,doc,pm,an,cdv,ct,osl,rfl,lk,hcd⟩:=F.ex
 exact .all (h kV doc pm an cdv ct)
theorem yey {x qual : Str} {st : Stmt} {f : Addr} {oc : Value} {od an : Option Addr} {osl : Array (Option Value)} {kV doc pm cdv ct : Value} (l : K.lookup f = some ⟨oc,od,.func (PySem.W.fnOf x qual (yce st) (ybd st) (yae st) .none kV doc pm an cdv ct),osl⟩)
  (c : PySem.W.codeIn K cdv qual = true) (k : PySem.W.keepIn K (.ref f) = true) : Fun K x qual st f (PySem.W.fnOf x qual (yce st) (ybd st) (yae st) .none kV doc pm an cdv ct):=⟨⟨oc,od,kV,doc,pm,an,cdv,ct,osl,rfl,l,c⟩,k⟩
end
section
variable {X : Cx}
theorem pv (i : Nat) {x : Str} {pos : Pos} (hN : X.N[i]? = some x:=by rfl) (hv : Vis X.env.scope x:=by first | exact Or.inl rfl | exact Or.inr (Or.inl rfl) | exact Or.inr (Or.inr rfl)) (hd : (x == ("__debug__" : Str)) = false:=by decide)
  (hcd : (x == ("__classdict__" : Str)) = false:=by decide) : PE X (.Name x pos) (tVar i):=ygc hN hv hd hcd
theorem zfX : CallR X (.builtin "len") (λxs H Q=>∃ a kvs,xs = [V.ref a] /\ H a = some (.dK kvs) /\ Q (.int kvs.length) H):=by
 intro pins s σ H xs us Q I r h
 obtain ⟨a,kvs,rfl,ha,q⟩:=h
 obtain ⟨u,rfl,ru⟩:=ybJ r
 cases ru
 exact yhY I (.inl ha) λt s' I' => ⟨.int kvs.length,H,I',⟨t,rfl⟩,q⟩
end
section
variable {κ : Type} [DecidableEq κ]
end
end L2
set_option maxHeartbeats 4000000
namespace L2
open PySem PySem.Spec PyProof.Rows
section
variable {X : Cx} {pins : List (Addr × Obj)} {σ : St} {H : Hp} {s : Shared} {h' : Heap}
theorem Inv.turnedL {t' : Nat} {fp : List Addr} (I : Inv X pins σ H s) (k : ∀ b o,b ∉ fp -> s.heap.get? b = some o -> h'.get? b = some o) (hf : ∀ b ∈ fp,FpOk X pins H b) :
  Inv X pins σ H { s with heap:=h',toks:=t' }:=by
 have nit : ∀ b u,H b = some u -> b ∉ fp:=λb u e z=>by
  have q:=(hf b z).1
  rw [q] at e
  cases e
 refine I.step (g' := s.gens) (d' := s.drawn) (ch:=fp) (λb hb=>?_) (λb o _ _ hc e _=>k b o hc e) (λb o _ _ hc e _=>⟨o.slots,k b o hc e⟩) (λ_ _ _ _ n=>n)
  (λb o hc e=>⟨o,k b o hc e⟩) (λ_ _ e=>e) (λ_ _ _ e=>e) (λb ps e=>⟨#[],by rw [e]; simp⟩) (λm hm=>?_) (λb u e=>?_) I.bare
 ·obtain ⟨_,f1,_,f3,f4,f5⟩:=hf b hb
  exact ⟨f3,f1,f4,f5⟩
 ·obtain ⟨o,es,ep,ho,r⟩:=hm
  exact ⟨o,es,ep,k _ o (λz=>(hf _ z).2.1 rfl) ho,r⟩
 ·refine (I.hok b u e).stay (λc v hc q=>k c v ?_ q) (λ_ q=>q) λ_ _ q=>q
  rcases hc with z | z
  ·rw [z]; exact nit b u e
  ·exact nit c _ z
theorem Inv.adopt {T : Addr} {ob : HO} (I : Inv X pins σ H s) (hn : H T = none) (hT : X.s₀.heap.objs.size <= T) (hL : T ≠ X.env.locals) (hc : ∀ x c,X.env.cells.lookup x = some c -> c ≠ T)
  (hp : ∀ p ∈ X.pn++pins,p.1 ≠ T) (new : ObjOk X.prog X.w (upd H T ob) s.heap T ob) : Inv X pins σ (upd H T ob) s:=by
 have hne : ∀ b u,H b = some u -> b ≠ T:=λb u e=>zag e hn
 refine I.step (h' := s.heap) (g' := s.gens) (d' := s.drawn) (t' := s.toks) (ch:=[T]) (λb hb=>?_) (λb o _ _ _ e _=>e) (λb o _ _ _ e _=>⟨o.slots,e⟩) (λb o hb e n=>?_) (λb o _ e=>⟨o,e⟩)
  (λb xs e=>by rw [yak (hne b _ e)]; exact e) (λb o u e=>by rw [yak (hne b _ e)]; exact e) (λb ps e=>⟨#[],by rw [yak (hne b _ e),e]; simp⟩) (λm hm=>hm) (λb u e=>?_) I.bare
 ·have e : b = T:=by simpa using hb
  subst e
  exact ⟨.inr hT,hL,hc,hp⟩
 ·rw [yak (λz=>hb (by simp [z]))]; exact n
 ·by_cases hb : b = T
  ·subst hb; rw [zac] at e; cases e; exact new
  ·rw [yak hb] at e
   exact (I.hok b u e).stay (λc v _ q=>q) (λc q=>by rw [yak (hne c _ q)]; exact q) λc xs q=>by rw [yak (hne c _ q)]; exact q
end
def Ite (K : PySem.W.Frag) (a : Addr) : It :=
 ⟨λi H=>∃ xs x,SqL K H a xs /\ xs[i]? = some x,λi H x H' => ∃ (T : Addr) (y : V),x = .ref T /\ H T = none /\ H' = upd H T (.tup [.int i,y]) /\ ∀ xs,SqL K H a xs -> xs[i]? = some y,λi H=>∃ xs,SqL K H a xs /\ xs.length <= i⟩
theorem zfY {P : Program} {w : World} {K : PySem.W.Frag} {es : List Expr} {k : Nat} {tp : Pos} (a it e : Addr) (hei : e ≠ it) :
  Turn P w K (.Tuple es k tp) (Ite K a) [e,it] e (λi h=>(∃ old,IsEnum h e it i old) /\ h.IsListIter it a i) where
 mem:=by simp
 obj:=λi h st b hb=>by
  obtain ⟨⟨old,he⟩,o,ho,hc,hd⟩:=st
  have hb' : b = e \/ b = it:=by simpa using hb
  rcases hb' with rfl | rfl
  ·exact ⟨_,he,λv z=>by
    have z' : Data.fields _ = Data.cell v:=z
    cases z'⟩
  ·exact ⟨o,ho,λv z=>by rw [hd] at z; cases z⟩
 keep:=λi h h' st k=>by
  obtain ⟨⟨old,he⟩,hit⟩:=st
  exact ⟨⟨old,k e (by simp) _ he⟩,hit.at λo q=>k it (by simp) o q⟩
 item:=by
  intro X hP hw hK hc i pins s σ H E I hf st hg
  subst hP hw hK
  obtain ⟨xs,x,hq,hx⟩:=hg
  obtain ⟨its,rv,p,hz⟩:=I.list hq
  obtain ⟨u,hu,ru⟩:=rv.get hx
  obtain ⟨⟨old,he⟩,hit⟩:=st
  refine wpAny_pyNext_enum_item he hit p.isList (x:=u) (by simpa using hu) hei λh1 ho hit1 hT hsz hk=>?_
  refine ⟨.ref s.heap.objs.size,rfl,wpAny_letOwnedTupleGo_enum ho λh2 he2 hs2=>?_⟩
  replace hs2 : Heap.SameBut e h1 h2:=hs2
  have helt : e < s.heap.objs.size:=Heap.lt_size he
  have I1 : Inv X pins σ H { s with heap:=h2,toks:=s.toks + 1 }:=I.turnedL (fp:=[e,it]) (λb o hb q=>by
   have n1 : b ≠ e:=λz=>hb (by simp [z])
   have n2 : b ≠ it:=λz=>hb (by simp [z])
   exact (hs2.2 b n1).trans (hk b o n1 n2 q)) hf
  have hT2 : h2.get? s.heap.objs.size = some { cls:=.type "tuple",data:=.seq #[.int i s.toks,u] }:=(hs2.2 _ (Nat.ne_of_gt helt)).trans hT
  have fp:=I.fpOk (H' := H) (Nat.le_refl s.heap.objs.size) (I.hok.fresh (Nat.le_refl _))
  obtain ⟨f0,f1,f2,f3,f4,f5⟩:=fp
  have I2 : Inv X pins σ (upd H s.heap.objs.size (.tup [.int i,x])) { s with heap:=h2,toks:=s.toks + 1 } :=
   I1.adopt (T:=s.heap.objs.size) f0 (I.sz) f1 f4 f5 ⟨by show 2 <= sizeLine; decide,[.int i s.toks,u],.cons ⟨_,rfl⟩ (.cons ru .nil),⟨_,hT2,rfl,_,rfl⟩⟩
  refine ⟨.ref s.heap.objs.size,_,I2,rfl,⟨s.heap.objs.size,x,rfl,f0,rfl,λys hy=>by rw [I.list_inj hy hq]; exact hx⟩,⟨⟨u,by simpa using he2⟩,hit1.extBut hs2.extBut (Ne.symm hei)⟩,λb hb=>?_⟩
  obtain ⟨g0,_⟩:=hf b hb
  obtain ⟨o,hob,_⟩ : ∃ o,s.heap.get? b = some o /\ True:=by
   have hb' : b = e \/ b = it:=by simpa using hb
   rcases hb' with rfl | rfl
   ·exact ⟨_,he,trivial⟩
   ·obtain ⟨o,q,_⟩:=hit
    exact ⟨o,q,trivial⟩
  rw [yak (Nat.ne_of_lt (Heap.lt_size hob))]
  exact g0
 done:=by
  intro X hP hw hK hc i pins s σ H E I hf st hg
  subst hP hw hK
  obtain ⟨xs,hq,hx⟩:=hg
  obtain ⟨its,rv,p,hz⟩:=I.list hq
  obtain ⟨⟨old,he⟩,hit⟩:=st
  have hl:=rv.length
  exact wpAny_pyNext_enum_end (I.ok.hd hc) he hit p.isList (by simp; omega) λh' eb=>⟨rfl,I.turnedL (fp:=[e,it]) (t' := s.toks) (λb o hb q=>eb b o (λz=>hb (by simp [z])) q) hf⟩
 self:=λ_ _ _ _ _ st h=>by
  obtain ⟨⟨old,he⟩,_⟩:=st
  exact wpAny_pyIter_enum he h
section
variable {X : Cx}
def iEnum (K : PySem.W.Frag) (ta : TA) : TI:=λσ H R=>ta σ H λvs H1=>∃ a,vs = [.ref a] /\ (∃ xs,SqL K H1 a xs) /\ R (Ite K a) H1
theorem zhZ {l : Expr} {ta : TA} {p pos tp : Pos} {es : List Expr} {k : Nat} (hg : Gl X "enumerate") (hm : X.mg "enumerate" = none) (ha : PA X [l] ta) (hs : starEach [l] X.env = [(false,eval l X.env)]:=by rfl) :
  PI X (.Tuple es k tp) (.Call (.Name "enumerate" p) [l] [] pos) (iEnum X.K ta):=by
 intro pins s σ H R I h
 refine Call_ (ycR I hg hm boot_enumerate (PyProof.Rows.callWith_type1 (thn (ha pos pins s σ H _ I h) λus s1 ⟨vs,H1,I1,r1,q1⟩=>?_) hs rfl))
 obtain ⟨a,e,⟨xs,hq⟩,q⟩:=q1
 subst e
 cases r1 with
 | cons r rr =>
  cases rr
  cases r
  obtain ⟨its,rv,pl,hz⟩:=I1.list hq
  refine call_enumerate_list pl.isList λh' he hit hsz hk=>wpAny_pyIter_enum he ?_
  refine ⟨s1.heap.objs.size + 1,[s1.heap.objs.size + 1,s1.heap.objs.size],_,_,H1,rfl,I1.kept (t' := s1.toks) λb o e=>hk b o e,zfY a _ _ (Nat.succ_ne_self _),⟨⟨_,he⟩,hit⟩,λb hb=>?_,q⟩
  have hb' : b = s1.heap.objs.size + 1 \/ b = s1.heap.objs.size:=by simpa using hb
  rcases hb' with rfl | rfl
  ·exact I1.fpOk (Nat.le_succ _) (I1.hok.fresh (Nat.le_succ _))
  ·exact I1.fpOk (Nat.le_refl _) (I1.hok.fresh (Nat.le_refl _))
end
def Its (x : Str) : It:=⟨λi _=>i < x.cps.size,λi H v H' => H' = H /\ ∃ c,x.cps[i]? = some c /\ v = .str ⟨#[c]⟩,λi _=>x.cps.size <= i⟩
theorem zfZ {P : Program} {w : World} {A : Around} (hh : A.handled = none) (it : Addr) (x : Str) (t : Tok) :
  Walks P w A it [it] [it] x.cps.size (SignAt x) (λi h=>h.IsStrIter it (strIterType x) x t i):=by
 cases ha : x.cps.all (· < 128) with
 | false =>
  have e : strIterType x = "str_iterator" := by simp [strIterType,ha]
  rw [e]
  exact Walks.strWide hh it x t
 | true =>
  have e : strIterType x = "str_ascii_iterator" := by simp [strIterType,ha]
  rw [e]
  exact Walks.strAscii hh it x t
theorem zgX {P : Program} {w : World} {K : PySem.W.Frag} {y : Str} {py : Pos} (it : Addr) (x : Str) (t : Tok) : Turn P w K (.Name y py) (Its x) [it] it (λi h=>h.IsStrIter it (strIterType x) x t i) where
 mem:=by simp
 obj:=λi h st b hb=>by
  have e : b = it:=by simpa using hb
  subst e
  obtain ⟨o,e,c,d⟩:=st
  exact ⟨o,e,λv z=>by rw [d] at z; cases z⟩
 keep:=λi h h' st k=>by
  obtain ⟨o,e,r⟩:=st
  exact ⟨o,k it (by simp) o e,r⟩
 item:=by
  intro X hP hw hK hc i pins s σ H E I hf st hg
  subst hP hw hK
  refine (zfZ (I.ok.hd hc) it x t).item i s _ _ hg st λv h1 tk hv st1 kk=>?_
  obtain ⟨c,u,hcp,rfl⟩:=hv
  have I1 : Inv X pins σ H { s with heap:=h1,toks:=tk }:=I.turnedL (fp:=[it]) kk hf
  exact ⟨_,rfl,wpAny_pure ⟨.str ⟨#[c]⟩,H,I1,⟨u,rfl⟩,⟨rfl,c,hcp,rfl⟩,st1,λb hb=>(hf b hb).1⟩⟩
 done:=by
  intro X hP hw hK hc i pins s σ H E I hf st hg
  subst hP hw hK
  have hx : x.cps[i]? = none:=Array.getElem?_eq_none hg
  cases ha : x.cps.all (· < 128) with
  | false =>
   have e : strIterType x = "str_iterator" := by simp [strIterType,ha]
   rw [e] at st
   exact wpAny_pyNext_wide_end (I.ok.hd hc) st hx λh' eb=>⟨rfl,I.turnedL (fp:=[it]) (t' := s.toks) (λb o hb q=>eb b o (λz=>hb (by simp [z])) q) hf⟩
  | true =>
   have e : strIterType x = "str_ascii_iterator" := by simp [strIterType,ha]
   rw [e] at st
   exact wpAny_pyNext_ascii_end (I.ok.hd hc) st hx λh' eb=>⟨rfl,I.turnedL (fp:=[it]) (t' := s.toks) (λb o hb q=>eb b o (λz=>hb (by simp [z])) q) hf⟩
 self:=λA i s Q E st h=>by
  cases ha : x.cps.all (· < 128) with
  | false =>
   have e : strIterType x = "str_iterator" := by simp [strIterType,ha]
   rw [e] at st
   exact wpAny_pyIter_striter_wide st h
  | true =>
   have e : strIterType x = "str_ascii_iterator" := by simp [strIterType,ha]
   rw [e] at st
   exact wpAny_pyIter_striter_ascii st h
section
variable {X : Cx}
def iStr (tl : TE) : TI:=λσ H R=>tl σ H λx H1=>∃ t,x = .str t /\ R (Its t) H1
theorem ygI {l : Expr} {tl : TE} {y : Str} {py : Pos} (hl : PE X l tl) : PI X (.Name y py) l (iStr tl):=by
 intro pins s σ H R I h
 refine thn (hl pins s σ H _ I h) λv s1 ⟨x,H1,I1,r1,q1⟩=>?_
 obtain ⟨t,e,q⟩:=q1
 subst e
 obtain ⟨tk,rfl⟩:=r1
 refine wpAny_pyIter_strU ?_
 refine ⟨s1.heap.objs.size,[s1.heap.objs.size],_,_,H1,rfl,I1.kept (t' := s1.toks) λb o e=>Heap.get?_push_of_some _ e,zgX _ t tk,⟨_,Heap.get?_push_size _ rfl,rfl,rfl⟩,λb hb=>?_,q⟩
 have e : b = s1.heap.objs.size:=by simpa using hb
 subst e
 exact I1.fpOk (Nat.le_refl _) (I1.hok.fresh (Nat.le_refl _))
end
def yaF (env : Env) : List (Str × NameKind) -> List (Str × Addr) -> List (Str × Addr)
 | [],acc=>acc
 | (n,k) :: r,acc=>yaF env r (if k = .free then (n,(env.cells.lookup n).getD 0) :: acc else acc)
theorem zfj {env : Env} {scope : Scope} (h : ∀ y ∈ scope.names,y.2 = .free -> (env.cells.lookup y.1).isSome = true) : closureFor scope env = pure (yaF env scope.names []):=by
 have all : ∀ (l : List (Str × NameKind)) (acc : List (Str × Addr)),(∀ y ∈ l,y.2 = .free -> (env.cells.lookup y.1).isSome = true) ->
   (forIn l acc λ(x : Str × NameKind) (cs : List (Str × Addr))=>if (x.2 == NameKind.free) = true then (do let a <- cellOf env x.1; pure (ForInStep.yield ((x.1,a) :: cs))) else (pure (ForInStep.yield cs) : Sem _)) = pure (yaF env l acc):=by
  intro l
  induction l with
  | nil=>intro acc _; rfl
  | cons y r ih =>
   intro acc hl
   obtain ⟨n,k⟩:=y
   rw [List.forIn_cons]
   have hr:=λz hz=>hl z (List.mem_cons_of_mem _ hz)
   by_cases hk : k = .free
   ·subst hk
    obtain ⟨c,hc⟩:=Option.isSome_iff_exists.mp (hl (n,.free) List.mem_cons_self rfl)
    have e1 : cellOf env n = pure c:=by
     simp only [cellOf]
     have hc' : env.cells.lookup n = some c:=hc
     rw [hc']
    simp only [beq_self_eq_true,if_true,e1,pure_bind,yaF]
    have hc' : env.cells.lookup n = some c:=hc
    rw [hc']
    exact ih _ hr
   ·have hb : (k == NameKind.free) = false:=by simpa using hk
    simp only [hb,Bool.false_eq_true,if_false,pure_bind,yaF,hk]
    exact ih _ hr
 unfold closureFor
 have q:=all scope.names [] h
 first
  | exact q
  | (simp only [bind_pure]; exact q)
  | (rw [<- q]; simp)
theorem zcf {env : Env} : ∀ {l : List (Str × NameKind)} {acc : List (Str × Addr)},(∀ y ∈ l,y.2 = .free -> (env.cells.lookup y.1).isSome = true) -> (∀ y c,acc.lookup y = some c -> env.cells.lookup y = some c) ->
  ∀ y c,(yaF env l acc).lookup y = some c -> env.cells.lookup y = some c
 | [],_,_,h,y,c,e=>h y c e
 | (n,k) :: r,acc,hl,h,y,c,e=>by
  refine zcf (l:=r) (λz hz=>hl z (List.mem_cons_of_mem _ hz)) ?_ y c e
  intro y c e
  by_cases hk : k = .free
  ·rw [if_pos hk] at e
   rw [List.lookup_cons] at e
   cases hy : y == n with
   | true =>
    rw [hy] at e
    have e' : y = n:=by simpa using hy
    obtain ⟨c',hc'⟩:=Option.isSome_iff_exists.mp (hl (n,k) List.mem_cons_self hk)
    have hc'' : env.cells.lookup n = some c' := hc'
    rw [hc''] at e
    rw [e',hc'']
    exact e
   | false =>
    rw [hy] at e
    exact h y c e
  ·rw [if_neg hk] at e
   exact h y c e
theorem zcg {env : Env} : ∀ {l : List (Str × NameKind)} {acc : List (Str × Addr)} {y : Str},(y,NameKind.free) ∈ l \/ (acc.lookup y).isSome = true -> ((yaF env l acc).lookup y).isSome = true
 | [],_,_,h=>by
  rcases h with h | h
  ·cases h
  ·exact h
 | (n,k) :: r,acc,y,h=>by
  refine zcg (l:=r) ?_
  rcases h with h | h
  ·rcases List.mem_cons.mp h with e | e
   ·right
    cases e
    rw [if_pos rfl,List.lookup_cons]
    simp
   ·exact .inl e
  ·right
   by_cases hk : k = .free
   ·rw [if_pos hk,List.lookup_cons]
    cases hy : y == n with
    | true=>rfl
    | false=>exact h
   ·rw [if_neg hk]; exact h
theorem zav {names : List (Str × NameKind)} {x : Str} {k : NameKind} (h : names.lookup x = some k) : (x,k) ∈ names:=PySem.mem_of_lookup h
theorem zaB {env : Env} {x : Str} {k : NameKind} : ∀ {names : List (Str × NameKind)},(names.map λ(n,k)=>if (k == NameKind.free && env.scope.kind == .function && env.kindOf n == some .cell) then (n,NameKind.cell) else (n,k)).lookup x = some k ->
  names.lookup x = some k \/ (k = .cell /\ names.lookup x = some .free)
 | [],h=>by simp at h
 | (n,kk) :: r,h=>by
  have ih:=@zaB env x k r
  by_cases hc : (kk == NameKind.free && env.scope.kind == .function && env.kindOf n == some .cell) = true
  ·have hf : kk = .free:=by
    have q:=(Bool.and_eq_true _ _).mp ((Bool.and_eq_true _ _).mp hc).1
    simpa using q.1
   subst hf
   have h' : List.lookup x ((n,NameKind.cell) :: (r.map λ(n,k)=>if (k == NameKind.free && env.scope.kind == .function && env.kindOf n == some .cell) then (n,NameKind.cell) else (n,k))) = some k:=by
    have e : (λ(p : Str × NameKind)=>match p with | (n,k)=>if (k == NameKind.free && env.scope.kind == .function && env.kindOf n == some .cell) = true then (n,NameKind.cell) else (n,k)) (n,NameKind.free) = (n,NameKind.cell):=by
     show (if _ then _ else _) = _
     rw [if_pos hc]
    rw [List.map_cons] at h
    rw [<- e]
    exact h
   rw [List.lookup_cons] at h' ⊢
   cases hx : x == n with
   | true =>
    rw [hx] at h'
    right
    exact ⟨(Option.some.inj h').symm,rfl⟩
   | false =>
    rw [hx] at h'
    exact ih h'
  ·have h' : List.lookup x ((n,kk) :: (r.map λ(n,k)=>if (k == NameKind.free && env.scope.kind == .function && env.kindOf n == some .cell) then (n,NameKind.cell) else (n,k))) = some k:=by
    have e : (λ(p : Str × NameKind)=>match p with | (n,k)=>if (k == NameKind.free && env.scope.kind == .function && env.kindOf n == some .cell) = true then (n,NameKind.cell) else (n,k)) (n,kk) = (n,kk):=by
     show (if _ then _ else _) = _
     rw [if_neg hc]
    rw [List.map_cons] at h
    rw [<- e]
    exact h
   rw [List.lookup_cons] at h' ⊢
   cases hx : x == n with
   | true =>
    rw [hx] at h'
    exact .inl h'
   | false =>
    rw [hx] at h'
    exact ih h'
def ya5 (X : Cx) (pins : List (Addr × Obj)) (x₁ : Str) (jf : List (Nat × Str)) (scope : Scope) (cl : List (Str × Addr)) (s : Shared) (H : Hp) (fp : List Addr) : Cx where
 prog:=X.prog
 w:=X.w
 K:=X.K
 mg:=X.mg
 base:=X.base
 A:=X.A
 N:=x₁ :: jf.map (·.2)
 s₀:=s
 H₀:=H
 env:=compEnvC scope cl s.heap.objs.size X.env
 outer:=X.stack
 stack:=X.stack
 ex:=fp
 fn:=λ_=>false
 calm:=X.calm
 pn:=X.pn++pins
 xe:=λ_ _=>False
def ybm (v : Option V) (js : List (Nat × Str)) (σ : St) : St:=v :: js.map λj=>(σ[j.1]?).join
def PTs (X : Cx) (ifs : List Expr) (t : TT) : Prop :=
 ∀ (pins : List (Addr × Obj)) (s : Shared) (σ : St) (H : Hp) (Q : Bool -> Hp -> Prop),Inv X pins σ H s -> t σ H Q ->
  wpAny (model X.prog X.w) X.A (forIn ifs true λc r=>if r = true then do let ok <- isTrue c X.env (eval c X.env); pure (ForInStep.yield ok) else pure (ForInStep.yield r)) (TP X pins σ Q) X.xe s
def tYes : TT:=λ_ H Q=>Q true H
theorem zh0 {X : Cx} : PTs X [] tYes:=λpins s σ H Q I h=>wpAny_tests_nil ⟨H,I,h⟩
def yej (jf : List (Nat × Str)) (wi : TI) (tc : TT) (te : TE) : TE:=λσ H Q=>wi σ H λJ H1=>∀ D,H1 D = none -> ∃ W : Nat -> Nat -> List V -> Hp -> Prop,(∃ m,W 0 m [] (upd H1 D (.lst []))) /\
 ∀ i m ys H2,W i m ys H2 -> H2 D = some (.lst ys) /\ ((J.stop i H2 /\ Q (.ref D) H2) \/ (J.go i H2 /\ ys.length < sizeLine /\ ∀ x H3,J.yld i H2 x H3 -> tc (ybm (some x) jf σ) H3 λb H5 =>
  if b = true then te (ybm (some x) jf σ) H5 λv H6=>H6 D = some (.lst ys) /\ ∃ m',m' < m /\ W (i + 1) m' (ys++[v]) (upd H6 D (.lst (ys++[v]))) else ∃ m',m' < m /\ W (i + 1) m' ys H5))
section
variable {X : Cx} {pins : List (Addr × Obj)} {σ : St} {H : Hp} {s : Shared} {x₁ : Str} {jf : List (Nat × Str)} {scope : Scope} {fp : List Addr}
theorem Inv.block {h1 : Heap} {tk : Nat} (I : Inv X pins σ H s) (hf : ∀ b ∈ fp,FpOk X pins H b) (hlt : ∀ b ∈ fp,b < s.heap.objs.size) (hjf : ∀ p ∈ jf,X.N[p.1]? = some p.2) (hjl : ∀ p ∈ jf,scope.names.lookup p.2 = some .free) (hkind : scope.kind = .function)
  (hcell : ∀ y ∈ scope.names,y.2 ≠ .cell) (hfr : ∀ y ∈ scope.names,y.2 = .free -> X.env.kindOf y.1 = some .cell \/ X.env.kindOf y.1 = some .free)
  (hn : h1.Ns s.heap.objs.size (λ_=>none)) (hk : ∀ b o,s.heap.get? b = some o -> h1.get? b = some o) :
  Inv (ya5 X pins x₁ jf scope (yaF X.env scope.names []) s H fp) [] (ybm none jf σ) H { s with heap:=h1,toks:=tk }:=by
 have hsome : ∀ y ∈ scope.names,y.2 = .free -> (X.env.cells.lookup y.1).isSome = true:=λy hy hyf=>Option.isSome_iff_exists.mpr (I.ok.has y.1 (hfr y hy hyf))
 have sub : ∀ y c,(yaF X.env scope.names []).lookup y = some c -> X.env.cells.lookup y = some c:=zcf hsome (λy c e=>by simp at e)
 have hsz:=I.sz
 have inE : ∀ b,b ∈ (ya5 X pins x₁ jf scope (yaF X.env scope.names []) s H fp).ex -> b ∈ fp:=λb z=>z
 have stk : ∀ b ∈ frs X.stack,b < s.heap.objs.size:=λb hb=>by
  obtain ⟨_,o,ho,_⟩:=I.stack.mem hb
  exact Heap.lt_size ho
 refine ⟨⟨I.ok.mod,hkind,I.ok.glob,I.ok.blt,Nat.le_refl _,λy z c e1 e2=>I.ok.inj y z c (sub y c e1) (sub z c e2),λy hy=>?_,λy c hfn _=>(by cases hfn),I.ok.hd,I.ok.frames,.inl rfl,λb hb=>?_,λb o e=>I.bs b o e,Nat.le_trans I.ok.bsz hsz,λb o e z=>?_,λb hb z=>?_,I.stack,I.stkFree⟩,
  rfl,I.bare,Un.kept hk,⟨_,hn,λi y v e1 e2 e3=>?_⟩,λy c e=>?_,I.hok.fresh (Nat.le_refl _),λy c e=>I.freeC y c (sub y c e),λp hp=>?_,I.hok.kept hk,?_⟩
 ·have hy' : (relabel scope X.env).names.lookup y = some .cell \/ (relabel scope X.env).names.lookup y = some .free:=hy
  have mem : (y,NameKind.free) ∈ scope.names:=by
   rcases hy' with q | q
   ·rcases zaB (env:=X.env) q with z | z
    ·exact absurd rfl (hcell _ (zav z))
    ·exact zav z.2
   ·rcases zaB (env:=X.env) q with z | z
    ·exact zav z
    ·exact zav z.2
  exact Option.isSome_iff_exists.mp (zcg (.inl mem))
 ·exact ⟨Nat.ne_of_lt (hlt b hb),λy c e=>(hf b hb).2.2.2.2.1 y c (sub y c e)⟩
 ·rcases (hf b z).2.2.2.1 with q | q
  ·exact I.ok.noex b o e q
  ·exact absurd (Nat.lt_of_lt_of_le (Heap.lt_size e) (Nat.le_trans I.ok.bsz q)) (Nat.lt_irrefl _)
 ·rcases List.mem_cons.mp (I.stkSub b z) with q | q
  ·exact (hf b hb).2.1 q
  ·exact (hf b hb).2.2.1 q
 ·have e1' : (x₁ :: jf.map (·.2))[i]? = some y:=e1
  unfold ybm at e2
  cases i with
  | zero=>cases e2
  | succ i =>
   rw [List.getElem?_cons_succ,List.getElem?_map] at e1' e2
   cases q : jf[i]? with
   | none=>rw [q] at e2; cases e2
   | some p =>
    rw [q] at e1' e2
    have ey : p.2 = y:=Option.some.inj e1'
    have ev : (σ[p.1]?).join = some v:=Option.some.inj e2
    have hp : p ∈ jf:=List.mem_of_getElem? q
    have eσ : σ[p.1]? = some (some v):=by
     cases z : σ[p.1]? with
     | none=>rw [z] at ev; cases ev
     | some r=>rw [z] at ev; rw [show r = some v from ev]
    have hfree : scope.names.lookup y = some .free:=by rw [<- ey]; exact hjl p hp
    have mem:=zav hfree
    have kX:=hfr _ mem rfl
    obtain ⟨m,hnX,hl⟩:=I.loc
    obtain ⟨u,ru,lk⟩:=hl p.1 y v (by rw [<- ey]; exact hjf p hp) eσ (by
     rcases kX with z | z
     ·exact .inr (.inl z)
     ·exact .inr (.inr z))
    refine ⟨u,ru,.inr ⟨?_,?_⟩⟩
    ·have e3' : Vis (relabel scope X.env) y:=e3
     rcases e3' with z | z | z
     ·exfalso
      rcases zaB (env:=X.env) z with q | q
      ·rw [hfree] at q; cases q
      ·cases q.1
     ·exact .inl z
     ·exact .inr z
    ·rcases lk with ⟨z,_⟩ | ⟨_,c,hc,hcell'⟩
     ·exfalso
      rcases kX with q | q
      ·rw [show X.env.kindOf y = some .cell from q] at z; cases z
      ·rw [show X.env.kindOf y = some .free from q] at z; cases z
     ·obtain ⟨c',hc'⟩:=Option.isSome_iff_exists.mp (zcg (env:=X.env) (acc:=[]) (.inl mem))
      have e:=sub y c' hc'
      rw [hc] at e
      cases e
      obtain ⟨o,ho,hd⟩:=hcell'
      exact ⟨c,hc',o,hk c o ho,hd⟩
 ·obtain ⟨v,o,ho,hd⟩:=I.cell y c (sub y c e)
  exact ⟨v,o,hk c o ho,hd⟩
 ·have hp' : p ∈ X.pn++pins:=by simpa [ya5] using hp
  obtain ⟨e,n,ne,nf,d⟩:=I.pin p hp'
  refine ⟨hk _ _ e,n,Nat.ne_of_lt (Heap.lt_size e),λz=>?_,d⟩
  rcases List.mem_cons.mp (I.stkSub p.1 z) with q | q
  ·exact ne q
  ·exact nf q
 ·unfold ybm
  show _ = (x₁ :: jf.map (·.2)).length
  rw [List.length_cons,List.length_cons,List.length_map,List.length_map]
end
theorem HOk.sameBut {P : Program} {w : World} {H : Hp} {h h' : Heap} {C : Addr} (ok : HOk P w H h) (hn : H C = none) (hs : Heap.SameBut C h h') : HOk P w H h' := λb u e=>by
 refine (ok b u e).stay (λc v hc q=>(hs.2 c ?_).trans q) (λ_ q=>q) λ_ _ q=>q
 rcases hc with z | z
 ·rw [z]; exact zag e hn
 ·exact zag z hn
theorem Un.sameBut {fs ex : List Addr} {H H' : Hp} {h h1 h2 : Heap} {C : Addr} (u : Un fs ex H H' h h1) (hC : h.get? C = none) (hs : Heap.SameBut C h1 h2) : Un fs ex H H' h h2:=by
 have ne : ∀ b o,h.get? b = some o -> b ≠ C:=λb o e z=>by rw [z,hC] at e; cases e
 refine ⟨λb o e n hb hx=>(hs.2 b (ne b o e)).trans (u.keep b o e n hb hx),λb o e n hb hx=>?_,u.free,λb o e hx=>?_,u.tups,u.frzs,u.tbls⟩
 ·obtain ⟨sl,q⟩:=u.slot b o e n hb hx
  exact ⟨sl,(hs.2 b (ne b o e)).trans q⟩
 ·obtain ⟨o',q⟩:=u.there b o e hx
  exact ⟨o',(hs.2 b (ne b o e)).trans q⟩
theorem zdI {prog : Program} {w : World} {A : Around} {R : Result -> Shared -> Prop} {s : Shared} {elt target iter : Expr} {ifs : List Expr} {scope : Scope} {pos : Pos} {it acc : Value} {env : Env} (I : Nat -> Shared -> Prop)
  (turn : ∀ n s,I n s -> wpAny (model prog w) A (pyNext it) (λr s₁=>match r with
   | none=>R (.ok .next) s₁
   | some v=>wpAny (model prog w) A (letOwnedTupleGo target it v) (λ_ s₂=>wpAny (model prog w) A (assign target env v) (λ_ s₃ =>
     wpAny (model prog w) A (forIn ifs true λc r=>if r = true then do let ok <- isTrue c env (eval c env); pure (ForInStep.yield ok) else pure (ForInStep.yield r)) (λok s₄ =>
      if ok = true then wpAny (model prog w) A (eval elt env) (λx s₅=>wpAny (model prog w) A (call (.builtin "list.append") [acc,x]) (λ_ s₆=>∃ m,m < n /\ I m s₆) (λ_ _=>False) s₅) (λ_ _=>False) s₄
      else ∃ m,m < n /\ I m s₄) (λ_ _=>False) s₃) (λ_ _=>False) s₂) (λ_ _=>False) s₁) (λ_ _=>False) s)
  (n : Nat) (h : I n s) : codeAny (model prog w) A (.compLoop (.ListComp elt [⟨target,iter,ifs,0⟩] scope pos) 0 it acc env) R s:=by
 refine codeAny_loop rfl I (λn s hI=>?_) n h
 show wpAny _ A ((compTurn (.ListComp elt [⟨target,iter,ifs,0⟩] scope pos) 0 it acc env).onRaise (λx=>do noteFrame x env; theTreesLotGoes x)) _ _ s
 refine wpAny_noted ?_
 rw [compTurn_list]
 refine wpAny_bind (wpAny_standAt (wpAny_bind (wpAny_mono (turn n s hI) (λr s₁ h₁=>?_) λ_ _ z=>z.elim)))
 cases r with
 | none=>exact wpAny_pure h₁
 | some v =>
  refine wpAny_bind (wpAny_mono h₁ (λ_ s₂ h₂=>?_) λ_ _ z=>z.elim)
  refine wpAny_bind (wpAny_mono h₂ (λ_ s₃ h₃=>wpAny_bind (wpAny_mono h₃ (λok s₄ h₄=>?_) λ_ _ z=>z.elim)) λ_ _ z=>z.elim)
  cases ok with
  | false=>exact wpAny_pure ⟨rfl,h₄⟩
  | true =>
   exact wpAny_bind (wpAny_bind (wpAny_mono h₄ (λx s₅ h₅=>wpAny_bind (wpAny_mono h₅ (λ_ s₆ h₆=>wpAny_pure (wpAny_pure ⟨rfl,h₆⟩)) λ_ _ z=>z.elim)) λ_ _ z=>z.elim))
section
variable {X : Cx} {x₁ : Str} {px : Pos} {jf : List (Nat × Str)} {scope : Scope} {iter elt : Expr} {ifs : List Expr} {pos : Pos} {wi : TI} {tc : TT} {te : TE}
theorem zgY (hcalm : X.calm = true) (hi : PI X (.Name x₁ px) iter wi) (hc : ∀ pins cl s H fp,PTs (ya5 X pins x₁ jf scope cl s H fp) ifs tc) (he : ∀ pins cl s H fp,PE (ya5 X pins x₁ jf scope cl s H fp) elt te)
  (hN : (x₁ :: jf.map (·.2)).Nodup) (hx : scope.names.lookup x₁ = some .local) (hjf : ∀ p ∈ jf,X.N[p.1]? = some p.2) (hjl : ∀ p ∈ jf,scope.names.lookup p.2 = some .free) (hkind : scope.kind = .function)
  (hcell : ∀ y ∈ scope.names,y.2 ≠ .cell) (hfr : ∀ y ∈ scope.names,y.2 = .free -> X.env.kindOf y.1 = some .cell \/ X.env.kindOf y.1 = some .free)
  (hnames : ∀ y ∈ scope.names,y.2 = .local -> scope.names.lookup y.1 = some .local) {use : Option (Value -> Sem Unit)} {Qf : Value -> Shared -> Prop} {cpos : Pos}
  {pins : List (Addr × Obj)} {σ : St} {H : Hp} {s : Shared} {Q : VK} (I : Inv X pins σ H s) (h : yej jf wi tc te σ H Q)
  (fin : ∀ D C s6 H6 m6,Inv X pins σ H6 s6 -> Q (.ref D) H6 -> FpOk X pins H6 C -> s6.heap.Ns C m6 -> compPost (model X.prog X.w) X.A X.xe use Qf (.ref D) C (.ok .next) s6) (hs : ∀ x,foldedSetIterable iter X.env x = pure x) :
  wpAny (model X.prog X.w) X.A (comprehension (.ListComp elt [⟨.Name x₁ px,iter,ifs,0⟩] scope pos) scope X.env cpos (newList []) false (eval iter X.env) use) Qf X.xe s:=by
 have hsome : ∀ y ∈ scope.names,y.2 = .free -> (X.env.cells.lookup y.1).isSome = true:=λy hy hyf=>Option.isSome_iff_exists.mpr (I.ok.has y.1 (hfr y hy hyf))
 refine wpAny_comprehension_free (use:=use) rfl hs (zfj hsome) hkind hnames (thn (hi pins s σ H _ I h) λxv s1 h1=>thn h1 λitv s2 h2=>?_)
 obtain ⟨it,fp,tn,J,H2,e,I2,T,st2,f2,h⟩:=h2
 subst e
 refine wpAny_newObj_type (wpAny_newFunctionEnv hcell (by intro y hy; simp at hy) (λh₁ hns₁ hsb₁=>?_) hkind)
 have hD0 : H2 s2.heap.objs.size = none:=I2.hok.fresh (Nat.le_refl _)
 obtain ⟨W,⟨m0,w0⟩,step⟩:=h s2.heap.objs.size hD0
 dsimp only at hns₁ hsb₁ ⊢
 have I3 : Inv X pins σ (upd H2 s2.heap.objs.size (.lst [])) { s2 with heap:=s2.heap.push { cls:=.type "list",dict:=none,data:=.seq ([] : List Value).toArray } } :=
  I2.laid (t' := s2.toks) (λb u q=>Heap.get?_push_of_some _ q) (Nat.le_refl _) ⟨Nat.zero_le _,[],0,.nil,Heap.get?_push_size _ rfl⟩
 generalize hH3 : s2.heap.push { cls:=.type "list",dict:=none,data:=.seq ([] : List Value).toArray } = hp3 at hns₁ hsb₁ I3 ⊢
 have hsz3 : hp3.objs.size = s2.heap.objs.size + 1:=by rw [<- hH3,Heap.size_push]
 have k23 : ∀ b o,s2.heap.get? b = some o -> hp3.get? b = some o:=λb o q=>by rw [<- hH3]; exact Heap.get?_push_of_some _ q
 have flt : ∀ b ∈ fp,b < s2.heap.objs.size:=λb hb=>by
  obtain ⟨o,q,_⟩:=T.obj 0 _ st2 b hb
  exact Heap.lt_size q
 have f3 : ∀ b ∈ fp,FpOk X pins (upd H2 s2.heap.objs.size (.lst [])) b:=λb hb=>by
  obtain ⟨g0,g⟩:=f2 b hb
  exact ⟨by rw [yak (Nat.ne_of_lt (flt b hb))]; exact g0,g⟩
 have kC : ∀ b o,hp3.get? b = some o -> h₁.get? b = some o:=λb o q=>(hsb₁.2 b (Nat.ne_of_lt (Heap.lt_size q))).trans (Heap.get?_push_of_some _ q)
 have B0:=I3.block (x₁:=x₁) (jf:=jf) (scope:=scope) (fp:=fp) (h1:=h₁) (tk:=s2.toks + ([] : List (Str × Value)).length) f3 (λb hb=>by show b < hp3.objs.size; rw [hsz3]; exact Nat.lt_succ_of_lt (flt b hb)) hjf hjl hkind hcell hfr (by simpa using hns₁) kC
 have st4 : tn 0 h₁:=T.keep _ _ _ st2 λb _ o q=>kC b o (k23 b o q)
 have w0' := w0
 have stat : ∀ {H' : Hp},(∀ b ∈ fp,H' b = none) -> ∀ b ∈ fp,FpOk (ya5 X pins x₁ jf scope (yaF X.env scope.names []) { s2 with heap:=hp3 } (upd H2 s2.heap.objs.size (.lst [])) fp) [] H' b:=λhn b hb=>by
  obtain ⟨_,g1,g2,g3,g4,g5⟩:=f2 b hb
  refine ⟨hn b hb,Nat.ne_of_lt (by show b < hp3.objs.size; rw [hsz3]; exact Nat.lt_succ_of_lt (flt b hb)),λz=>?_,.inl hb,λy c q=>g4 y c (zcf hsome (λy c e=>by simp at e) y c q),λp hp=>g5 p (by simpa [ya5] using hp)⟩
  rcases List.mem_cons.mp (I2.stkSub b z) with q | q
  ·exact g1 q
  ·exact g2 q
 have loop : codeAny (model X.prog X.w) X.A (.compLoop (.ListComp elt [⟨.Name x₁ px,iter,ifs,0⟩] scope pos) 0 (.ref it) (.ref s2.heap.objs.size) (compEnvC scope (yaF X.env scope.names []) hp3.objs.size X.env))
   (compPost (model X.prog X.w) X.A X.xe use Qf (.ref s2.heap.objs.size) hp3.objs.size) { s2 with heap:=h₁,toks:=s2.toks + ([] : List (Str × Value)).length }:=by
  refine zdI (λn s' => ∃ i ys H',Inv (ya5 X pins x₁ jf scope (yaF X.env scope.names []) { s2 with heap:=hp3 } (upd H2 s2.heap.objs.size (.lst [])) fp) [] (ybm none jf σ) H' s' /\ tn i s'.heap /\ (∀ b ∈ fp,H' b = none) /\ W i n ys H') ?_ m0
   ⟨0,[],_,B0,st4,λb hb=>(f3 b hb).1,w0⟩
  rintro n s5 ⟨i,ys,H5,I5,st5,fr5,w5⟩
  obtain ⟨hD5,alt⟩:=step i n ys H5 w5
  rcases alt with ⟨stop,q5⟩ | ⟨go,hlen,next⟩
  ·refine wpAny_mono (T.done (ya5 X pins x₁ jf scope (yaF X.env scope.names []) { s2 with heap:=hp3 } (upd H2 s2.heap.objs.size (.lst [])) fp) rfl rfl rfl hcalm i [] s5 _ H5 (λ_ _=>False) I5 (stat fr5) st5 stop) (λr s6 ⟨hr,I6⟩=>?_) λ_ _ z=>z
   subst hr
   obtain ⟨m6,hn6,_⟩:=id I6.loc
   refine fin _ _ s6 H5 m6 ?_ q5 (I3.fpOk (Nat.le_refl _) I6.free) hn6
   refine I3.call' (ch:=fp) I6.os I6.base I6.hok I6.bare (λb hb=>?_)
   obtain ⟨_,g1,g2,g3,g4,g5⟩:=f2 b hb
   exact ⟨g3,g1,g4,g5⟩
  ·refine wpAny_mono (T.item (ya5 X pins x₁ jf scope (yaF X.env scope.names []) { s2 with heap:=hp3 } (upd H2 s2.heap.objs.size (.lst [])) fp) rfl rfl rfl hcalm i [] s5 _ H5 (λ_ _=>False) I5 (stat fr5) st5 go) (λr s6 ⟨u,hr,h6⟩=>?_) λ_ _ z=>z
   subst hr
   refine wpAny_mono h6 (λ_ s7 ⟨x,H7,I7,r7,y7,st7,fr7⟩=>?_) λ_ _ z=>z
   have I7' := I7.pinned (stat fr7) (T.obj _ _ st7)
   have hloc : Loc (ya5 X pins x₁ jf scope (yaF X.env scope.names []) { s2 with heap:=hp3 } (upd H2 s2.heap.objs.size (.lst [])) fp).env.scope x₁:=.inl (lookup_relabel_local hx)
   refine wpAny_assign_Name (zbm (i:=0) I7' hN rfl hloc r7 (λs8 I8=>?_) (.inr (lookup_relabel_local hx)))
   have q8:=next x H7 y7
   have I8' : Inv (ya5 X pins x₁ jf scope (yaF X.env scope.names []) { s2 with heap:=hp3 } (upd H2 s2.heap.objs.size (.lst [])) fp) ([]++ycf fp s7.heap) (ybm (some x) jf σ) H7 s8:=I8
   have again : ∀ {s9 : Shared} {H9 : Hp} {zs : List V} {m' : Nat},Inv (ya5 X pins x₁ jf scope (yaF X.env scope.names []) { s2 with heap:=hp3 } (upd H2 s2.heap.objs.size (.lst [])) fp) ([]++ycf fp s7.heap) (ybm (some x) jf σ) H9 s9 -> m' < n -> W (i + 1) m' zs H9 ->
     ∃ m,m < n /\ ∃ i ys H',Inv (ya5 X pins x₁ jf scope (yaF X.env scope.names []) { s2 with heap:=hp3 } (upd H2 s2.heap.objs.size (.lst [])) fp) [] (ybm none jf σ) H' s9 /\ tn i s9.heap /\ (∀ b ∈ fp,H' b = none) /\ W i m ys H' := λ{s9 H9 zs m'} I9 hm w9=>by
    refine ⟨m',hm,i + 1,zs,H9,I9.unpinned.weak (by simp [ybm]) (λj v e=>?_),T.keep _ _ _ st7 λb hb o e=>(I9.pin (b,o) (List.mem_append_right _ (List.mem_append_right _ (zaV hb e)))).1,λb hb=>?_,w9⟩
    ·cases j with
     | zero=>simp [ybm] at e
     | succ j=>simpa [ybm] using e
    ·obtain ⟨o,e,d⟩:=T.obj _ _ st7 b hb
     exact (I9.pin (b,o) (List.mem_append_right _ (List.mem_append_right _ (zaV hb e)))).2.1
   refine wpAny_mono (hc pins _ _ _ fp ([]++ycf fp s7.heap) s8 _ H7 _ I8' q8) (λok s9 ⟨H9,I9,q9⟩=>?_) λ_ _ z=>z
   cases ok with
   | false =>
    rw [if_neg Bool.false_ne_true] at q9 ⊢
    obtain ⟨m',hm,w9⟩:=q9
    exact again I9 hm w9
   | true =>
    rw [if_pos rfl] at q9 ⊢
    refine wpAny_mono (he pins _ _ _ fp ([]++ycf fp s7.heap) s9 _ H9 _ I9 q9) (λy s10 ⟨v,H10,I10,r10,hD10,m',hm,w10⟩=>?_) λ_ _ z=>z
    refine wpAny_mono (zc8 (X:=(ya5 X pins x₁ jf scope (yaF X.env scope.names []) { s2 with heap:=hp3 } (upd H2 s2.heap.objs.size (.lst [])) fp)) ([]++ycf fp s7.heap) s10 (ybm (some x) jf σ) H10 (.ref s2.heap.objs.size) [v] (.ref s2.heap.objs.size) [y] (λ_ H' => H' = upd H10 s2.heap.objs.size (.lst (ys++[v]))) I10 rfl (.cons r10 .nil) ⟨_,ys,v,rfl,rfl,hD10,hlen,rfl⟩)
     (λ_ s11 ⟨_,H11,I11,_,e11⟩=>?_) λ_ _ z=>z
    subst e11
    exact again I11 hm w10
 exact codeAny_compStart_list loop (T.self _ 0 _ _ _ st4 loop)
theorem zh1 (hcalm : X.calm = true) (hi : PI X (.Name x₁ px) iter wi) (hc : ∀ pins cl s H fp,PTs (ya5 X pins x₁ jf scope cl s H fp) ifs tc) (he : ∀ pins cl s H fp,PE (ya5 X pins x₁ jf scope cl s H fp) elt te)
  (hN : (x₁ :: jf.map (·.2)).Nodup) (hx : scope.names.lookup x₁ = some .local) (hjf : ∀ p ∈ jf,X.N[p.1]? = some p.2) (hjl : ∀ p ∈ jf,scope.names.lookup p.2 = some .free) (hkind : scope.kind = .function)
  (hcell : ∀ y ∈ scope.names,y.2 ≠ .cell) (hfr : ∀ y ∈ scope.names,y.2 = .free -> X.env.kindOf y.1 = some .cell \/ X.env.kindOf y.1 = some .free)
  (hnames : ∀ y ∈ scope.names,y.2 = .local -> scope.names.lookup y.1 = some .local) (hs : ∀ x,foldedSetIterable iter X.env x = pure x:=by intro _; rfl) :
  PE X (.ListComp elt [⟨.Name x₁ px,iter,ifs,0⟩] scope pos) (yej jf wi tc te):=by
 intro pins s σ H Q I h
 rw [eval_ListComp]
 refine zgY hcalm hi hc he hN hx hjf hjl hkind hcell hfr hnames (use:=none) (Qf:=EP X pins σ Q) I h (λD C s6 H6 m6 I6 q6 f6 n6=>?_) hs
 refine ⟨m6,n6,λh' hs' => ⟨.ref D,H6,?_,rfl,q6⟩⟩
 exact I6.turnedL (fp:=[C]) (t' := s6.toks) (λb o hb q=>(hs'.2 b (λz=>hb (by simp [z]))).trans q) (λb hb=>by
  have e : b = C:=by simpa using hb
  subst e
  exact f6)
end
end L2
namespace L2
open PySem PySem.Spec PyProof.Rows
section
variable {X : Cx} {a b e : Expr} {ta tb : TE} {p p2 pos : Pos}
theorem zgZ {c : V} {cv : Value} (rc : ∀ u,RelV c u -> u = cv) :
  CallR X (.builtin "isinstance") (λxs H Q=>∃ x t r,xs = [x,c] /\ TyOf X.K H x t /\ PySem.W.kitOne X.K t cv = some r /\ Q (.bl r) H):=by
 intro pins s σ H xs us Q I r h
 obtain ⟨x,t,k,rfl,ty,hk,q⟩:=h
 obtain ⟨u,w',rfl,rx,ry⟩:=ydW r
 obtain rfl:=rc _ ry
 exact zfQ I rx ty hk λtk=>⟨.bl k,H,I.tok _,rfl,q⟩
theorem yeN (n : String) : ∀ u,RelV (.ty n) u -> u = Value.type n:=λ_ r=>r
theorem ygJ (c : Addr) : ∀ u,RelV (.ref c) u -> u = Value.ref c:=λ_ r=>r
theorem zf0 : OpR X (compareOp .LtE) (λx y H Q=>∃ i j,x = .str i /\ y = .str j /\ Q (.bl (!decide (j.cps.toList < i.cps.toList))) H):=by
 intro pins s σ H x y v u Q I rx ry h
 obtain ⟨i,j,rfl,rfl,q⟩:=h
 obtain ⟨t,rfl⟩:=rx
 obtain ⟨t',rfl⟩:=ry
 exact PySem.P.le_str (yaE I q rfl)
theorem zdJ : MtR X "str.count" (λx vs H Q=>∃ z y,x = .str z /\ vs = [.str y] /\ Q (.int ((Builtin.Str.occurrences z y 0 z.length (z.length + 1)).length : Nat)) H):=by
 intro pins s σ H x vs v us Q I rx rv h
 obtain ⟨z,y,rfl,rfl,q⟩:=h
 obtain ⟨t,rfl⟩:=rx
 obtain ⟨u,rfl,t',rfl⟩:=ybJ rv
 exact call_gives F.slot_str_count (typeIs_str s z t) F.entry_str_count (F.args_str_count_2 _ _) (gives_str_count z y t t') ⟨.int _,H,I.tok _,⟨_,rfl⟩,q⟩
theorem zf1 (l : List (Array Nat)) : ∀ acc : Array Nat,(l.foldl (· ++ ·) acc).toList = acc.toList++(l.map Array.toList).flatten:=by
 induction l with
 | nil=>intro acc; simp
 | cons x r ih=>intro acc; rw [List.foldl_cons,ih]; simp
theorem zfk : OpR X (binaryOp .Mult) (λx y H Q=>∃ z k,x = .str z /\ y = .int k /\ (1 <= k /\ k <= 1000 /\ 1 <= z.length /\ z.length <= 1000) /\ ∀ r : Str,r.cps.toList = (List.replicate k.toNat z.cps.toList).flatten -> Q (.str r) H):=by
 intro pins s σ H x y v u Q I rx ry h
 obtain ⟨z,k,rfl,rfl,⟨h1,h2,h3,h4⟩,q⟩:=h
 obtain ⟨t,rfl⟩:=rx
 obtain ⟨t',rfl⟩:=ry
 obtain ⟨n,rfl⟩:=Int.eq_ofNat_of_zero_le (show 0 <= k by omega)
 rw [Int.toNat_natCast] at q
 have hn : n <= 1000:=by omega
 have hm : z.length * n <= 1000 * 1000:=Nat.mul_le_mul h4 hn
 refine PySem.P.mul_str (by
   have a1 : ¬ ((n : Nat) : Int) < -(2 ^ 63 : Int):=by omega
   have a2 : ¬ ((n : Nat) : Int) ≥ 2 ^ 63:=by omega
   rw [decide_eq_false a1,decide_eq_false a2]; rfl) (λ_ _=>?_) (λ_ _=>?_) ?_
 ·have e : ((2 ^ 63 - 1) / ((n : Nat) : Int)) ≥ 1000:=by
   have : (1000 : Int) * n <= 2 ^ 63 - 1:=by omega
   exact (Int.le_ediv_iff_mul_le (by omega)).mpr this
  omega
 ·rw [Int.toNat_natCast]
  unfold Builtin.Str.tooLong
  exact decide_eq_false (Nat.not_lt.mpr (Nat.le_trans hm (by decide)))
 ·rw [if_neg (by omega)]
  by_cases hk : ((((n : Nat) : Int) == 1) || z.length == 0) = true
  ·rw [if_pos hk]
   have e1 : n = 1:=by
    rcases Bool.or_eq_true_iff.mp hk with w | w
    ·have:=beq_iff_eq.mp w; omega
    ·have:=beq_iff_eq.mp w; omega
   subst e1
   exact ⟨.str z,H,I,⟨_,rfl⟩,q z (by simp)⟩
  ·rw [if_neg hk,Int.toNat_natCast]
   have e : ((List.replicate n z.cps).foldl (· ++ ·) #[]).toList = (List.replicate n z.cps.toList).flatten:=by rw [zf1]; simp
   refine ⟨?_,.str _,H,I.tok _,⟨_,rfl⟩,q _ e⟩
   show ((List.replicate n z.cps).foldl (· ++ ·) #[]).size <= sizeLine
   rw [<- Array.length_toList,e,List.length_flatten,List.map_replicate,List.sum_replicate_nat]
   have : z.cps.toList.length = z.length:=by simp [Str.length]
   rw [this,Nat.mul_comm]
   exact Nat.le_trans hm (by decide)
theorem zg0 (hc : X.calm = true) : CallR X (.builtin "all") (λxs H Q=>∃ (a : Addr) (bs : List Bool),xs = [.ref a] /\ SqL X.K H a (bs.map V.bl) /\ Q (.bl (bs.all id)) H):=by
 intro pins s σ H xs us Q I r h
 obtain ⟨l,bs,rfl,hq,q⟩:=h
 obtain ⟨u,rfl,rx⟩:=ybJ r
 cases rx
 obtain ⟨its,rv,pl,hz⟩:=I.list hq
 have hlt : l < s.heap.objs.size:=by obtain ⟨_,_,e,_⟩:=pl; exact Heap.lt_size e
 have hlen : its.length = bs.length:=by rw [<- rv.length,List.length_map]
 refine call_all_walk (wpAny_pyIter_list pl.isList ?_)
 refine ⟨s.heap.objs.size,[s.heap.objs.size,l],[s.heap.objs.size],its.toArray.size,_,_,λi=>(bs[i]?).getD true,rfl,Walks.list (A:=X.A.in1) (I.ok.hd hc) _ l (Nat.ne_of_lt hlt) its.toArray,
  ⟨⟨_,Heap.get?_push_size _ rfl,rfl,rfl⟩,pl.isList.push _⟩,λi v s' Q' E' hP hQ=>?_,λh' tk hk=>?_⟩
 ·have hP' : its[i]? = some v:=by simpa using hP
  have hi : i < its.length:=(List.getElem?_eq_some_iff.mp hP').1
  have hb : (bs.map V.bl)[i]? = some (V.bl (bs[i]'(by omega))):=by rw [List.getElem?_map,List.getElem?_eq_getElem (by omega)]; rfl
  obtain ⟨u,hu,ru⟩:=rv.get hb
  rw [hP'] at hu
  cases hu
  cases ru
  have e : (bs[i]?).getD true = bs[i]'(by omega):=by rw [List.getElem?_eq_getElem (by omega)]; rfl
  have hQ2 : Q' ((bs[i]?).getD true) s' := hQ
  rw [e] at hQ2
  exact wpAny_truthy_bool hQ2
 ·have e : ((List.range its.toArray.size).all λi=>(bs[i]?).getD true) = bs.all id:=by
   rw [List.size_toArray,hlen,Bool.eq_iff_iff,List.all_eq_true,List.all_eq_true]
   constructor
   ·intro z c hc'
    obtain ⟨i,hi,rfl⟩:=List.getElem_of_mem hc'
    have:=z i (List.mem_range.mpr hi)
    rw [List.getElem?_eq_getElem hi] at this
    exact this
   ·intro z i hi
    have hi' := List.mem_range.mp hi
    rw [List.getElem?_eq_getElem hi']
    exact z _ (List.getElem_mem hi')
  rw [e]
  refine ⟨.bl _,H,I.kept (t' := tk) λb o q=>?_,rfl,q⟩
  exact hk b o (λhm=>by rw [List.mem_singleton.mp hm] at q; exact Nat.lt_irrefl _ (Heap.lt_size q)) (Heap.get?_push_of_some _ q)
end
end L2
namespace L2
open PySem PySem.Spec PyProof.Rows
section
variable {X : Cx}
theorem zg1 : OpR X (binaryOp .FloorDiv) (rI (λ_ j=>0 < j /\ j < 2 ^ 200) λi j=>.int (i / j)):=opI λi j _ _ _ _ _ hc q=>by
 obtain ⟨h1,h2⟩:=hc
 refine floordiv_int (by omega) (by rw [Int.fdiv_eq_ediv_of_nonneg i (by omega)]; exact q) (.inl (PyProof.noPylong_of_log2 ?_))
 have h3 : j.natAbs < 2 ^ 200:=by omega
 have h4 : j.natAbs.log2 < 200:=(Nat.log2_lt (by omega)).mpr h3
 omega
theorem zg2 : OpR X (binaryOp .Mult) (rI IntMulOk λi j=>.int (i * j)):=opI λ_ _ _ _ _ _ _ hc q=>mul_int q hc
end
end L2
namespace L2
open PySem PySem.Spec PyProof.Rows
theorem ydg : bootBuiltins "int" = some (.type "int"):=by decide +kernel
theorem zcL : bootBuiltins "bool" = some (.type "bool"):=by decide +kernel
theorem ycB : bootBuiltins "str" = some (.type "str"):=by decide +kernel
end L2
namespace L2
open PySem PySem.Spec PyProof.Rows
open Sem (wp)
def DkH (h h' : Heap) : Prop:=∀ b o,h.get? b = some o -> ∃ o',h'.get? b = some o' /\ o'.dict = o.dict
theorem DkH.refl (h : Heap) : DkH h h:=λ_ o e=>⟨o,e,rfl⟩
def yaG {α : Type} (m : Sem α) : Prop:=∀ (M : Model) (Γ : PySem.Ctx) (Q : α -> Pos -> Shared -> Prop) (E : Value -> Pos -> Shared -> Prop) (p : Pos) (s : Shared) (h0 : Heap),DkH h0 s.heap -> wp M Γ m Q E p s -> wp M Γ m (λa p' s' => Q a p' s' /\ DkH h0 s'.heap) E p s
section
variable {α β : Type}
theorem zad {m : Sem α} {f : α -> Sem β} (h : yaG m) (g : ∀ a,yaG (f a)) : yaG (m >>= f):=λM Γ Q E p s h0 d q=>by
 rw [Sem.wp_bind'] at q ⊢
 exact Sem.wp_mono M Γ m (λa p' s' z=>g a M Γ _ _ p' s' h0 z.2 z.1) (λ_ _ _ x=>x) p s (h M Γ _ _ p s h0 d q)
theorem zae (a : α) : yaG (pure a : Sem α):=λM Γ Q E p s h0 d q=>by
 have q' : Q a p s:=q
 exact (show wp M Γ (Sem.pure a) _ E p s by rw [wp]; exact ⟨q',d⟩)
theorem zaw (w : String) : yaG (Sem.unsupported w : Sem α):=λM Γ Q E p s h0 d q=>by rw [wp] at q; exact q.elim
theorem zh2 {a : Addr} {pt : Option Value} {k : Obj -> Sem α} (h : ∀ o,yaG (k o)) : yaG (Sem.load a pt k):=λM Γ Q E p s h0 d q=>by
 rw [wp] at q ⊢
 obtain ⟨o,h1,h2⟩:=q
 exact ⟨o,h1,h o M Γ _ _ p _ h0 d h2⟩
theorem zg3 {k : List (Code × Pos) -> Sem α} (h : ∀ o,yaG (k o)) : yaG (Sem.stack k):=λM Γ Q E p s h0 d q=>by
 rw [wp] at q ⊢
 exact h _ M Γ _ _ p _ h0 d q
theorem zg4 {o : Obj} {k : Addr -> Sem α} (h : ∀ o,yaG (k o)) : yaG (Sem.alloc o k):=λM Γ Q E p s h0 d q=>by
 rw [wp] at q ⊢
 exact h _ M Γ _ _ p { s with heap:=s.heap.push o } h0 (λb o' e=>by
  obtain ⟨o2,e2,e3⟩:=d b o' e
  exact ⟨o2,Heap.get?_push_of_some _ e2,e3⟩) q
theorem zf2 {a : Addr} {pt : Option Value} {f : Obj -> Obj} {k : Unit -> Sem α} (hf : ∀ o,(f o).dict = o.dict /\ (o.isFreed = false -> (f o).isFreed = false)) (h : ∀ o,yaG (k o)) : yaG (Sem.update a pt f k):=λM Γ Q E p s h0 d q=>by
 rw [wp] at q ⊢
 refine ⟨q.1,h _ M Γ _ _ p { s with heap:=s.heap.update a f } h0 (λb o' e=>?_) q.2⟩
 obtain ⟨o2,e2,e3⟩:=d b o' e
 by_cases hb : b = a
 ·subst hb
  exact ⟨f o2,Heap.get?_update_self f e2 ((hf o2).2 (Heap.get?_some_iff.mp e2).2),(hf o2).1.trans e3⟩
 ·exact ⟨o2,(Heap.get?_update_ne _ _ _ _ hb).trans e2,e3⟩
end
theorem zch (a : Addr) : yaG (load a):=zh2 λo=>zae o
theorem ye9 {a : Addr} {f : Obj -> Obj} (hf : ∀ o,(f o).dict = o.dict /\ (o.isFreed = false -> (f o).isFreed = false)) : yaG (update a f):=zf2 hf λo=>zae o
theorem zf3 (v : Value) : yaG (fieldsOf v):=by
 unfold fieldsOf
 cases v<;>first | exact zaw _ | skip
 refine zad (zch _) λo=>?_
 cases o.data<;>first | exact zae _ | exact zaw _
theorem zbq (v : Value) (i : Nat) : yaG (field v i):=by
 unfold field
 refine zad (zf3 v) λo=>?_
 cases o[i]? <;> first | exact zae _ | exact zaw _
theorem zcB (g : Array Value -> Array Value) (o : Obj) : (Obj.mapFields g o).dict = o.dict /\ (o.isFreed = false -> (Obj.mapFields g o).isFreed = false):=by
 obtain ⟨c,d,dt,sl⟩:=o
 cases dt<;>exact ⟨rfl,λh=>h⟩
theorem zaP (v : Value) (i : Nat) (x : Value) : yaG (setField v i x):=by
 unfold setField
 cases v<;>first | exact zaw _ | skip
 unfold updateField
 refine zad (zch _) λo=>?_
 cases o.data<;>first | exact zaw _ | skip
 dsimp only
 split
 ·exact ye9 (zcB _)
 ·exact zaw _
theorem zdb (e : Value) (fr : Option Addr) : yaG (setFlight e fr):=by
 unfold setFlight
 refine zad (zbq e 1) λtb=>?_
 split
 ·exact zaP _ _ _
 ·exact zae _
theorem zf4 (env : Env) (outer : List Env) : yaG (behindIsImport env outer):=by
 unfold behindIsImport
 split
 ·exact zae _
 ·split
  ·exact zae _
  ·exact zad (zbq _ _) λ_=>zae _
theorem zbH : yaG stack:=zg3 λo=>zae o
theorem zf5 : yaG underTheClaimsCaller:=by
 unfold underTheClaimsCaller
 exact zad zbH λ_=>zae _
theorem zh3 (env : Env) (b : Bool) (l : List Env) : yaG (keptBack env b l):=by
 unfold keptBack
 cases l with
 | nil =>
  dsimp only
  split
  ·exact zae _
  ·exact zad zf5 λ_=>zae _
 | cons=>exact zae _
theorem zdK : ∀ l : List Env,yaG (readyFrames l)
 | []=>zae _
 | env :: outer=>by
  unfold readyFrames
  cases env.frame with
  | none=>exact zaw _
  | some f =>
   refine zad (zch f) λo=>?_
   split
   ·exact zae _
   ·refine zad (zf4 _ _) λb=>zad (zh3 _ _ _) λv=>zad (ye9 λo=>⟨rfl,λh=>by obtain ⟨c,d,dt,sl⟩:=o; cases dt<;>exact h⟩) λ_=>zdK outer
theorem zcC (env : Env) : yaG (PySem.frameOf env):=by
 unfold PySem.frameOf frameEnvs
 refine zad (zad zbH λ_=>zae _) λl=>zad ?_ λr=>?_
 ·generalize l.dropWhile _ = m
  unfold frameObject
  cases m with
  | nil=>exact zae _
  | cons e r=>exact zad (zdK _) λ_=>zae _
 ·cases r with
  | none=>exact zaw _
  | some v=>exact zae _
theorem zdL (f : Addr) (b : Bool) : yaG (entryPlaceOf f b):=by
 unfold entryPlaceOf
 refine zad zbH λl=>?_
 split
 ·exact zae _
 ·exact zae _
theorem zdM (a b c d e : Value) (l : List Value) : yaG (EntryCells.newEntry a b c d e l):=by
 unfold EntryCells.newEntry newFields newObj
 dsimp only
 have k : ∀ d,yaG (newObjAsIs (.type "traceback") (.fields d)):=λd=>by
  unfold newObjAsIs
  exact zad (zg4 λo=>zae o) λ_=>zae _
 generalize ([a,b,c,d,e]++if l.isEmpty = true then List.replicate 6 Value.none else l).toArray = arr
 split
 ·exact zad (zaw _) λ_=>k _
 ·exact k _
theorem zh4 (e : Value) (env : Env) : yaG (noteFrame e env):=by
 unfold noteFrame
 cases env.frame with
 | none=>exact zaw _
 | some f =>
  refine zad (zbq e 1) λh=>?_
  dsimp only
  split
  ·refine zad (zbq h 3) λx=>?_
   split
   ·exact zae _
   ·exact zad (zaP _ _ _) λ_=>zad (zcC env) λ_=>zad (zdL _ _) λ_=>zad (zdM _ _ _ _ _ _) λ_=>zaP _ _ _
  ·exact zad (zcC env) λ_=>zad (zdL _ _) λ_=>zad (zdM _ _ _ _ _ _) λ_=>zaP _ _ _
theorem yez {α : Type} {M : Model} {A : Around} {t : Sem α} {Q : α -> Shared -> Prop} {E : Value -> Shared -> Prop} {s : Shared} {h0 : Heap} (k : yaG t) (d : DkH h0 s.heap) (h : wpAny M A t Q E s) : wpAny M A t (λa s' => Q a s' /\ DkH h0 s'.heap) E s :=
 λΓ p hΓ=>k M Γ _ _ p s h0 d (h Γ p hΓ)
end L2
namespace L2
open PySem PySem.Spec PyProof.Rows
theorem ObjOk.some {P : Program} {w : World} {H : Hp} {h : Heap} {a : Addr} {o : HO} (x : ObjOk P w H h a o) : ∃ ob,h.get? a = Option.some ob:=by
 cases o with
 | lst xs=>obtain ⟨_,_,_,_,e⟩:=x; exact ⟨_,e⟩
 | tup xs=>obtain ⟨_,_,_,o,e,_⟩:=x; exact ⟨o,e⟩
 | dK kvs=>obtain ⟨_,_,_,_,o,_,_,e,_⟩:=x; exact ⟨_,e⟩
 | dT xc kvs=>obtain ⟨_,_,_,_,o,_,_,e,_⟩:=x; exact ⟨_,e⟩
 | set S n=>obtain ⟨o,_,_,_,e,_⟩:=x; exact ⟨_,e⟩
 | ins C dx fs=>obtain ⟨_,_,_,e,_⟩:=x; exact ⟨_,e⟩
 | own y=>obtain ⟨_,e⟩:=x; exact ⟨_,e⟩
 | xd fs=>obtain ⟨_,⟨_,_,_,e,_⟩,_⟩:=x; exact ⟨_,e⟩
 | rng lo hi=>obtain ⟨_,_,_,e⟩:=x; exact ⟨_,e⟩
 | frz ob u=>obtain ⟨e,_⟩:=x; exact ⟨_,e⟩
 | tbl ps=>exact ⟨_,(show h.get? a = Option.some _ from x)⟩
 | met f y=>exact ⟨_,(show h.get? a = Option.some _ from x)⟩
 | ext φ=>obtain ⟨_,⟨_,e⟩,_⟩:=x; exact ⟨_,e⟩
def Firm (X : Cx) (pins : List (Addr × Obj)) (H : Hp) (h B : Heap) : Prop :=
 ∀ b o,h.get? b = some o -> b ∉ frs X.stack -> ((∃ u,H b = some u) \/ (∃ o',X.s₀.heap.get? b = some o') \/ ∃ p ∈ X.pn++pins,p.1 = b) -> B.get? b = some o
section
variable {X : Cx} {pins : List (Addr × Obj)} {σ : St} {H : Hp} {s : Shared}
theorem Inv.nofr (I : Inv X pins σ H s) {b : Addr} {o : Obj} (e : X.s₀.heap.get? b = some o) (hb : b ∉ X.fs) : b ∉ frs X.stack:=λz=>by
 rcases List.mem_cons.mp (I.stkSub b z) with q | q
 ·exact Nat.ne_of_lt (Nat.lt_of_lt_of_le (Heap.lt_size e) I.ok.above) q
 ·exact hb q
theorem Inv.nofrT (I : Inv X pins σ H s) {b : Addr} {u : HO} (e : H b = some u) : b ∉ frs X.stack:=λz=>by
 have q:=I.stkFree b z
 rw [q] at e
 cases e
theorem Inv.nofrP (I : Inv X pins σ H s) {p : Addr × Obj} (hp : p ∈ X.pn++pins) : p.1 ∉ frs X.stack:=λz=>by
 obtain ⟨_,_,ne,nf,_⟩:=I.pin p hp
 rcases List.mem_cons.mp (I.stkSub p.1 z) with q | q
 ·exact ne q
 ·exact nf q
theorem Inv.flown {B h' : Heap} {t' : Nat} (I : Inv X pins σ H s) (hex : X.ex = []) (F : Firm X pins H s.heap B) (st : B.StaysIn h') (sm : s.heap.UpToSlots h') : Inv X pins σ H { s with heap:=h',toks:=t' }:=by
 have nx : ∀ b,b ∉ X.ex:=λb z=>by rw [hex] at z; cases z
 refine ⟨I.ok,I.os,I.bare,⟨λb o e n hb hx=>?_,λb o e n hb hx=>?_,I.base.free,λb o e hx=>?_,I.base.tups,I.base.frzs,I.base.tbls⟩,?_,λx c e=>?_,I.free,I.freeC,λp hp=>?_,λb u e=>?_,I.len⟩
 ·exact st b o (F b o (I.base.keep b o e n hb hx) (I.nofr e hb) (.inr (.inl ⟨o,e⟩)))
 ·obtain ⟨sl,q⟩:=I.base.slot b o e n hb hx
  obtain ⟨_,o',ho',hd⟩:=I.funs.mem hb
  rw [q] at ho'
  cases ho'
  obtain ⟨sl',q'⟩:=sm b _ q hd
  exact ⟨sl',q'⟩
 ·obtain ⟨o',q⟩:=I.base.there b o e hx
  by_cases hb : b ∈ X.fs
  ·obtain ⟨_,o'',ho'',hd⟩:=I.funs.mem hb
   rw [q] at ho''
   cases ho''
   obtain ⟨sl',q'⟩:=sm b _ q hd
   exact ⟨_,q'⟩
  ·exact ⟨o',st b o' (F b o' q (I.nofr e hb) (.inr (.inl ⟨o,e⟩)))⟩
 ·obtain ⟨m,hn,hl⟩:=I.loc
  refine ⟨m,sm.ns hn,λi x v e1 e2 e3=>?_⟩
  obtain ⟨u,r,l⟩:=hl i x v e1 e2 e3
  refine ⟨u,r,?_⟩
  rcases l with l | ⟨k,c,e,o,ho,hd⟩
  ·exact .inl l
  ·obtain ⟨sl,q⟩:=sm c o ho λvs z=>by rw [hd] at z; cases z
   exact .inr ⟨k,c,e,_,q,hd⟩
 ·obtain ⟨v,o,ho,hd⟩:=I.cell x c e
  obtain ⟨sl,q⟩:=sm c o ho λvs z=>by rw [hd] at z; cases z
  exact ⟨v,_,q,hd⟩
 ·obtain ⟨e,n,ne,nf,d⟩:=I.pin p hp
  exact ⟨st _ _ (F _ _ e (I.nofrP hp) (.inr (.inr ⟨p,hp,rfl⟩))),n,ne,nf,d⟩
 ·refine (I.hok b u e).stay (λc v hc q=>?_) (λ_ q=>q) λ_ _ q=>q
  rcases hc with z | z
  ·subst z
   exact st _ _ (F _ _ q (I.nofrT e) (.inl ⟨_,e⟩))
  ·exact st _ _ (F _ _ q (I.nofrT z) (.inl ⟨_,z⟩))
theorem Inv.adopt0 {T : Addr} {ob : HO} (I : Inv X pins σ H s) (hn : H T = none) (hT : X.s₀.heap.get? T = none) (hL : T ≠ X.env.locals) (hc : ∀ x c,X.env.cells.lookup x = some c -> c ≠ T)
  (hp : ∀ p ∈ X.pn++pins,p.1 ≠ T) (new : ObjOk X.prog X.w (upd H T ob) s.heap T ob) : Inv X pins σ (upd H T ob) s:=by
 have hne : ∀ b u,H b = some u -> b ≠ T:=λb u e=>zag e hn
 have hs : ∀ b o,X.s₀.heap.get? b = some o -> b ≠ T:=λb o e z=>by rw [z,hT] at e; cases e
 refine ⟨I.ok,I.os,I.bare,⟨I.base.keep,I.base.slot,λb o e n hx=>by rw [yak (hs b o e)]; exact I.base.free b o e n hx,I.base.there,λb xs e=>?_,λb o u e=>?_,λb ps e=>?_⟩,I.loc,I.cell,by rw [yak (Ne.symm hL)]; exact I.free,λx c e=>by rw [yak (hc x c e)]; exact I.freeC x c e,λp hp' => ?_,λb u e=>?_,I.len⟩
 ·have q:=I.base.tups b xs e
  rw [yak (hne b _ q)]; exact q
 ·have q:=I.base.frzs b o u e
  rw [yak (hne b _ q)]; exact q
 ·obtain ⟨more,q⟩:=I.base.tbls b ps e
  exact ⟨more,by rw [yak (hne b _ q)]; exact q⟩
 ·obtain ⟨e,n,ne,nf,d⟩:=I.pin p hp'
  exact ⟨e,by rw [yak (hp p hp')]; exact n,ne,nf,d⟩
 ·by_cases hb : b = T
  ·subst hb; rw [zac] at e; cases e; exact new
  ·rw [yak hb] at e
   exact (I.hok b u e).stay (λc v _ q=>q) (λc q=>by rw [yak (hne c _ q)]; exact q) λc xs q=>by rw [yak (hne c _ q)]; exact q
end
structure Arr (X : Cx) (pins : List (Addr × Obj)) (σ : St) (H : Hp) (a : Addr) (cls : Value) (dx : Option Addr) (s : Shared) : Prop where
 inv : Inv X pins σ H s
 un : H a = none
 new : X.s₀.heap.get? a = none
 nl : a ≠ X.env.locals
 nc : ∀ x c,X.env.cells.lookup x = some c -> c ≠ a
 np : ∀ p ∈ X.pn++pins,p.1 ≠ a
 dic : ∃ ob,s.heap.get? a = some ob /\ ob.dict = dx
 fly : ∃ B a0,Firm X pins H s.heap B /\ B.StaysIn s.heap /\ B.get? a = none /\ s.heap.FunFrames B X.stack /\
  ((∃ oe vs,s.heap.get? a = some oe /\ oe.cls = cls /\ oe.data = .fields vs /\ vs[0]? = some a0 /\ vs[1]? = some .none) \/ s.heap.TracedW B a cls a0)
def CXE (P : Program) (w : World) : CXT:=λouter H s E e s' => ∃ (a : Addr) (cls a0 : Value) (dx : Option Addr) (H' : Hp) (B : Heap),e = .ref a /\ s'.os = s.os /\ AllBare s'.gens /\ Un (frs outer) [] H H' s.heap s'.heap /\ HOk P w H' s'.heap /\
 Heap.FlyingW B outer a cls a0 s'.heap /\ (∀ b o,s'.heap.get? b = some o -> b ∉ frs outer -> ((∃ u,H' b = some u) \/ ∃ o',s.heap.get? b = some o') -> B.get? b = some o) /\ H' a = none /\ s.heap.get? a = none /\ (∃ ob,s'.heap.get? a = some ob /\ ob.dict = dx) /\ E cls dx H'
section
variable {X : Cx} {pins : List (Addr × Obj)} {σ : St} {H : Hp} {s : Shared}
theorem zdN {h' : Heap} {e : Addr} {cls : Value} {args : List Value} {t' : Nat} (I : Inv X pins σ H s) (hex : X.ex = []) (hx : Heap.MadeExcOf s.heap h' e cls args) : Arr X pins σ H e cls none { s with heap:=h',toks:=t' }:=by
 have nx : ∀ b,b ∉ X.ex:=λb z=>by rw [hex] at z; cases z
 have none_of : ∀ b o,s.heap.get? b = some o -> b ≠ e:=λb o q z=>by rw [z,hx.new] at q; cases q
 have eq_of : ∀ b o o1,h'.get? b = some o -> s.heap.get? b = some o1 -> o1 = o:=λb o o1 q q1=>by
  have z:=hx.keeps b o1 q1
  rw [q] at z
  exact (Option.some.inj z).symm
 obtain ⟨t,he,_,_⟩:=hx.there
 refine ⟨I.kept hx.keeps,?_,?_,λz=>?_,λx c q z=>?_,λp hp z=>?_,⟨_,he,rfl⟩,PySem.W.hideAll s.heap (frs X.stack),.ref t,λb o q nb alt=>?_,λb o q=>hx.keeps b o (PySem.W.of_hideAll _ q),?_,?_,.inl ⟨_,_,he,rfl,rfl,rfl,rfl⟩⟩
 ·cases q : H e with
  | none=>rfl
  | some u =>
   obtain ⟨ob,z⟩:=(I.hok e u q).some
   exact absurd rfl (none_of e ob z)
 ·cases q : X.s₀.heap.get? e with
  | none=>rfl
  | some o =>
   obtain ⟨ob,z⟩:=I.base.there e o q (nx e)
   exact absurd rfl (none_of e ob z)
 ·obtain ⟨m,⟨o,_,_,ho,_⟩,_⟩:=I.loc
  exact none_of _ o ho z.symm
 ·obtain ⟨v,o,ho,_⟩:=I.cell x c q
  exact none_of _ o ho z
 ·exact none_of _ _ (I.pin p hp).1 z
 ·have there : ∃ o1,s.heap.get? b = some o1:=by
   rcases alt with ⟨u,q'⟩ | ⟨o',q'⟩ | ⟨p,hp,rfl⟩
   ·exact (I.hok b u q').some
   ·exact I.base.there b o' q' (nx b)
   ·exact ⟨_,(I.pin p hp).1⟩
  obtain ⟨o1,q1⟩:=there
  rw [<- eq_of b o o1 q q1]
  exact PySem.W.hideAll_get _ q1 nb
 ·cases q : (PySem.W.hideAll s.heap (frs X.stack)).get? e with
  | none=>rfl
  | some o=>exact absurd rfl (none_of e o (PySem.W.of_hideAll _ q))
 ·refine (PySem.W.funFrames_hide I.stack λenv henv b hb=>List.mem_filterMap.mpr ⟨env,henv,hb⟩).of_keeps λb o q _=>⟨o,hx.keeps b o q,rfl⟩
theorem zci {E : XK} {e : Value} {s' : Shared} (I : Inv X pins σ H s) (hex : X.ex = []) (h : CXE X.prog X.w X.stack H s E e s') : ∃ a cls dx H',e = .ref a /\ Arr X pins σ H' a cls dx s' /\ E cls dx H' := by
 obtain ⟨a,cls,a0,dx,H',B,rfl,os,bare,un,hok,⟨f1,f2,f3,f4⟩,ext,na,ns,dk,q⟩:=h
 have nx : ∀ b,b ∉ X.ex:=λb z=>by rw [hex] at z; cases z
 have none_of : ∀ b o,s.heap.get? b = some o -> b ≠ a:=λb o q z=>by rw [z,ns] at q; cases q
 refine ⟨a,cls,dx,H',rfl,⟨I.call' (ch:=[]) os un hok bare (λb z=>absurd z (by simp)),na,?_,λz=>?_,λx c q z=>?_,λp hp z=>?_,dk,B,a0,λb o q nb alt=>?_,f1,f2,f3,.inr f4⟩,q⟩
 ·cases q : X.s₀.heap.get? a with
  | none=>rfl
  | some o =>
   obtain ⟨ob,z⟩:=I.base.there a o q (nx a)
   exact absurd rfl (none_of a ob z)
 ·obtain ⟨m,⟨o,_,_,ho,_⟩,_⟩:=I.loc
  exact none_of _ o ho z.symm
 ·obtain ⟨v,o,ho,_⟩:=I.cell x c q
  exact none_of _ o ho z
 ·exact none_of _ _ (I.pin p hp).1 z
 ·refine ext b o q nb ?_
  rcases alt with ⟨u,q'⟩ | ⟨o',q'⟩ | ⟨p,hp,rfl⟩
  ·exact .inl ⟨u,q'⟩
  ·exact .inr (I.base.there b o' q' (nx b))
  ·exact .inr ⟨_,(I.pin p hp).1⟩
theorem Arr.land0 {a : Addr} {cls : Value} {dx : Option Addr} {Q : Unit -> Shared -> Prop} {E : Value -> Shared -> Prop} {M : Model} {A : Around} (R : Arr X pins σ H a cls dx s) (hex : X.ex = []) (hfr : A.frames = some X.stack) {outer : List Env} (hst : X.stack = X.env :: outer) (hf : X.env.frame = some X.env.locals)
  (hQ : ∀ h' B a0,Firm X pins H s.heap B -> Heap.FlyingW B X.stack a cls a0 h' -> s.heap.UpToSlots h' -> Inv X pins σ H { s with heap:=h' } -> Q () { s with heap:=h' }) :
  wpAny M A (noteFrame (.ref a) X.env) (λ_ s₂=>wpAny M A (setFlight (.ref a) none) Q E s₂) E s:=by
 obtain ⟨B,a0,fm,st,hb,ff,alt⟩:=R.fly
 have after : ∀ h4,Heap.HeldW B X.stack a cls a0 X.env.locals h4 -> s.heap.UpToSlots h4 -> wpAny M A (setFlight (.ref a) none) Q E { s with heap:=h4 }:=λh4 hh sm=>by
  refine wpAny_landsW (s:={ s with heap:=h4 }) hh λh5 fl sm5=>?_
  have sm' : s.heap.UpToSlots h5:=sm.trans sm5
  exact hQ h5 B a0 fm fl sm' (R.inv.flown (t' := s.toks) hex fm fl.1 sm')
 rw [hst] at hfr
 rw [hst] at ff
 rcases alt with ⟨oe,vs,he,hc,hd,h0,h1⟩ | tr
 ·subst hc
  have hsz : 1 < vs.size:=(Array.getElem?_eq_some_iff.mp h1).1
  unfold noteFrame
  simp only [hf]
  refine wpAny_bind (wpAny_field he hd h1 ?_)
  rw [if_neg (by decide)]
  refine wpAny_entryW hfr ff hf he st hb hd hsz h0 λh4 hN=>?_
  obtain ⟨k1,k2,k3,k4⟩:=hN
  exact after h4 (by rw [hst]; exact ⟨k1,hb,k2,k3⟩) k4
 ·exact wpAny_looks_onW hfr hf ⟨st,hb,ff,tr⟩ λh4 hh sm=>after h4 (by rw [hst]; exact hh) sm
theorem Arr.land {a : Addr} {cls : Value} {dx : Option Addr} {Q : Unit -> Shared -> Prop} {E : Value -> Shared -> Prop} {M : Model} {A : Around} (R : Arr X pins σ H a cls dx s) (hex : X.ex = []) (hfr : A.frames = some X.stack) {outer : List Env} (hst : X.stack = X.env :: outer) (hf : X.env.frame = some X.env.locals)
  (hQ : ∀ h' B a0,Firm X pins H s.heap B -> Heap.FlyingW B X.stack a cls a0 h' -> s.heap.UpToSlots h' -> Inv X pins σ H { s with heap:=h' } -> (∃ ob,h'.get? a = some ob /\ ob.dict = dx) -> Q () { s with heap:=h' }) :
  wpAny M A (noteFrame (.ref a) X.env) (λ_ s₂=>wpAny M A (setFlight (.ref a) none) Q E s₂) E s:=by
 refine wpAny_mono (yez (zh4 _ _) (DkH.refl _) (R.land0 (E:=E) (Q:=λ_ s' => ∃ h' B a0,s' = { s with heap:=h' } /\ Firm X pins H s.heap B /\ Heap.FlyingW B X.stack a cls a0 h' /\ s.heap.UpToSlots h' /\ Inv X pins σ H { s with heap:=h' }) hex hfr hst hf λh' B a0 z1 z2 z3 z4=>⟨h',B,a0,rfl,z1,z2,z3,z4⟩)) (λ_ s2 h2=>?_) λ_ _ z=>z
 refine wpAny_mono (yez (zdb _ _) h2.2 h2.1) (λ_ s3 h3=>?_) λ_ _ z=>z
 obtain ⟨⟨h',B,a0,rfl,z1,z2,z3,z4⟩,dk⟩:=h3
 obtain ⟨ob,e1,e2⟩:=R.dic
 obtain ⟨ob',e3,e4⟩:=dk a ob e1
 exact hQ h' B a0 z1 z2 z3 z4 ⟨ob',e3,e4.trans e2⟩
theorem zdc {P : Program} {w : World} {K : PySem.W.Frag} {mg : Str -> Option Value} {base : Heap} {N : List Str} {qual : Str} {scope : Scope} {f : Addr} {cd : Value} {A : Around} {outer : List Env} {s0 : Shared} {H0 : Hp} {E : XK} {a : Addr} {cls : Value} {dx : Option Addr}
  (R : Arr (cxOf (CXE P w) P w K mg base N qual scope f cd A outer s0 H0 E) pins σ H a cls dx s) (q : E cls dx H) : (cxOf (CXE P w) P w K mg base N qual scope f cd A outer s0 H0 E).xe (.ref a) s:=by
 show wpAny _ _ (leaving _ _) _ _ s
 unfold leaving
 refine wpAny_bind (R.land (E:=λe' s'' => CXE P w outer H0 s0 E e' s'') rfl R.inv.ok.frames rfl rfl λh' B a0 fm fl sm I' dk=>?_)
 have I:=R.inv
 obtain ⟨k1,k2,⟨_,_,k3⟩,k4⟩:=fl
 refine ⟨a,cls,a0,dx,H,B,rfl,I'.os,I'.bare,I'.base,I'.hok,⟨k1,k2,k3,k4⟩,λb o e nb alt=>?_,R.un,R.new,dk,q⟩
 have nstk : b ∉ frs (cxOf (CXE P w) P w K mg base N qual scope f cd A outer s0 H0 E).stack:=by
  rcases alt with ⟨u,z⟩ | ⟨o',z⟩
  ·exact I.nofrT z
  ·exact I.nofr z nb
 have there : ∃ o1,s.heap.get? b = some o1:=by
  rcases alt with ⟨u,z⟩ | ⟨o',z⟩
  ·exact (I.hok b u z).some
  ·exact I.base.there b o' z (λz=>absurd (show b ∈ ([] : List Addr) from z) (by simp))
 obtain ⟨o1,q1⟩:=there
 have z : B.get? b = some o1:=fm b o1 q1 nstk (by
  rcases alt with ⟨u,z⟩ | ⟨o',z⟩
  ·exact .inl ⟨u,z⟩
  ·exact .inr (.inl ⟨o',z⟩))
 have z2:=k1 b o1 z
 rw [show (Heap.get? h' b) = some o from e] at z2
 cases z2
 exact z
end
def ybA (X : Cx) (Ex : St -> XK) : Prop:=∀ (pins : List (Addr × Obj)) (σ : St) (H : Hp) (s : Shared) (a : Addr) (cls : Value) (dx : Option Addr),Arr X pins σ H a cls dx s -> Ex σ cls dx H -> X.xe (.ref a) s
def ybY (CX : CXT) (X : Cx) (Ex : St -> XK) : Prop:=∀ (pins : List (Addr × Obj)) (σ : St) (H : Hp) (s : Shared) (e : Value) (s' : Shared),Inv X pins σ H s -> CX X.stack H s (Ex σ) e s' -> X.xe e s'
section
variable {P : Program} {w : World} {K : PySem.W.Frag} {mg : Str -> Option Value} {base : Heap} {N : List Str} {qual : Str} {scope : Scope} {f : Addr} {cd : Value} {A : Around} {outer : List Env} {s0 : Shared} {H0 : Hp} {E : XK}
theorem zaJ : ybA (cxOf (CXE P w) P w K mg base N qual scope f cd A outer s0 H0 E) (λ_=>E):=λ_ _ _ _ _ _ _ R q=>zdc R q
theorem zh5 : ye7 (CXE P w) (cxOf (CXE P w) P w K mg base N qual scope f cd A outer s0 H0 E) E:=λpins σ H s e s' I h=>by
 obtain ⟨a,cls,dx,H',rfl,R,q⟩:=zci (X:=cxOf (CXE P w) P w K mg base N qual scope f cd A outer s0 H0 E) I rfl h
 exact zdc R q
theorem ygK {X : Cx} : ye7 (CXE P w) X E0:=λ_ _ _ _ _ _ _ h=>by
 obtain ⟨_,_,_,_,_,_,_,_,_,_,_,_,_,_,_,_,q⟩:=h
 exact q.elim
end
section
variable {X : Cx} {x : Str} {C : Addr} {bm : List Value} {B newId initId : String} {np cpos pos : Pos} {e : Expr} {es : List Expr} {t : TA} {Ex : St -> XK}
def ygL (cls : Value) (Ex : St -> XK) (t : TA) : TS:=λ_ σ H=>t σ H λvs H1=>vs.length <= 1000 /\ Ex σ cls none H1
theorem zg5 (O : OwnCls x C bm newId X.mg X.base) (FB : ExcBaseFacts B newId initId bm) (hc : X.calm = true) (hex : X.ex = []) (hr : ybA X Ex) (hg : Gl X x) (ha : PA X (e :: es) t)
  (hdb : (x == ("__debug__" : Str)) = false:=by decide) (he : starEach (e :: es) X.env = (false,eval e X.env) :: starEach es X.env:=by rfl) (hpl : (backTo cpos (starEach es X.env)).any (·.1) = false:=by rfl) :
  PS X (.Raise (some (.Call (.Name x np) (e :: es) [] cpos)) none pos) (ygL (.ref C) Ex t):=by
 intro pins s σ H D I h
 obtain ⟨tl,NN,nm,q,bs,hdct,sn,sub,ab,col,dd,k0,k1,k2,k3,k5,mN,hC,hN,hni,T⟩:=O.obj
 refine wpAny_Raise_call_subT (C:=C) (nm:=nm) (q:=q) (N:=NN) (bs:=bs) (bm:=tl) (hdct:=hdct) (sn:=sn) (sub:=sub) (ab:=ab) (col:=col) (dd:=dd) (k0:=k0) (k1:=k1) (k2:=k2) (k3:=k3) (k5:=k5) FB (mN:=mN)
  (T.hasType FB.hasBase) (I.ok.hd hc) (by rw [he]; show (false || (backTo cpos (starEach es X.env)).any (·.1)) = false; rw [hpl]; rfl) hni (zaF I hg O.bound ⟨rfl,?_⟩ hdb)
 have hA:=ha cpos pins s σ H _ I h
 rw [he] at hA ⊢
 refine Calls.evalArgs_plain (thn hA λus s2 ⟨vs,H1,I1,r1,hl,q1⟩=>⟨rfl,?_,I1.bk _ _ hC,hN.keeps I1.bk,T.keeps I1.bk,λh' a hm=>hr pins σ H1 _ a _ none (zdN (t' := s2.toks) I1 hex hm) q1⟩)
 show us.length <= sizeLine
 rw [<- r1.length]
 exact Nat.le_trans hl (by decide)
end
section
variable {X : Cx} {CX : CXT} {k : Nat} {f C : Addr} {fd : FuncData} {ps : List Str} {sp : Sp} {dvs : List V} {ds : List Value} {Ex : St -> XK} {x m : Str} {p pos apos : Pos} {e o : Expr} {es : List Expr} {ta : TE} {t : TA}
theorem zcM {pins : List (Addr × Obj)} {σ : St} {H : Hp} {s : Shared} {Q : VK} {us : List Value} {vs : List V} (F : FnOk X.prog X.w X.K X.mg X.base CX k f fd ps sp) (hr : Room k X.A) (hb : Binds X.K fd ps ds) (hd : Vals dvs ds) (hx : ybY CX X Ex)
  (I : Inv X pins σ H s) (r : Vals vs us) (h : sp (vs++dvs) H Q (Ex σ)) : wpAny (model X.prog X.w) X.A (call (.ref f) us) (EP X pins σ Q) X.xe s:=by
 have r2 : Vals (vs++dvs) (us++ds):=r.append hd
 have hl : (us++ds).length = ps.length:=by rw [<- r2.length]; exact F.len _ _ _ _ h
 refine wpAny_call (codeAny_mono (F.run X.A X.stack s H ⟨us,[]⟩ (us++ds) (vs++dvs) Q (Ex σ) hr I.env0 (hb s us I.kIn hl) r2 h) λr s' hq=>?_)
 cases r with
 | error e=>exact hx pins σ H s e s' I hq
 | ok fl =>
  cases fl with
  | ret u=>exact I.after hq
  | next=>exact False.elim hq
  | brk=>exact False.elim hq
  | cont=>exact False.elim hq
def ygM (sp : Sp) (dvs : List V) (Ex : St -> XK) (t : TA) : TE:=λσ H Q=>t σ H λvs H1=>sp (vs++dvs) H1 Q (Ex σ)
theorem zg6 (F : FnOk X.prog X.w X.K X.mg X.base CX k f fd ps sp) (hr : Room k X.A) (hg : Gl X x) (hm : X.mg x = some (.ref f)) (hk : PySem.W.keepIn X.K (.ref f) = true) (hb : Binds X.K fd ps ds) (hd : Vals dvs ds) (hx : ybY CX X Ex)
  (ha : PA X (e :: es) t) (hdb : (x == ("__debug__" : Str)) = false:=by decide) (he : starEach (e :: es) X.env = (false,eval e X.env) :: starEach es X.env:=by rfl) (hpl : (backTo pos (starEach es X.env)).any (·.1) = false:=by rfl) :
  PE X (.Call (.Name x p) (e :: es) [] pos) (ygM sp dvs Ex t):=by
 intro pins s σ H Q I h
 refine wpAny_Call_Name_kw (zaF I hg hm ?_ hdb)
 refine PySem.W.callWith_K (h₀:=X.base) I.ok.mod.kin hk (thn (ha pos pins s σ H _ I h) λus s1 ⟨vs,H1,I1,r,q⟩=>⟨I1.kIn,?_⟩) he hpl
 exact zcM F hr hb hd hx I1 r q
def yfa (C : Addr) (m : Str) (sp : Sp) (dvs : List V) (Ex : St -> XK) (ta : TE) (t : TA) : TE:=λσ H Q=>ta σ H λx H1=>∃ a dx fs,x = .ref a /\ H1 a = some (.ins C dx fs) /\ fs.lookup m = none /\
 t σ H1 λvs H2=>sp (x :: (vs++dvs)) H2 Q (Ex σ)
theorem zg7 {pl : Sem Bool} (he : PE X o ta) (c : Cls X.K C) (hm : Meth X.K C m f) (F : FnOk X.prog X.w X.K X.mg X.base CX k f fd ps sp) (hr : Room k X.A) (hb : Binds X.K fd ps ds) (hd : Vals dvs ds) (hx : ybY CX X Ex) (ha : PA X (e :: es) t)
  (hst : starEach (e :: es) X.env = (false,eval e X.env) :: starEach es X.env:=by rfl) (hpl : (backTo pos (starEach es X.env)).any (·.1) = false:=by rfl)
  (ht : eval (.Call (.Attribute o m apos) (e :: es) [] pos) X.env = (do
   let ov <- eval o X.env
   standAt apos.atName
   let (f,first) <- holding [ov] (getMethod ov m pl)
   callWith pos f first (backTo pos (starEach (e :: es) X.env)) (backToKw pos (keywordEach [] X.env))):=by rfl) :
  PE X (.Call (.Attribute o m apos) (e :: es) [] pos) (yfa C m sp dvs Ex ta t):=by
 intro pins s σ H Q I h
 refine PySem.W.methodCall_KW (pl:=pl) (thn (he pins s σ H _ I h) λu s1 ⟨x,H1,I1,rx,a,dx,fs,ex,ea,l,q⟩=>?_) ht
 subst ex
 obtain rfl : u = Value.ref a:=rx
 refine zcx I1 ea c hm l ?_
 refine PySem.W.callWith_K (first:=[.ref a]) (h₀:=X.base) I.ok.mod.kin hm.kp (thn (ha pos pins s1 σ H1 _ I1 q) λus s2 ⟨vs,H2,I2,r,q2⟩=>⟨I2.kIn,?_⟩) hst hpl
 exact zcM (us:=.ref a :: us) (vs:=.ref a :: vs) F hr hb hd hx I2 (.cons rfl r) q2
end
abbrev tryC (X : Cx) (pins : List (Addr × Obj)) (xe : Value -> Shared -> Prop) : Cx:={ X with pn:=X.pn++pins,xe:=xe }
abbrev hdlC (X : Cx) (a : Addr) : Cx:={ X with A:=X.A.mark (some (.ref a)),calm:=false,xe:=λ_ _=>False }
def excO (a : Addr) (cls : Value) (dx : Option Addr) : HO:=.ext λh=>∃ ob vs,h.get? a = some ob /\ ob.cls = cls /\ ob.data = .fields vs /\ ob.dict = dx
section
variable {X : Cx} {pins pins' : List (Addr × Obj)} {σ : St} {H : Hp} {s : Shared} {xe : Value -> Shared -> Prop}
theorem Cx.Ok.tryC (ok : X.Ok) : (tryC X pins xe).Ok:=⟨ok.mod,ok.kind,ok.glob,ok.blt,ok.above,ok.inj,ok.has,ok.cab,ok.hd,ok.frames,ok.stk,ok.exf,ok.bs,ok.bsz,ok.noex,ok.exfs,ok.funs,ok.frf⟩
theorem Cx.Ok.untry (ok : (L2.tryC X pins xe).Ok) : X.Ok:=⟨ok.mod,ok.kind,ok.glob,ok.blt,ok.above,ok.inj,ok.has,ok.cab,ok.hd,ok.frames,ok.stk,ok.exf,ok.bs,ok.bsz,ok.noex,ok.exfs,ok.funs,ok.frf⟩
theorem Cx.Ok.hdl (ok : X.Ok) (a : Addr) : (hdlC X a).Ok:=⟨ok.mod,ok.kind,ok.glob,ok.blt,ok.above,ok.inj,ok.has,ok.cab,λz=>(nomatch z),ok.frames,ok.stk,ok.exf,ok.bs,ok.bsz,ok.noex,ok.exfs,ok.funs,ok.frf⟩
theorem Inv.toTry (I : Inv X pins σ H s) : Inv (tryC X pins xe) [] σ H s:=⟨I.ok.tryC,I.os,I.bare,I.base,I.loc,I.cell,I.free,I.freeC,λp hp=>I.pin p (by simpa using hp),I.hok,I.len⟩
theorem Inv.untry (I : Inv (tryC X pins xe) pins' σ H s) : Inv X pins σ H s:=⟨I.ok.untry,I.os,I.bare,I.base,I.loc,I.cell,I.free,I.freeC,λp hp=>I.pin p (List.mem_append_left _ hp),I.hok,I.len⟩
theorem Inv.hdl (I : Inv X pins σ H s) (a : Addr) : Inv (hdlC X a) pins σ H s:=⟨I.ok.hdl a,I.os,I.bare,I.base,I.loc,I.cell,I.free,I.freeC,I.pin,I.hok,I.len⟩
theorem Inv.unhdl {a : Addr} (I : Inv (hdlC X a) pins σ H s) (ok : X.Ok) : Inv X pins σ H s:=⟨ok,I.os,I.bare,I.base,I.loc,I.cell,I.free,I.freeC,I.pin,I.hok,I.len⟩
theorem Arr.untry {a : Addr} {cls : Value} {dx : Option Addr} (R : Arr (tryC X pins xe) pins' σ H a cls dx s) : Arr X pins σ H a cls dx s:=by
 obtain ⟨B,a0,fm,r⟩:=R.fly
 refine ⟨R.inv.untry,R.un,R.new,R.nl,R.nc,λp hp=>R.np p (List.mem_append_left _ hp),R.dic,B,a0,λb o q nb alt=>fm b o q nb ?_,r⟩
 rcases alt with z | z | ⟨p,hp,e⟩
 ·exact .inl z
 ·exact .inr (.inl z)
 ·exact .inr (.inr ⟨p,List.mem_append_left _ hp,e⟩)
theorem za8 {M : Model} {A : Around} {E : Value -> Shared -> Prop} {n : Str} {i : Nat} {pos : Pos} {Q : Unit -> Shared -> Prop} (I : Inv X pins σ H s) (hN : X.N.Nodup) (hi : X.N[i]? = some n) (hk : X.env.scope.names.lookup n = some .local)
  (h : ∀ s',Inv X pins (σ.set i none) H s' -> Q () s') : wpAny M A (do bindName X.env n .none; unbindBehindTheSuite X.env n pos) Q E s:=by
 obtain ⟨m,hn,hl⟩:=id I.loc
 refine wpAny_nameGoes_keeps hk hn (by rw [I.ok.kind]; rfl) λh' v hn' hs=>h _ ?_
 have cne:=I.cne
 refine ⟨I.ok,I.os,I.bare,Un.sameBut I.base (Heap.get?_none_of_le I.ok.above) hs,⟨_,hn',λj y v' e1 e2 e3=>?_⟩,λy c e=>?_,I.free,I.freeC,λp hp=>?_,I.hok.sameBut I.free hs,by simpa using I.len⟩
 ·by_cases hj : j = i
  ·subst hj
   by_cases hlt : j < σ.length
   ·rw [List.getElem?_set_self hlt] at e2; cases e2
   ·rw [List.getElem?_eq_none (by simpa using hlt)] at e2; cases e2
  ·rw [List.getElem?_set_ne (Ne.symm hj)] at e2
   obtain ⟨u',r',q⟩:=hl j y v' e1 e2 e3
   refine ⟨u',r',?_⟩
   rcases q with ⟨k,e⟩ | ⟨k,c,e,z⟩
   ·refine .inl ⟨k,?_⟩
    have ne : y ≠ n:=λe=>hj (zbl hN e1 (e ▸ hi))
    simp [ne,e]
   ·exact .inr ⟨k,c,e,z.sameBut hs (cne y c e)⟩
 ·obtain ⟨w',z⟩:=I.cell y c e
  exact ⟨w',z.sameBut hs (cne y c e)⟩
 ·obtain ⟨e,nn,ne,nf,d⟩:=I.pin p hp
  exact ⟨(hs.2 p.1 ne).trans e,nn,ne,nf,d⟩
end
theorem zdO {M : Model} {A : Around} {E : Value -> Shared -> Prop} {s : Shared} {B : Heap} {l : List Env} {e : Addr} {cls a0 : Value} {dx : Option Addr} {Q : Unit -> Shared -> Prop} (hh : Heap.FlyingW B l e cls a0 s.heap) (dk : ∃ ob,s.heap.get? e = some ob /\ ob.dict = dx)
  (hQ : ∀ h',Heap.FlyingW B l e cls a0 h' -> s.heap.UpToSlots h' -> (∃ ob,h'.get? e = some ob /\ ob.dict = dx) -> Q () { s with heap:=h' }) : wpAny M A (setFlight (.ref e) none) Q E s:=by
 refine wpAny_mono (yez (zdb _ _) (DkH.refl _) (lands_againW (E:=E) (Q:=λ_ s' => ∃ h',s' = { s with heap:=h' } /\ Heap.FlyingW B l e cls a0 h' /\ s.heap.UpToSlots h') hh λh' z1 z2=>⟨h',rfl,z1,z2⟩)) (λ_ s3 h3=>?_) λ_ _ z=>z
 obtain ⟨⟨h',rfl,z1,z2⟩,d⟩:=h3
 obtain ⟨ob,e1,e2⟩:=dk
 obtain ⟨ob',e3,e4⟩:=d e ob e1
 exact hQ h' z1 z2 ⟨ob',e3,e4.trans e2⟩
def tTry (K : PySem.W.Frag) (i : Nat) (C : Addr) (tb : (St -> XK) -> TS) (th : TS) : TS:=λD σ H =>
 tb (λσ' cls dx H' => PySem.W.exmOne K cls (.ref C) = some true /\ ∀ a,H' a = none -> th { nx:=λσ2 H2=>D.nx (σ2.set i none) H2,rt:=D.rt,bk:=λσ2 H2=>D.bk (σ2.set i none) H2,ct:=λσ2 H2=>D.ct (σ2.set i none) H2 } (σ'.set i (some (.ref a))) (upd H' a (excO a cls dx))) D σ H
theorem za2 {M : Model} {h : Heap} {a : Addr} {ob : Obj} (e : h.get? a = some ob) : PySem.W.Looks M h (typeOf (.ref a)) ob.cls:=(PySem.W.Looks.ld e).andThen .now
section
variable {X : Cx} {xc n : Str} {C : Addr} {i : Nat} {body suite : List Stmt} {b0 : Stmt} {np hpos pos : Pos} {tb : (St -> XK) -> TS} {th : TS} {outer : List Env}
theorem ygN (hex : X.ex = []) (hst : X.stack = X.env :: outer) (hf : X.env.frame = some X.env.locals) (hN : X.N.Nodup) (hi : X.N[i]? = some n) (hl : X.env.scope.names.lookup n = some .local) (hg : Gl X xc) (hm : X.mg xc = some (.ref C))
  (hb : ∀ pins xe Ex,ybY (CXE X.prog X.w) (tryC X pins xe) Ex -> ybA (tryC X pins xe) Ex -> PSs (tryC X pins xe) body (tb Ex)) (hh : ∀ a,PSs (hdlC X a) (b0 :: suite) th) (hdb : (xc == ("__debug__" : Str)) = false:=by decide) :
  PS X (.Try body [.ExceptHandler (some (.Name xc np)) (some n) (b0 :: suite) hpos] [] [] pos) (tTry X.K i C tb th):=by
 intro pins s σ H D I h
 have okX:=I.ok
 let Ex : St -> XK:=λσ' cls dx H' => PySem.W.exmOne X.K cls (.ref C) = some true /\ ∀ a,H' a = none -> th { nx:=λσ2 H2=>D.nx (σ2.set i none) H2,rt:=D.rt,bk:=λσ2 H2=>D.bk (σ2.set i none) H2,ct:=λσ2 H2=>D.ct (σ2.set i none) H2 } (σ'.set i (some (.ref a))) (upd H' a (excO a cls dx))
 let xe : Value -> Shared -> Prop:=λe s' => ∃ σ' H' a cls dx,e = .ref a /\ Arr X pins σ' H' a cls dx s' /\ Ex σ' cls dx H'
 have hR : ybA (tryC X pins xe) Ex:=λpins' σ' H' s' a cls dx R q=>⟨σ',H',a,cls,dx,rfl,R.untry,q⟩
 have hP : ybY (CXE X.prog X.w) (tryC X pins xe) Ex:=λpins' σ' H' s1 e s2 I' hq=>by
  obtain ⟨a,cls,dx,H2,rfl,R,q⟩:=zci (X:=tryC X pins xe) I' hex hq
  exact ⟨σ',H2,a,cls,dx,rfl,R.untry,q⟩
 have hbody:=hb pins xe Ex hP hR [] s σ H D (I.toTry (xe:=xe)) h
 refine wpAny_Try_except (wpAny_mono hbody (λf s1 q=>?_) λe s1 q=>?_)
 ·cases f with
  | next=>obtain ⟨σ1,H1,I1,q1⟩:=q; exact wpAny_execs_nil ⟨σ1,H1,I1.untry,q1⟩
  | brk=>obtain ⟨σ1,H1,I1,q1⟩:=q; exact ⟨σ1,H1,I1.untry,q1⟩
  | cont=>obtain ⟨σ1,H1,I1,q1⟩:=q; exact ⟨σ1,H1,I1.untry,q1⟩
  | ret u=>obtain ⟨v1,σ1,H1,I1,r1,q1⟩:=q; exact ⟨v1,σ1,H1,I1.untry,r1,q1⟩
 ·obtain ⟨σ1,H1,a,cls,dx,rfl,R,hxm,q1⟩:=q
  refine R.land hex okX.frames hst hf λh5 B a0 fm fl sm I5 dk=>?_
  obtain ⟨oe,vs,hoe,hoec,hoed,_⟩:=fl.first
  have I5h:=I5.hdl a
  refine wpAny_handleBy_cons (codeAny_handlers_test (zaF (X:=hdlC X a) I5h hg hm ?_ hdb)) (by intro z; cases z)
  refine (PySem.W.exm_one I5.kIn (hoec ▸ za2 hoe) hxm).here ?_
  refine codeAny_handlers_suite_as ?_
  refine zdO fl dk λh6 fl6 sm6 dk6=>?_
  have I6 : Inv X pins σ1 H1 { s1 with heap:=h6 }:=R.inv.flown (t' := s1.toks) hex fm fl6.1 (sm.trans sm6)
  obtain ⟨oe6,vs6,hoe6,hoec6,hoed6,_⟩:=fl6.first
  have I7 : Inv X pins σ1 (upd H1 a (excO a cls dx)) { s1 with heap:=h6 }:=I6.adopt0 R.un R.new R.nl R.nc R.np
   ⟨⟨oe6,vs6,hoe6,hoec6,hoed6,by obtain ⟨ob,e1,e2⟩:=dk6; rw [show h6.get? a = some oe6 from hoe6] at e1; cases e1; exact e2⟩,⟨oe6,hoe6⟩,λg1 g2 ⟨ob,ws,z1,z2,z3⟩ k=>⟨ob,ws,k ob z1,z2,z3⟩⟩
  refine zbm (X:=hdlC X a) (I7.hdl a) hN hi (.inl hl) (v:=.ref a) rfl (λs8 I8=>?_) (.inr hl)
  refine wpAny_mono (hh a pins s8 _ _ _ I8 (q1 a R.un)) (λf s9 q9=>?_) λ_ _ z=>z.elim
  cases f with
  | next=>obtain ⟨σ2,H2,I2,q2⟩:=q9; exact za8 (I2.unhdl okX) hN hi hl λs' I' => ⟨_,H2,I',q2⟩
  | brk=>obtain ⟨σ2,H2,I2,q2⟩:=q9; exact za8 (I2.unhdl okX) hN hi hl λs' I' => ⟨_,H2,I',q2⟩
  | cont=>obtain ⟨σ2,H2,I2,q2⟩:=q9; exact za8 (I2.unhdl okX) hN hi hl λs' I' => ⟨_,H2,I',q2⟩
  | ret u=>obtain ⟨v2,σ2,H2,I2,r2,q2⟩:=q9; exact za8 (I2.unhdl okX) hN hi hl λs' I' => ⟨v2,_,H2,I',r2,q2⟩
end
section
variable {P : Program} {w : World} {K : PySem.W.Frag} {mg : Str -> Option Value} {base : Heap}
theorem Fun.okE {x qual : Str} {st : Stmt} {f : Addr} {fd : FuncData} {N ps : List Str} {k : Nat} {sp : Sp} (F : Fun K x qual st f fd) (S : FnScope N ps (yae st)) (len : ∀ vs H Q E,sp vs H Q E -> vs.length = ps.length)
  (hbody : ∀ (cdv : Value) (A : Around) (outer : List Env) (s : Shared) (H : Hp) (vs : List V) (Q : VK) (E : XK),Room k (A.deeper (envOfC qual (yae st) s.heap.objs.size f cdv)) -> sp vs H Q E ->
   ∃ t,PSs (cxOf (CXE P w) P w K mg base N qual (yae st) f cdv A outer s H E) (ybd st) t /\ t { nx:=λ_ H' => Q .non H',rt:=Q } (start N vs) H) : FnOk P w K mg base (CXE P w) (k + 1) f fd ps sp:=by
 obtain ⟨oc,od,kV,doc,pm,an,cdv,ct,osl,rfl,lk,hcd⟩:=F.ex
 exact yhS lk hcd S len λA outer s H vs Q E hr hsp=>hbody cdv A outer s H vs Q E hr hsp
end
end L2
namespace L2
open PySem PySem.Spec PyProof.Rows
open PySem.W (Frag Looks looks_findIn looks_specialIn looks_takesIn looks_mroIn findIn specialIn takesIn mroIn clsIn KitX kitOne kitAny kia_one kia_tup)
open PySem.Calls Builtin Builtin.ObjectAttr Builtin.Getset_descriptor
structure ExcK (K : Frag) (C : Addr) : Prop where
 cl : (clsIn K C).isSome = true
 ga : findIn K (.ref C) "__getattribute__" = some (some (.builtin "BaseException.__getattribute__"))
 gh : findIn K (.ref C) "__getattr__" = some none
 ca : findIn K (.ref C) "__class__" = some (some (.builtin "object.__class__"))
 cg : specialIn K (.builtin "object.__class__") "__get__" = some (some (.builtin "getset_descriptor.__get__"))
 ct : takesIn K (.builtin "object.__class__") = some true
 mo : mroIn K C (.type "object") = some true
 mb : mroIn K C (.type "BaseException") = some true
def ExcAt (a C : Addr) (h : Heap) : Prop:=∃ ob vs,h.get? a = some ob /\ ob.cls = .ref C /\ ob.data = .fields vs
section
variable {prog : Program} {w : World} {A : Around} {K : Frag} {a C : Addr}
theorem ExcAt.ty {M : Model} {h : Heap} (x : ExcAt a C h) : Looks M h (typeOf (.ref a)) (.ref C):=by
 obtain ⟨ob,vs,e,c,_⟩:=x
 exact c ▸ za2 e
theorem zbg {tp : Value} {s : Shared} {R : Result -> Shared -> Prop} (X : K.In s.heap) (Z : ExcK K C) (I : ExcAt a C s.heap) (q : R (.ok (.ret (.ref C))) s) :
  codeAny (model prog w) A (.call (.builtin "getset_descriptor.__get__") ⟨[.builtin "object.__class__",.ref a,tp],[]⟩) R s:=by
 obtain ⟨hp,gg,dd,tt,oo⟩:=s
 have La:=I.ty (M:=model prog w)
 have Lb:=looks_mroIn (M:=model prog w) X Z.mo
 refine codeAny_call_builtin PySem.W.KF.slot_gs.plain PySem.W.KF.entry_gs (PySem.W.KF.slot_gs.check _ _ _ _ _ _ _ _ PySem.W.KF.type_class (PySem.W.KF.args_gs _ _ _) ?_)
 unfold Builtin.«getset_descriptor.__get__» descrGet
 rw [PySem.W.dga_obj]
 refine wpAny_bind (wpAny_pure ?_)
 unfold descrGetter descrCheckInstance descrNameAndClass isInstance
 simp only [PySem.W.KF.owner_class]
 repeat lk
 refine ⟨Code.quiet_builtin _ (by decide +kernel),codeAny_builtin PySem.W.KF.entry_class ?_⟩
 unfold Builtin.«object.__class__» shownTypeOf
 repeat lk
 exact q
theorem zg8 {M : Model} {h : Heap} {x : Value} (X : K.In h) (Z : ExcK K C) : Looks M h (find x (.ref C) "__class__") (.bind (.builtin "getset_descriptor.__get__") (.builtin "object.__class__")):=by
 have l1:=looks_findIn (M:=M) X Z.ca
 have l2 : Looks M h (getOf (some (.builtin "object.__class__"))) (some (.builtin "getset_descriptor.__get__")):=looks_specialIn X Z.cg
 have l3:=looks_takesIn (M:=M) X Z.ct
 exact l1.andThen (l2.andThen ((show Looks M h (dataDescriptor? (some (.builtin "object.__class__")) (some (.builtin "getset_descriptor.__get__"))) (some (.builtin "getset_descriptor.__get__",.builtin "object.__class__")) from l3.andThen .now).andThen (Looks.tag .now)))
theorem zf6 {tk : Tok} {s : Shared} {Q : Fin -> Shared -> Prop} {E : Value -> Shared -> Prop} (X : K.In s.heap) (Z : ExcK K C) (I : ExcAt a C s.heap) (q : Q (.done (.ret (.ref C))) s) :
  wpAny (model prog w) A (Builtin.«object.__getattribute__» ⟨[.ref a,.str "__class__" tk],[]⟩) Q E s:=by
 obtain ⟨hp,gg,dd,tt,oo⟩:=s
 have La:=I.ty (M:=model prog w)
 have Lf:=zg8 (M:=model prog w) (x:=.ref a) X Z
 refine wpAny_bind (wpAny_pure ?_)
 refine wpAny_bind (wpAny_pure ?_)
 refine wpAny_bind (La.at (wpAny_bind (Lf.at ?_)))
 unfold bindTo
 first
  | exact wpAny_bind (wpAny_call (zbg X Z I (wpAny_pure q)))
  | exact wpAny_bind (wpAny_holding (wpAny_call (zbg X Z I (wpAny_pure q))))
  | exact wpAny_bind (wpAny_holding (wpAny_call (zbg X Z I q)))
theorem zf7 {nm : Value} {s : Shared} {M : Model} {Q : Unit -> Shared -> Prop} {E : Value -> Shared -> Prop} (X : K.In s.heap) (Z : ExcK K C) (I : ExcAt a C s.heap) (q : Q () s) :
  wpAny M A (checkBuiltinCall "BaseException.__getattribute__" ⟨[.ref a,nm],[]⟩) Q E s:=by
 obtain ⟨hp,gg,dd,tt,oo⟩:=s
 have k1 : builtinKind "BaseException.__getattribute__" = some .slot:=by decide +kernel
 have k2 : splitId "BaseException.__getattribute__" = some ("BaseException", "__getattribute__"):=by decide +kernel
 have k3:=F.args_bexc_ga (.ref a) nm
 have La:=I.ty (M:=M)
 have Lb:=looks_mroIn (M:=M) X Z.mb
 have Li : Looks M hp (isInstance (.ref a) (.type "BaseException")) true:=La.andThen Lb
 simp only [checkBuiltinCall,k1,k2]
 refine wpAny_bind (Li.at ?_)
 repeat lk
 exact q
theorem ygO {tk : Tok} {s : Shared} {Q : Value -> Shared -> Prop} {E : Value -> Shared -> Prop} (X : K.In s.heap) (Z : ExcK K C) (I : ExcAt a C s.heap) (q : Q (.ref C) s) :
  wpAny (model prog w) A (getAttrBy (.ref a) (.str "__class__" tk) false) Q E s:=by
 obtain ⟨hp,gg,dd,tt,oo⟩:=s
 have La:=I.ty (M:=model prog w)
 have Lg:=looks_findIn (M:=model prog w) X Z.ga
 have Lh:=looks_findIn (M:=model prog w) X Z.gh
 have f3:=F.attrBase_ValueError.ga.bind (.ref a)
 unfold getAttrBy
 refine wpAny_holding (wpAny_bind (La.at (wpAny_bind (Lg.at ?_))))
 show wpAny _ _ (getAttrByItsOwn _ _ _ _ _ _) _ _ _
 unfold getAttrByItsOwn
 refine wpAny_bind ((show Looks _ hp (hookBefore (.ref C)) none from Lh).at ?_)
 refine wpAny_bind (wpAny_attempt (wpAny_holding ?_))
 show wpAny _ _ (boundAndCalled _ _ _) _ _ _
 unfold boundAndCalled
 rw [f3]
 refine wpAny_bind (wpAny_pure ?_)
 refine wpAny_call (codeAny_call_builtin F.attrBase_ValueError.ga.plain F.entry_bexc_ga (zf7 X Z I (zf6 X Z I ?_)))
 repeat lk
 exact q
theorem zg9 {s : Shared} {Q : Option Value -> Shared -> Prop} {E : Value -> Shared -> Prop} (X : K.In s.heap) (Z : ExcK K C) (I : ExcAt a C s.heap) (q : Q (some (.ref C)) { s with toks:=s.toks + 1 }) :
  wpAny (model prog w) A (getAttr? (.ref a) "__class__") Q E s:=by
 unfold getAttr? getAttrBy?
 exact wpAny_bind (wpAny_mkText (wpAny_bind (wpAny_attempt (ygO (s:={ s with toks:=s.toks + 1 }) X Z I (wpAny_pure q)))))
theorem zha (Z : ExcK K C) : KitX K (.ref a) (.ref C) (ExcAt a C) where
 ty:=λ_ _ _ I=>I.ty
 it:=λ_ _ X _=>by
  have z:=Z.cl
  unfold clsIn at z
  split at z
  ·rename_i ho
   intro A' Q' E' s' k q
   unfold isType loadHead
   exact wpAny_bind (wpAny_loadPart (k _ _ (X _ _ ho)) (wpAny_pure q))
  ·cases z
 ne:=λhp tp dd its n sl X htp=>by
  refine Bool.eq_false_iff.mpr λq=>?_
  have e : C = tp:=Value.ref.inj (beq_iff_eq.mp q)
  subst e
  have z:=Z.cl
  unfold clsIn at z
  split at z
  ·rename_i ho
   have zz:=(X _ _ ho).symm.trans htp
   cases zz
  ·cases z
 ca:=λX I k=>zg9 X Z I k
end
section
variable {X : Cx}
theorem zh6 {P : Program} {w : World} {H : Hp} {h : Heap} {a C : Addr} {dx : Option Addr} (x : ObjOk P w H h a (excO a (.ref C) dx)) : ExcAt a C h:=by
 obtain ⟨⟨ob,vs,z1,z2,z3,_⟩,_⟩:=x
 exact ⟨ob,vs,z1,z2,z3⟩
theorem zhb {c : V} {cv : Value} (rc : ∀ u,RelV c u -> u = cv) :
  CallR X (.builtin "isinstance") (λxs H Q=>∃ (a D : Addr) (r : Bool),xs = [.ref a,c] /\ (∃ dx,H a = some (excO a (.ref D) dx)) /\ ExcK X.K D /\ kitOne X.K (.ref D) cv = some r /\ Q (.bl r) H):=by
 intro pins s σ H xs us Q I r h
 obtain ⟨a,D,b,rfl,⟨dx,ha⟩,Z,hk,q⟩:=h
 obtain ⟨u,w',rfl,rx,ry⟩:=ydW r
 obtain rfl:=rc _ ry
 obtain rfl : u = Value.ref a:=rx
 exact kia_one (zha Z) I.kIn (zh6 (I.hok a _ ha)) hk (by intro z; cases z) λtk=>⟨.bl b,H,I.tok _,rfl,q⟩
end
end L2
namespace L2
open PySem PySem.Spec PyProof.Rows
theorem zhc {K : PySem.W.Frag} {hp : Heap} {g : Str -> Option Value} {nm : Str} {Ca : Addr} {bb : List Value} {nid : String} (Z : K.In hp) (hb : g nm = some (.ref Ca)) (ok : PySem.W.excIn K Ca bb nid = true) : OwnCls nm Ca bb nid g hp:=by
 refine ⟨hb,?_⟩
 unfold PySem.W.excIn at ok
 split at ok
 ·rename_i dA cA sA hA
  split at ok
  ·rename_i D' tl w0 w1 w2 w3 bn w5 eM eS
   simp only [Bool.and_eq_true,beq_iff_eq,Bool.not_eq_true'] at ok
   obtain ⟨⟨⟨⟨⟨rfl,rfl⟩,e1⟩,e2⟩,e3⟩,e4⟩:=ok
   obtain ⟨f1,f2,f3,f4,f5,f6,f7,f8,f9,f10,f11⟩:=cA
   dsimp only at eM e1 e3 e4
   subst eM e1
   have eA : sA = #[w0,w1,w2,w3,some (.builtin bn),w5]:=by
    obtain ⟨ll⟩:=sA
    simp only at eS
    rw [eS]
   subst eA
   refine ⟨tl,f4,f1,f5,f2,f6,f7,f8,f9,f10,dA,w0,w1,w2,w3,w5,_,Z _ _ hA,.of_isNs (PySem.W.isNs_of_in Z e3),?_,PySem.W.tail_of_in Z e2⟩
   exact PySem.W.nsMap_none_of_in Z e3 e4
  ·cases ok
 ·cases ok
mutual
inductive DaV (K : PySem.W.Frag) (H : Hp) : V -> PyData -> Prop
 | non : DaV K H .non .none
 | bl (b) : DaV K H (.bl b) (.bool b)
 | int (i) : DaV K H (.int i) (.int i)
 | str (x) : DaV K H (.str x) (.str x)
 | lst {a xs ds} : SqL K H a xs -> DaVs K H xs ds -> DaV K H (.ref a) (.list ds)
 | tup {a xs ds} : SqT K H a xs -> DaVs K H xs ds -> DaV K H (.ref a) (.tuple ds)
inductive DaVs (K : PySem.W.Frag) (H : Hp) : List V -> List PyData -> Prop
 | nil : DaVs K H [] []
 | cons {x xs d ds} : DaV K H x d -> DaVs K H xs ds -> DaVs K H (x :: xs) (d :: ds)
end
section
variable {X : Cx} {pins : List (Addr × Obj)} {σ : St} {H : Hp} {s : Shared}
mutual
theorem DaV.reads (I : Inv X pins σ H s) : ∀ {x : V} {d : PyData} {u : Value},DaV X.K H x d -> RelV x u -> ∃ as,Reads s.heap u d as
 | _,_,_,.non,r=>by cases r; exact ⟨_,.none⟩
 | _,_,_,.bl b,r=>by cases r; exact ⟨_,.bool b⟩
 | _,_,_,.int i,r=>by obtain ⟨t,rfl⟩:=r; exact ⟨_,.int i t⟩
 | _,_,_,.str x,r=>by obtain ⟨t,rfl⟩:=r; exact ⟨_,.str x t⟩
 | _,_,_,.lst (a:=a) h1 h2,r=>by
  cases r
  obtain ⟨its,rv,⟨o,n,e1,e2,e3⟩,_⟩:=I.list h1
  obtain ⟨as,q⟩:=DaVs.reads I h2 rv
  exact ⟨_,.list (vs:=its.toArray) (n:=n) e1 (by first | exact e2.1 | exact e2) (by first | exact e2.2.2 | exact e2.2 | exact e3 | exact e3.2) (by simpa using q)⟩
 | _,_,_,.tup (a:=a) h1 h2,r=>by
  cases r
  obtain ⟨its,rv,⟨o,e1,e2,n,e3⟩,_⟩:=I.tuple h1
  obtain ⟨as,q⟩:=DaVs.reads I h2 rv
  exact ⟨_,.tuple (vs:=its.toArray) (n:=n) e1 e2 e3 (by simpa using q)⟩
theorem DaVs.reads (I : Inv X pins σ H s) : ∀ {xs : List V} {ds : List PyData} {us : List Value},DaVs X.K H xs ds -> Vals xs us -> ∃ as,ReadsAll s.heap us ds as
 | _,_,_,.nil,r=>by cases r; exact ⟨_,.nil⟩
 | _,_,_,.cons h1 h2,r=>by
  cases r with
  | cons r1 r2 =>
   obtain ⟨as,q1⟩:=DaV.reads I h1 r1
   obtain ⟨bs,q2⟩:=DaVs.reads I h2 r2
   exact ⟨_,.cons q1 q2⟩
end
def rEqD (K : PySem.W.Frag) : R2:=λx y H Q=>∃ d e,DaV K H x d /\ DaV K H y e /\ d.canLay0 = true /\ e.canLay0 = true /\ d.depth <= 60 /\ Q (.bl (PyData.eqv d e)) H
def rNeD (K : PySem.W.Frag) : R2:=λx y H Q=>∃ d e,DaV K H x d /\ DaV K H y e /\ d.canLay0 = true /\ e.canLay0 = true /\ d.depth <= 60 /\ Q (.bl (!PyData.eqv d e)) H
theorem yfb (hu : X.A.units + 64 < cLine) : OpR X (compareOp .Eq) (rEqD X.K):=by
 intro pins s σ H x y v u Q I rx ry h
 obtain ⟨d,e,h1,h2,c1,c2,dp,q⟩:=h
 obtain ⟨as,r1⟩:=h1.reads I rx
 obtain ⟨bs,r2⟩:=h2.reads I ry
 exact SeqAt.compareEq_reads r1 r2 c1 c2 (by have:=Nat.min_le_left d.depth e.depth; omega) ⟨.bl _,H,I,rfl,q⟩
theorem yfc (hu : X.A.units + 64 < cLine) : OpR X (compareOp .NotEq) (rNeD X.K):=by
 intro pins s σ H x y v u Q I rx ry h
 obtain ⟨d,e,h1,h2,c1,c2,dp,q⟩:=h
 obtain ⟨as,r1⟩:=h1.reads I rx
 obtain ⟨bs,r2⟩:=h2.reads I ry
 exact SeqAt.compareNe_reads r1 r2 c1 c2 (by have:=Nat.min_le_left d.depth e.depth; omega) ⟨.bl _,H,I,rfl,q⟩
end
theorem hu64 {A : Around} {k : Nat} (hr : Room k A) : A.units + 64 < cLine:=by
 have:=hr.un
 omega
def yh2 (K : PySem.W.Frag) : R2:=λx y H Q=>∃ l b xs zs,x = .ref l /\ y = .ref b /\ SqL K H l xs /\ SqL K H b zs /\ xs.length + zs.length <= sizeLine /\ ∀ p,H p = none -> Q (.ref p) (upd H p (.lst (xs++zs)))
theorem zh7 {X : Cx} : OpR X (binaryOp .Add) (yh2 X.K):=by
 intro pins s σ H x y v u Q I rx ry h
 obtain ⟨l,b,xs,zs,rfl,rfl,hH,hB,hz,q⟩:=h
 cases rx
 cases ry
 obtain ⟨its,r,⟨o,n,e1,e2,e3,e4⟩,z⟩:=I.list hH
 obtain ⟨its2,r2,⟨o2,n2,g1,g2,g3,g4⟩,z2⟩:=I.list hB
 obtain ⟨oc,od,oda,osl⟩:=o
 obtain ⟨oc2,od2,oda2,osl2⟩:=o2
 dsimp only at e2 e3 e4 g2 g3 g4
 subst e2 e3 e4 g2 g3 g4
 have l1:=r.length
 have l2:=r2.length
 refine concat_meets ⟨_,e1,rfl⟩ ⟨_,g1,rfl⟩ noFill_list_add seq_list_add PySem.F.slot_list_add PySem.F.entry_list_add (PySem.F.args_list_add_2 _ _) (list_addW l b its.toArray its2.toArray n n2 none none osl osl2 (by rw [List.size_toArray,List.size_toArray]; omega)) ⟨e1,g1,?_⟩
 have ea : its.toArray++its2.toArray = (its++its2).toArray:=by simp
 rw [ea]
 exact ⟨.ref s.heap.objs.size,_,I.lnew (t' := s.toks) (r.append r2) (by rw [List.length_append]; exact hz),rfl,q _ I.fresh⟩
end L2
namespace L2
open PySem PySem.Spec PyProof.Rows
section
variable {X : Cx} {pins : List (Addr × Obj)} {σ : St} {H : Hp} {s : Shared}
open Classical in
def isD (h : Heap) (d : PyData) (v : Value) : Bool:=if q : ∃ e as,e.canLay0 = true /\ Reads h v e as then PyData.eqv q.choose d else false
theorem isD_of {h : Heap} {d e : PyData} {v : Value} {as : List Addr} (c : e.canLay0 = true) (r : Reads h v e as) : isD h d v = PyData.eqv e d:=by
 have q : ∃ e as,e.canLay0 = true /\ Reads h v e as:=⟨e,as,c,r⟩
 unfold isD
 rw [dif_pos q]
 obtain ⟨as',c',r'⟩:=q.choose_spec
 have z : q.choose = e:=by first | exact (Reads.unique _ _ r' r).1 | exact (Reads.unique r' r).1 | exact Reads.unique _ _ _ _ _ c' r' r | exact PySem.SeqAt.Reads.unique _ _ _ _ _ c' r' r | exact PySem.Reads.unique _ _ _ _ _ c' r' r
 rw [z]
theorem zeD (I : Inv X pins σ H s) : ∀ {xs : List V} {ds : List PyData} {us : List Value},DaVs X.K H xs ds -> Vals xs us -> us.length = ds.length /\ ∀ (j : Nat) u d,us[j]? = some u -> ds[j]? = some d -> ∃ as,Reads s.heap u d as
 | _,_,_,.nil,r=>by cases r; exact ⟨rfl,λj u d e=>by cases e⟩
 | _,_,_,.cons h1 h2,r=>by
  cases r with
  | cons r1 r2 =>
   obtain ⟨l,q⟩:=zeD I h2 r2
   refine ⟨by rw [List.length_cons,List.length_cons,l],λj u d e1 e2=>?_⟩
   cases j with
   | zero=>cases e1; cases e2; exact h1.reads I r1
   | succ j=>exact q j u d e1 e2
theorem zeE {h : Heap} {d : PyData} : ∀ {us : List Value} {ds : List PyData},us.length = ds.length -> (∀ (j : Nat) u e,us[j]? = some u -> ds[j]? = some e -> isD h d u = PyData.eqv e d) -> us.any (isD h d) = ds.any λe=>PyData.eqv e d
 | [],[],_,_=>rfl
 | u :: us,e :: ds,hl,hh=>by
  rw [List.any_cons,List.any_cons,hh 0 u e rfl rfl,zeE (us:=us) (ds:=ds) (Nat.succ.inj hl) λj u' e' a b=>hh (j + 1) u' e' a b]
end
theorem zcN : ∀ {xs : List Str} {us : List Value},Vals (xs.map V.str) us -> ∃ l : List (Str × Tok),us = strValues l /\ l.map (·.1) = xs
 | [],_,r=>by cases r; exact ⟨[],rfl,rfl⟩
 | x :: xs,_,r=>by
  cases r with
  | cons r1 r2 =>
   obtain ⟨t,rfl⟩:=r1
   obtain ⟨l,e1,e2⟩:=zcN r2
   exact ⟨(x,t) :: l,by rw [e1]; rfl,by rw [List.map_cons,e2]⟩
theorem zfl : ∀ (xs : List Str),(Builtin.Str.glued Str.empty xs).cps.toList = (xs.map λx=>x.cps.toList).flatten:=by
 have all : ∀ (xs : List Str) (acc : Array Nat),(xs.foldl (λacc p=>acc++Str.empty.cps++p.cps) acc).toList = acc.toList++(xs.map λx=>x.cps.toList).flatten:=by
  intro xs
  induction xs with
  | nil=>intro acc; simp
  | cons x r ih =>
   intro acc
   rw [List.foldl_cons,ih]
   have e : (Str.empty.cps) = #[]:=rfl
   simp [e]
 intro xs
 unfold Builtin.Str.glued
 cases xs with
 | nil=>rfl
 | cons x r=>simp only [List.drop_succ_cons,List.drop_zero,List.headD_cons]; rw [all]; simp
theorem fold_len : ∀ (xs : List Str) (a : Nat),xs.foldl (λn x=>n + x.length + Str.empty.length) a = a + ((xs.map λx=>x.cps.toList).flatten).length
 | [],a=>by simp
 | x :: r,a=>by
  rw [List.foldl_cons,fold_len r]
  have e1 : Str.empty.length = 0:=rfl
  have e2 : x.length = x.cps.toList.length:=by simp [Str.length]
  rw [e1,e2,List.map_cons,List.flatten_cons,List.length_append]
  omega
def yh3 (K : PySem.W.Frag) : V -> List V -> Hp -> VK -> Prop:=λx vs H Q=>∃ (l : Addr) (xs : List Str),x = .str Str.empty /\ vs = [.ref l] /\ SqL K H l (xs.map V.str) /\ ((xs.map λx : Str=>x.cps.toList).flatten).length <= 1000000 /\ ∀ r : Str,r.cps.toList = (xs.map λx : Str=>x.cps.toList).flatten -> Q (.str r) H
theorem zh8 {X : Cx} : MtR X "str.join" (yh3 X.K):=by
 intro pins s σ H x vs v us Q I rx rv h
 obtain ⟨l,xs,rfl,rfl,hq,hz,q⟩:=h
 obtain ⟨t,rfl⟩:=rx
 obtain ⟨u,rfl,ru⟩:=ybJ rv
 cases ru
 obtain ⟨its,r,pl,_⟩:=I.list hq
 obtain ⟨ll,rfl,e2⟩:=zcN r
 have hok : JoinOk Str.empty xs = true:=by
  unfold JoinOk
  rw [Bool.not_eq_true']
  first
   | (rw [List.foldl_toArray,fold_len,Nat.zero_add]; unfold Builtin.Str.tooLong; exact decide_eq_false (Nat.not_lt.mpr (Nat.le_trans hz (by decide))))
   | (unfold joinFit; rw [List.foldl_toArray,fold_len,Nat.zero_add]; unfold Builtin.Str.tooLong; exact decide_eq_false (Nat.not_lt.mpr (Nat.le_trans hz (by decide))))
 exact SC.join pl.isList e2 hok λt' k=>⟨.str _,H,I.tok _,⟨_,rfl⟩,q _ (zfl xs)⟩
end L2
namespace L2
open PySem PySem.Spec PyProof.Rows
section
variable {X : Cx} {tg : Expr}
theorem zb9 (ns : List Int) : ∀ k,k <= ns.length -> preSum (λi=>(ns[i]?).getD 0) k = (ns.take k).sum
 | 0,_=>by simp [preSum]
 | k + 1,h=>by
  show preSum _ k + (ns[k]?).getD 0 = _
  rw [zb9 ns k (by omega),List.take_succ,List.sum_append]
  congr 1
  rw [List.getElem?_eq_getElem (by omega)]
  simp
theorem zhd (hc : X.calm = true) : CallR X (.builtin "sum") (λxs H Q=>∃ (a : Addr) (ns : List Int),xs = [.ref a] /\ SqL X.K H a (ns.map V.int) /\ Q (.int ns.sum) H):=by
 intro pins s σ H xs us Q I r h
 obtain ⟨l,bs,rfl,hq,q⟩:=h
 obtain ⟨u,rfl,rx⟩:=ybJ r
 cases rx
 obtain ⟨its,rv,pl,hz⟩:=I.list hq
 have hlt : l < s.heap.objs.size:=by obtain ⟨_,_,e,_⟩:=pl; exact Heap.lt_size e
 have hlen : its.length = bs.length:=by rw [<- rv.length,List.length_map]
 refine call_sum_walkAnyS (wpAny_pyIter_list pl.isList ?_)
 refine ⟨s.heap.objs.size,[s.heap.objs.size,l],[s.heap.objs.size],_,its.toArray.size,_,_,λi=>(bs[i]?).getD 0,rfl,(Walks.list (prog:=X.prog) (w:=X.w) (A:=X.A.in1) (I.ok.hd hc) s.heap.objs.size l (Nat.ne_of_lt hlt) its.toArray).toS,
  ⟨⟨_,Heap.get?_push_size _ rfl,rfl,rfl⟩,pl.isList.push _⟩,λb hb=>?_,λi v hP=>?_,λs' t' hm=>?_⟩
 ·rcases List.mem_cons.mp hb with rfl | hb
  ·exact Heap.lt_size (Heap.get?_push_size _ rfl)
  ·obtain rfl:=List.mem_singleton.mp hb
   obtain ⟨_,_,e,_⟩:=pl
   exact Heap.lt_size (Heap.get?_push_of_some _ e)
 ·have hP' : its[i]? = some v:=by simpa using hP
  have hi : i < its.length:=(List.getElem?_eq_some_iff.mp hP').1
  have hb : (bs.map V.int)[i]? = some (V.int (bs[i]'(by omega))):=by rw [List.getElem?_map,List.getElem?_eq_getElem (by omega)]; rfl
  obtain ⟨u,hu,ru⟩:=rv.get hb
  rw [hP'] at hu
  cases hu
  obtain ⟨t,rfl⟩:=ru
  refine ⟨t,?_⟩
  show Value.int _ t = Value.int ((bs[i]?).getD 0) t
  rw [List.getElem?_eq_getElem (by omega)]; rfl
 ·obtain ⟨h',g',d',tk',os'⟩:=s'
  have e1 : g' = s.gens:=hm.gens
  have e2 : d' = s.drawn:=hm.drawn
  have e3 : os' = s.os:=hm.os
  subst e1 e2 e3
  have e : preSum (λi=>(bs[i]?).getD 0) its.toArray.size = bs.sum:=by
   rw [List.size_toArray,hlen,zb9 bs _ (Nat.le_refl _),List.take_of_length_le (Nat.le_refl _)]
  rw [e]
  refine ⟨.int _,H,I.kept (t' := tk') λb o q=>?_,⟨_,rfl⟩,q⟩
  exact hm.heap b o (λhb=>by rw [List.mem_singleton.mp hb] at q; exact Nat.lt_irrefl _ (Heap.lt_size q)) (Heap.get?_push_of_some _ q)
def Itr3 (lo c : Int) (n : Nat) : It:=⟨λi _=>i < n,λi H x H' => H' = H /\ x = .int (lo + i * c),λi _=>n <= i⟩
theorem zej {P : Program} {w : World} {K : PySem.W.Frag} {tg : Expr} (it : Addr) (lo c : Int) (n : Nat) : Turn P w K tg (Itr3 lo c n) [it] it (λi h=>IsRangeIter h it (lo + (i : Nat) * c) ((n : Int) - (i : Nat)) c) where
 mem:=by simp
 obj:=λi h st b hb=>by
  have e : b = it:=by simpa using hb
  subst e
  exact ⟨_,st,λv z=>by
   have z' : Data.fields _ = Data.cell v:=z
   cases z'⟩
 keep:=λi h h' st k=>k it (by simp) _ st
 item:=by
  intro X hP hw hK hc i pins s σ H E I hf st hg
  subst hP hw hK
  obtain ⟨f0,f1,f2,f3,f4,f5⟩:=hf it (by simp)
  have W:=Walks.range (prog:=X.prog) (w:=X.w) (I.ok.hd hc) it lo c n
  refine W.item i s _ _ hg st λv h' tk hv st' kk=>?_
  obtain ⟨t,rfl⟩:=hv
  have I1 : Inv X pins σ H { s with heap:=h',toks:=tk }:=I.turned (λb o hb e=>kk b o (by simpa using hb) e) f0 f1 f3 f4 f5
  exact ⟨_,rfl,yei (s:={ s with heap:=h',toks:=tk }) (n := "range_iterator") st' rfl rfl (by decide) ⟨.int (lo + i * c),H,I1,⟨t,rfl⟩,⟨rfl,rfl⟩,st',λb hb=>(hf b hb).1⟩⟩
 done:=by
  intro X hP hw hK hc i pins s σ H E I hf st hg
  subst hP hw hK
  obtain ⟨f0,f1,f2,f3,f4,f5⟩:=hf it (by simp)
  exact wpAny_pyNext_range_end (I.ok.hd hc) st (by have : n <= i:=hg; omega) λh' eb=>⟨rfl,I.turned (t' := s.toks) (λb o hb e=>eb b o hb e) f0 f1 f3 f4 f5⟩
 self:=λ_ _ _ _ _ st h=>wpAny_pyIter_rangeiter st h
theorem zf8 {a b c : Int} (hc : 0 < c) : Builtin.Range.rangeSize a b c = (((if a < b then (b - a - 1) / c + 1 else 0 : Int).toNat : Nat) : Int):=by
 unfold Builtin.Range.rangeSize
 rw [if_pos hc]
 split
 ·have : 0 <= (b - a - 1) / c:=Int.ediv_nonneg (by omega) (by omega)
  omega
 ·rfl
theorem zbh {x : Int} (h : x.natAbs < 2 ^ 42) : Builtin.Range.rangeFitsLong x = true:=by
 have h2 : x.natAbs < 4398046511104:=h
 simp only [Builtin.Range.rangeFitsLong,Bool.and_eq_true,decide_eq_true_eq]
 omega
theorem zf9 {a b c : Int} (ha : a.natAbs < 2 ^ 40) (hb : b.natAbs < 2 ^ 40) (hc : 0 < c) : (Builtin.Range.rangeSize a b c).natAbs < 2 ^ 42:=by
 have ha2 : a.natAbs < 1099511627776:=ha
 have hb2 : b.natAbs < 1099511627776:=hb
 show _ < 4398046511104
 unfold Builtin.Range.rangeSize
 rw [if_pos hc]
 split
 ·have h1 : 0 <= (b - a - 1) / c:=Int.ediv_nonneg (by omega) (by omega)
  have h2 : (b - a - 1) / c <= b - a - 1:=Int.ediv_le_self _ (by omega)
  generalize (b - a - 1) / c = d at *
  omega
 ·decide
theorem zfm {a b c : Int} (ha : a.natAbs < 2 ^ 40) (hb : b.natAbs < 2 ^ 40) (hc : 0 < c) (hc' : c < 2 ^ 20) : Builtin.Range.small a b c = true:=by
 have l : (2 : Nat) ^ 40 < 2 ^ 42:=by decide
 unfold Builtin.Range.small
 rw [zbh (Nat.lt_trans ha l),zbh (Nat.lt_trans hb l),zbh (x:=c) (by have h2 : c < 1048576:=hc'; show _ < 4398046511104; omega),zbh (zf9 ha hb hc),if_pos hc,zbh (x:=b + (c - 1)) (by have h2 : c < 1048576:=hc'; have h3 : b.natAbs < 1099511627776:=hb; show _ < 4398046511104; omega)]
 simp
def yh4 (ta : TA) : TI:=λσ H R=>ta σ H λvs H1=>∃ i j c : Int,vs = [.int i,.int j,.int c] /\ (i.natAbs < 2 ^ 40 /\ j.natAbs < 2 ^ 40 /\ 0 < c /\ c < 2 ^ 20) /\ R (Itr3 i c (if i < j then (j - i - 1) / c + 1 else 0 : Int).toNat) H1
theorem zga {pins : List (Addr × Obj)} {σ : St} {H : Hp} {s : Shared} {R : It -> Hp -> Prop} {E : Value -> Shared -> Prop} {lo hi c : Int} {t u v : Tok} {tk : Nat} (I : Inv X pins σ H s) (h1 : lo.natAbs < 2 ^ 40) (h2 : hi.natAbs < 2 ^ 40) (h3 : 0 < c) (h4 : c < 2 ^ 20)
  (q : R (Itr3 lo c (if lo < hi then (hi - lo - 1) / c + 1 else 0 : Int).toNat) H) : wpAny (model X.prog X.w) X.A (pyIter (.ref s.heap.objs.size)) (PIE X pins σ tg R) E { s with heap:=s.heap.push { cls:=.type "range",data:=.fields #[.int lo t,.int hi u,.int c v] },toks:=tk }:=by
 refine wpAny_pyIter_range (IsRange.new ..) (zfm h1 h2 h3 h4) ?_
 have I1 : Inv X pins σ H { s with heap:=s.heap.push { cls:=.type "range",data:=.fields #[.int lo t,.int hi u,.int c v] },toks:=tk }:=I.kept λb o e=>Heap.get?_push_of_some _ e
 refine ⟨(s.heap.push { cls:=.type "range",data:=.fields #[.int lo t,.int hi u,.int c v] }).objs.size,[(s.heap.push { cls:=.type "range",data:=.fields #[.int lo t,.int hi u,.int c v] }).objs.size],_,_,H,rfl,
  I1.kept (t' := tk) λb o e=>Heap.get?_push_of_some _ e,zej _ lo c (if lo < hi then (hi - lo - 1) / c + 1 else 0 : Int).toNat,?_,λb hb=>?_,q⟩
 ·have e1 : lo + ((0 : Nat) : Int) * c = lo:=by simp
  have e2 : (((if lo < hi then (hi - lo - 1) / c + 1 else 0 : Int).toNat : Nat) : Int) - ((0 : Nat) : Int) = Builtin.Range.rangeSize lo hi c:=by rw [zf8 h3]; omega
  show IsRangeIter _ _ (lo + ((0 : Nat) : Int) * c) ((((if lo < hi then (hi - lo - 1) / c + 1 else 0 : Int).toNat : Nat) : Int) - ((0 : Nat) : Int)) c
  rw [e1,e2]
  exact Heap.get?_push_size _ rfl
 ·have e : b = (s.heap.push { cls:=.type "range",data:=.fields #[.int lo t,.int hi u,.int c v] }).objs.size:=by simpa using hb
  subst e
  exact I1.fpOk (Nat.le_refl _) (I1.hok.fresh (Nat.le_refl _))
theorem zgb {a b c : Expr} {ta : TA} {p pos : Pos} (hg : Gl X "range") (hm : X.mg "range" = none) (ha : PA X [a,b,c] ta) (hs : starEach [a,b,c] X.env = [(false,eval a X.env),(false,eval b X.env),(false,eval c X.env)]:=by rfl) (hs2 : starEach [b,c] X.env = [(false,eval b X.env),(false,eval c X.env)]:=by rfl) :
  PI X tg (.Call (.Name "range" p) [a,b,c] [] pos) (yh4 ta):=by
 intro pins s σ H R I h
 refine Call_ (ycR I hg hm boot_range (PyProof.Rows.callWith_type1 (thn (ha pos pins s σ H _ I h) λus s1 ⟨vs,H1,I1,r1,q1⟩=>?_) (by rw [hs,hs2]) (by rw [hs2]; rfl)))
 obtain ⟨i,j,c,e,⟨q1,q2,q3,q4⟩,q⟩:=q1
 subst e
 cases r1 with
 | cons r rr =>
  cases rr with
  | cons r' rr =>
   cases rr with
   | cons r'' rr =>
    cases rr
    obtain ⟨t,rfl⟩:=r
    obtain ⟨t',rfl⟩:=r'
    obtain ⟨t'',rfl⟩:=r''
    exact call_range_3 (by omega) (zga I1 q1 q2 q3 q4 q) (.inl (PyProof.noPylong_small (by omega)))
end
end L2
namespace L2
open PySem PySem.Spec PyProof.Rows
open PySem.Builtin PySem.Builtin.Str
section
variable {X : Cx}
def cutS (z : Str) (lo hi : Option Int) : Str:=⟨((z.cps.toList.drop (HT.sIx z.cps.toList.length 0 lo)).take (HT.sIx z.cps.toList.length z.cps.toList.length hi - HT.sIx z.cps.toList.length 0 lo)).toArray⟩
theorem za9 (n d : Nat) (i : Int) : max 0 (min (if i < 0 then i + (n : Int) else i) (n : Int)) = ((HT.sIx n d (some i) : Nat) : Int):=by
 show max 0 (min (if i < 0 then i + (n : Int) else i) (n : Int)) = (((if i < 0 then (i + (n : Int)).toNat else min i.toNat n) : Nat) : Int)
 split<;>omega
theorem zbr {a b : Int} {A B : Nat} (ha : a = A) (hb : b = B) : sliceRange a b 1 = (List.range (B - A)).map λk=>A + k:=by
 subst ha hb
 unfold sliceRange
 simp only [show (1 : Int) > 0 by decide,if_true]
 have : (if (A : Int) < (B : Int) then ((B : Int) - A + 1 - 1) / 1 else 0).toNat = B - A:=by
  split<;>(try simp only [Int.ediv_one])<;>omega
 rw [this]
 apply List.map_congr_left
 intro k _
 omega
theorem zhe (xs : List Nat) (i k : Nat) : (List.range k).filterMap (λm=>xs[i + m]?) = (xs.drop i).take k:=by
 induction k generalizing i with
 | zero=>simp
 | succ k ih =>
  rw [List.range_succ_eq_map,List.filterMap_cons,List.filterMap_map]
  have e : ((λm=>xs[i + m]?) ∘ Nat.succ) = λm=>xs[(i + 1) + m]? := by
   funext m; show xs[i + (m + 1)]? = _; congr 1; omega
  rw [e,ih (i + 1)]
  cases h : xs[i]? with
  | none =>
   have hl : xs.length <= i:=List.getElem?_eq_none_iff.mp h
   simp only [Nat.add_zero,h]
   rw [List.drop_of_length_le (by omega),List.drop_of_length_le hl]; simp
  | some v =>
   have hi:=(List.getElem?_eq_some_iff.mp h).1
   simp only [Nat.add_zero,h]
   rw [List.drop_eq_getElem_cons hi,List.take_succ_cons]
   congr 1
   exact (Option.some.inj ((List.getElem?_eq_getElem hi).symm.trans h)).symm
theorem zfn (n : Nat) (lo hi : Option Int) : strSliceIndices lo hi 1 n = (List.range (HT.sIx n n hi - HT.sIx n 0 lo)).map λk=>HT.sIx n 0 lo + k:=by
 cases lo with
 | none =>
  cases hi with
  | none=>exact zbr rfl rfl
  | some j=>exact zbr rfl (za9 n n j)
 | some i =>
  cases hi with
  | none=>exact zbr (za9 n 0 i) rfl
  | some j=>exact zbr (za9 n 0 i) (za9 n n j)
theorem zhf (z : Str) (lo hi : Option Int) : Txt.slice z lo hi = cutS z lo hi:=by
 have hz : z.length = z.cps.toList.length:=by simp [Str.length]
 unfold Txt.slice cutS
 rw [hz,zfn,List.filterMap_map]
 have e : ((λx=>z.cps[x]?) ∘ λk=>HT.sIx z.cps.toList.length 0 lo + k) = λm=>z.cps.toList[HT.sIx z.cps.toList.length 0 lo + m]? := by
  funext m; simp
 rw [e,zhe]
 split
 ·rename_i hc
  simp only [beq_self_eq_true,Bool.true_and,beq_iff_eq,List.length_map,List.length_range] at hc
  have h1 : HT.sIx z.cps.toList.length z.cps.toList.length hi <= z.cps.toList.length:=HT.sIx_le _ _ (Nat.le_refl _) _
  have h2 : HT.sIx z.cps.toList.length 0 lo = 0 \/ z.cps.toList.length = 0:=by omega
  rw [hc]
  rcases h2 with h2 | h2
  ·rw [h2,List.drop_zero,List.take_of_length_le (Nat.le_refl _)]
  ·have : z.cps.toList = []:=List.eq_nil_of_length_eq_zero h2
   have h3 : z.cps = #[]:=by simpa using this
   simp [h3]
   cases z; simp_all
 ·rfl
theorem zcD {v : Value} {o : Option Int} (p : IsPart v o) : ∃ l : Option (Int × Tok),v = partValue l /\ l.map (·.1) = o:=by
 cases p with
 | none=>exact ⟨none,rfl,rfl⟩
 | int i t=>exact ⟨some (i,t),rfl,rfl⟩
theorem ygP : SlR X (λx lo hi H Q=>∃ z,x = .str z /\ z.length <= sizeLine /\ Q (.str (cutS z lo hi)) H):=by
 intro pins s σ H x v vl vu lo hi sl Q I rx hs pl pu h
 obtain ⟨z,rfl,hz,q⟩:=h
 obtain ⟨t,rfl⟩:=rx
 obtain ⟨l,rfl,rfl⟩:=zcD pl
 obtain ⟨u,rfl,rfl⟩:=zcD pu
 refine ⟨"str",_,F.slot_str_getitem.lookup,typeIs_str _ _ _,?_⟩
 refine wpAny_getItem_str_slice (l:=l) (u:=u) (st:=none) hs rfl ?_
 refine post_val_or_str ⟨Nat.le_trans (Txt.slice_le z (l.map (·.1)) (u.map (·.1))) hz,λt' k=>?_⟩
 have e:=zhf z (l.map (·.1)) (u.map (·.1))
 refine ⟨.str (cutS z (l.map (·.1)) (u.map (·.1))),H,I.tok _,⟨t',?_⟩,q⟩
 rw [<- e]; rfl
def revS (z : Str) : Str:=⟨z.cps.toList.reverse.toArray⟩
def repS (z : Str) (n : Nat) : Str:=⟨((List.replicate n z.cps.toList).flatten).toArray⟩
end
end L2
namespace L2
open PySem PySem.Spec PyProof.Rows
open PySem.Builtin PySem.Builtin.Str
section
variable {X : Cx}
theorem zdd : ∀ l : List (Str × Tok),Vals ((l.map (·.1)).map V.str) (strValues l)
 | []=>.nil
 | (x,t) :: r=>.cons ⟨t,rfl⟩ (zdd r)
theorem zdP : MtR X "str.split" (λx vs H Q=>∃ z y,x = .str z /\ vs = [.str y] /\ (y.length == 0) = false /\ z.length <= sizeLine /\ (partsBetween z (occurrences z y 0 z.length (z.length + 1)) y.length).length <= sizeLine /\ ∀ p,H p = none -> Q (.ref p) (upd H p (.lst ((Txt.split z y).map V.str)))):=by
 intro pins s σ H x vs v us Q I rx rv h
 obtain ⟨z,y,rfl,rfl,hy,hz,hp,q⟩:=h
 obtain ⟨t,rfl⟩:=rx
 obtain ⟨u,rfl,t',rfl⟩:=ybJ rv
 have sp : (Txt.split z y).length <= sizeLine:=by
  unfold Txt.split
  split
  ·exact (by decide : 1 <= sizeLine)
  ·split
   ·exact (by decide : 1 <= sizeLine)
   ·exact hp
 have fin : ∀ (l : List (Str × Tok)) (k : Nat),l.map (·.1) = Txt.split z y -> EP X pins σ Q (.ref s.heap.objs.size) { s with toks:=k,heap:=s.heap.push { cls:=.type "list",data:=.seq (strValues l).toArray } }:=λl k e =>
  ⟨.ref s.heap.objs.size,_,I.lnew (t' := k) (zdd l) (by rw [e,List.length_map]; exact sp),rfl,by rw [e]; exact q _ I.fresh⟩
 cases h1 : (decide (z.length < y.length) || decide (strKind z < strKind y))
 ·cases hf : (occurrences z y 0 z.length (z.length + 1)).isEmpty
  ·refine call_meets F.slot_str_split (typeIs_str _ _ _) F.entry_str_split (F.args_str_split_2 _ _) (meets_str_split_sep z y t t' h1 hy hf hz hp) ?_
   show wants _ _ _ { s with toks:=_,heap:=s.heap.push { cls:=.type "list",data:=.seq (strsFrom s.toks (partsBetween z (occurrences z y 0 z.length (z.length + 1)) y.length)).toArray } }
   rw [strsFrom_eq]
   exact fin (numbered s.toks _) _ ((numbered_texts _ _).trans ((if_neg (ne_true_of_eq_false h1)).trans (if_neg (ne_true_of_eq_false hf))).symm)
  ·exact call_meets F.slot_str_split (typeIs_str _ _ _) F.entry_str_split (F.args_str_split_2 _ _) (meets_str_split_not_found z y t t' h1 hy hf)
    (fin [(z,t)] s.toks ((if_neg (ne_true_of_eq_false h1)).trans (if_pos hf)).symm)
 ·exact call_meets F.slot_str_split (typeIs_str _ _ _) F.entry_str_split (F.args_str_split_2 _ _) (meets_str_split_cannot_occur z y t t' h1)
   (fin [(z,t)] s.toks (if_pos h1).symm)
end
end L2
namespace Sm
open PySem L2
inductive AV where
 | non | bl (b : Bool) | int (i : Int) | str (x : Str)
 | tup (xs : List AV)
 | fl (xs : List AV)
 | ref (n : Nat)
 | exc (c : Nat)
 deriving Inhabited
inductive AO where
 | lst (xs : List AV)
 | dct (t : Bool) (kvs : List (AV × AV))
 | dcx (kvs : List (AV × AV))
 | ins (c : Nat) (fs : List (Option AV))
abbrev AH:=List AO
abbrev En:=List (Option AV)
inductive Out (α : Type) where
 | ok (a : α) (h : AH)
 | ex (c : Nat) (h : AH)
 | bad
@[simp] def Out.bind {α β : Type} (o : Out α) (f : α -> AH -> Out β) : Out β :=
 match o with
 | .ok a h=>f a h
 | .ex c h=>.ex c h
 | .bad=>.bad
inductive OutS where
 | nx (e : En) (h : AH)
 | rt (v : AV) (h : AH)
 | bk (e : En) (h : AH)
 | ct (e : En) (h : AH)
 | ex (c : Nat) (e : En) (h : AH)
 | bad
abbrev SE:=En -> AH -> Out AV
abbrev SB:=En -> AH -> Out Bool
abbrev SL:=En -> AH -> Out (List AV)
abbrev SS:=En -> AH -> OutS
abbrev Fn:=List AV -> AH -> Out AV
@[simp] def Out.go {α : Type} (o : Out α) (e : En) (f : α -> AH -> OutS) : OutS :=
 match o with
 | .ok a h=>f a h
 | .ex c h=>.ex c e h
 | .bad=>.bad
structure Tb where
 K : PySem.W.Frag
 cls : Nat -> Option Addr
 exc : Nat -> Option Addr
 fields : Nat -> List Str
 nd : ∀ c,(fields c).Nodup
 few : ∀ c,(fields c).length <= 500
def KL (K : PySem.W.Frag) (a : Addr) (xs : List V) : Prop:=∃ (o : Obj) (its : Array Value) (n : Nat),K.lookup a = some o /\ o.cls = .type "list" /\ o.dict = none /\ o.data = .seq its n /\ its.size <= sizeLine /\ Vals xs its.toList
structure Ix where
 refs : List Addr
 priv : List Addr
def Ix.all (ι : Ix) : List Addr:=ι.refs++ι.priv
def yek (c : Nat) : Int:=((c / 64 : Nat) : Int) - 1
def XdOk (ι : Ix) (H : Hp) (c : Nat) (dx : Option Addr) : Prop:=64 <= c -> ∃ d,dx = some d /\ d ∉ ι.all /\ H d = some (.xd [("row",.int (yek c))])
def ExR (T : Tb) (ι : Ix) (H : Hp) (c : Nat) (C : Addr × Option Addr) : Prop:=T.exc c = some C.1 /\ XdOk ι H c C.2
theorem zh9 {ι : Ix} {H : Hp} {c : Nat} {dx : Option Addr} (h : c < 64) : XdOk ι H c dx:=λz=>absurd h (Nat.not_lt_of_le z)
mutual
inductive RV (T : Tb) (ι : Ix) (H : Hp) : AV -> V -> Prop
 | non : RV T ι H .non .non
 | bl (b : Bool) : RV T ι H (.bl b) (.bl b)
 | int (i : Int) : RV T ι H (.int i) (.int i)
 | str {x : Str} (n : x.length <= sizeLine) (o : x.cps.all (· < 0x110000) = true) : RV T ι H (.str x) (.str x)
 | tup {xs : List AV} {us : List V} {a : Addr} (n : a ∉ ι.all) (h : H a = some (.tup us)) (r : RVs T ι H xs us) : RV T ι H (.tup xs) (.ref a)
 | fl {xs : List AV} {us : List V} {a : Addr} (n : a ∉ ι.all) (h : Rd H a (.lst us)) (r : RVs T ι H xs us) : RV T ι H (.fl xs) (.ref a)
 | kfl {xs : List AV} {us : List V} {a : Addr} (h : KL T.K a us) (r : RVs T ι H xs us) : RV T ι H (.fl xs) (.ref a)
 | ref {k : Nat} {a : Addr} (h : ι.refs[k]? = some a) : RV T ι H (.ref k) (.ref a)
 | exc {c : Nat} {C : Addr × Option Addr} {a : Addr} (n : a ∉ ι.all) (h : ExR T ι H c C) (q : H a = some (excO a (.ref C.1) C.2)) : RV T ι H (.exc c) (.ref a)
inductive RVs (T : Tb) (ι : Ix) (H : Hp) : List AV -> List V -> Prop
 | nil : RVs T ι H [] []
 | cons {x : AV} {u : V} {xs : List AV} {us : List V} (r : RV T ι H x u) (rs : RVs T ι H xs us) : RVs T ι H (x :: xs) (u :: us)
end
structure Grow (ι : Ix) (H : Hp) (ι' : Ix) (H' : Hp) : Prop where
 pre : ∃ n,ι'.refs = ι.refs++n /\ ∀ a ∈ n,H a = none
 priv : ι'.priv = ι.priv
 keep : ∀ a o,a ∉ ι.refs -> H a = some o -> H' a = some o
 live : ∀ a ∈ ι.all,H' a ≠ none
theorem zdQ : ∀ {l : List Addr} {i j : Nat} {a : Addr},l.Nodup -> l[i]? = some a -> l[j]? = some a -> i = j
 | [],_,_,_,_,e,_=>by simp at e
 | x :: l,0,0,_,_,_,_=>rfl
 | x :: l,0,j + 1,a,n,e,f=>by
  simp at e f; subst e
  exact absurd (List.mem_of_getElem? f) (List.nodup_cons.mp n).1
 | x :: l,i + 1,0,a,n,e,f=>by
  simp at e f; subst f
  exact absurd (List.mem_of_getElem? e) (List.nodup_cons.mp n).1
 | x :: l,i + 1,j + 1,a,n,e,f=>by
  simp at e f
  rw [zdQ (List.nodup_cons.mp n).2 e f]
theorem Ix.nr {ι : Ix} {a : Addr} (h : a ∉ ι.all) : a ∉ ι.refs:=λz=>h (List.mem_append_left _ z)
theorem Ix.np {ι : Ix} {a : Addr} (h : a ∉ ι.all) : a ∉ ι.priv:=λz=>h (List.mem_append_right _ z)
theorem Grow.refl {ι : Ix} {H : Hp} (l : ∀ a ∈ ι.all,H a ≠ none) : Grow ι H ι H:=⟨⟨[],by simp,by simp⟩,rfl,λ_ _ _ e=>e,l⟩
theorem Grow.at {ι ι' : Ix} {H H' : Hp} (g : Grow ι H ι' H') {k : Nat} {a : Addr} (h : ι.refs[k]? = some a) : ι'.refs[k]? = some a:=by
 obtain ⟨n,e,_⟩:=g.pre
 rw [e,List.getElem?_append_left (List.getElem?_eq_some_iff.mp h).1]
 exact h
theorem Grow.outR {ι ι' : Ix} {H H' : Hp} (g : Grow ι H ι' H') {a : Addr} {o : HO} (n : a ∉ ι.refs) (e : H a = some o) : a ∉ ι'.refs:=λz=>by
 obtain ⟨m,e',hm⟩:=g.pre
 rw [e'] at z
 rcases List.mem_append.mp z with z | z
 ·exact n z
 ·rw [hm a z] at e; cases e
theorem Grow.out {ι ι' : Ix} {H H' : Hp} (g : Grow ι H ι' H') {a : Addr} {o : HO} (n : a ∉ ι.all) (e : H a = some o) : a ∉ ι'.all:=λz=>by
 rcases List.mem_append.mp z with z | z
 ·exact g.outR (Ix.nr n) e z
 ·rw [g.priv] at z; exact Ix.np n z
theorem Grow.trans {ι ι' ι'' : Ix} {H H' H'' : Hp} (g : Grow ι H ι' H') (k : Grow ι' H' ι'' H'') : Grow ι H ι'' H'' := by
 obtain ⟨n,e1,hn⟩:=g.pre
 obtain ⟨m,e2,hm⟩:=k.pre
 refine ⟨⟨n++m,by rw [e2,e1]; simp,λa ha=>?_⟩,k.priv.trans g.priv,λa o na e=>k.keep a o (g.outR na e) (g.keep a o na e),λa ha=>k.live a ?_⟩
 ·rcases List.mem_append.mp ha with z | z
  ·exact hn a z
  ·have q:=hm a z
   by_cases hi : a ∈ ι.refs
   ·exact absurd q (g.live a (List.mem_append_left _ hi))
   ·cases e : H a with
    | none=>rfl
    | some o=>rw [g.keep a o hi e] at q; cases q
 ·rcases List.mem_append.mp ha with z | z
  ·exact List.mem_append_left _ (by rw [e1]; exact List.mem_append_left _ z)
  ·exact List.mem_append_right _ (by rw [g.priv]; exact z)
structure Ext (ι : Ix) (H : Hp) (ι' : Ix) (H' : Hp) : Prop where
 at_ : ∀ {k : Nat} {a : Addr},ι.refs[k]? = some a -> ι'.refs[k]? = some a
 keep : ∀ a o,a ∉ ι.all -> H a = some o -> H' a = some o
 out : ∀ a o,a ∉ ι.all -> H a = some o -> a ∉ ι'.all
theorem Grow.ext {ι ι' : Ix} {H H' : Hp} (g : Grow ι H ι' H') : Ext ι H ι' H' := ⟨g.at,λa o n e=>g.keep a o (Ix.nr n) e,λa o n e=>g.out n e⟩
theorem Ext.trans {ι ι' ι'' : Ix} {H H' H'' : Hp} (g : Ext ι H ι' H') (k : Ext ι' H' ι'' H'') : Ext ι H ι'' H'' :=
 ⟨λe=>k.at_ (g.at_ e),λa o n e=>k.keep a o (g.out a o n e) (g.keep a o n e),λa o n e=>k.out a o (g.out a o n e) (g.keep a o n e)⟩
theorem XdOk.ext {ι ι' : Ix} {H H' : Hp} {c : Nat} {dx : Option Addr} (x : XdOk ι H c dx) (g : Ext ι H ι' H') : XdOk ι' H' c dx:=λz=>by
 obtain ⟨d,e,n,q⟩:=x z
 exact ⟨d,e,g.out _ _ n q,g.keep _ _ n q⟩
theorem zeF {ι ι' : Ix} {H H' : Hp} (g : Ext ι H ι' H') {a : Addr} {u : HO} (n : a ∉ ι.all) (r : Rd H a u) : Rd H' a u:=by
 rcases r with r | ⟨o,r⟩
 ·exact .inl (g.keep a _ n r)
 ·exact .inr ⟨o,g.keep a _ n r⟩
theorem ygQ {ι ι' : Ix} {H H' : Hp} (g : Ext ι H ι' H') {a : Addr} {u : HO} (n : a ∉ ι.all) (r : Rd H a u) : a ∉ ι'.all:=by
 rcases r with r | ⟨o,r⟩
 ·exact g.out _ _ n r
 ·exact g.out _ _ n r
mutual
theorem RV.ext {T : Tb} {ι ι' : Ix} {H H' : Hp} (g : Ext ι H ι' H') : ∀ {x : AV} {u : V},RV T ι H x u -> RV T ι' H' x u
 | _,_,.non=>.non
 | _,_,.bl b=>.bl b
 | _,_,.int i=>.int i
 | _,_,.str n o=>.str n o
 | _,_,.tup n h r=>.tup (g.out _ _ n h) (g.keep _ _ n h) (RVs.ext g r)
 | _,_,.fl n h r=>.fl (ygQ g n h) (zeF g n h) (RVs.ext g r)
 | _,_,.kfl h r=>.kfl h (RVs.ext g r)
 | _,_,.ref h=>.ref (g.at_ h)
 | _,_,.exc n h q=>.exc (g.out _ _ n q) ⟨h.1,h.2.ext g⟩ (g.keep _ _ n q)
theorem RVs.ext {T : Tb} {ι ι' : Ix} {H H' : Hp} (g : Ext ι H ι' H') : ∀ {xs : List AV} {us : List V},RVs T ι H xs us -> RVs T ι' H' xs us
 | _,_,.nil=>.nil
 | _,_,.cons r rs=>.cons (RV.ext g r) (RVs.ext g rs)
end
theorem RV.mono {T : Tb} {ι ι' : Ix} {H H' : Hp} (g : Grow ι H ι' H') {x : AV} {u : V} (r : RV T ι H x u) : RV T ι' H' x u:=r.ext g.ext
theorem RVs.mono {T : Tb} {ι ι' : Ix} {H H' : Hp} (g : Grow ι H ι' H') {xs : List AV} {us : List V} (r : RVs T ι H xs us) : RVs T ι' H' xs us:=r.ext g.ext
section
variable {T : Tb} {ι : Ix} {H : Hp}
theorem RVs.length : ∀ {xs : List AV} {us : List V},RVs T ι H xs us -> xs.length = us.length
 | _,_,.nil=>rfl
 | _,_,.cons _ rs=>by simp [RVs.length rs]
theorem RVs.get : ∀ {xs : List AV} {us : List V} {i : Nat} {x : AV},RVs T ι H xs us -> xs[i]? = some x -> ∃ u,us[i]? = some u /\ RV T ι H x u
 | _,_,_,_,.nil,e=>by simp at e
 | _,_,0,_,.cons r _,e=>by simp at e; subst e; exact ⟨_,rfl,r⟩
 | _,_,i + 1,x,.cons _ t,e=>by
  obtain ⟨u,h1,h2⟩:=RVs.get (i:=i) (x:=x) t (by simpa using e)
  exact ⟨u,by simpa using h1,h2⟩
theorem RVs.append : ∀ {xs ys : List AV} {us ws : List V},RVs T ι H xs us -> RVs T ι H ys ws -> RVs T ι H (xs++ys) (us++ws)
 | _,_,_,_,.nil,s=>s
 | _,_,_,_,.cons r t,s=>.cons r (RVs.append t s)
theorem RVs.set {x : AV} {u : V} (r : RV T ι H x u) : ∀ {xs : List AV} {us : List V} (i : Nat),RVs T ι H xs us -> RVs T ι H (xs.set i x) (us.set i u)
 | _,_,_,.nil=>.nil
 | _,_,0,.cons _ t=>.cons r t
 | _,_,i + 1,.cons q t=>.cons q (RVs.set r i t)
theorem RVs.take : ∀ {xs : List AV} {us : List V} (n : Nat),RVs T ι H xs us -> RVs T ι H (xs.take n) (us.take n)
 | _,_,0,_=>by simpa using RVs.nil
 | _,_,_ + 1,.nil=>.nil
 | _,_,n + 1,.cons r t=>.cons r (RVs.take n t)
theorem RVs.drop : ∀ {xs : List AV} {us : List V} (n : Nat),RVs T ι H xs us -> RVs T ι H (xs.drop n) (us.drop n)
 | _,_,0,r=>r
 | _,_,_ + 1,.nil=>.nil
 | _,_,n + 1,.cons _ t=>RVs.drop n t
end
def kA : Key -> AV
 | .inl i=>.int i
 | .inr x=>.str x
def OR (T : Tb) (ι : Ix) (H : Hp) : AO -> HO -> Prop
 | .lst xs,o=>∃ us,o = .lst us /\ RVs T ι H xs us
 | .dct false kvs,o=>∃ kus : List (Key × V),o = .dK kus /\ Paired (λ(p : AV × AV) (q : Key × V)=>p.1 = kA q.1 /\ RV T ι H p.2 q.2) kvs kus
 | .dct true kvs,o=>∃ kus : List (List Key × V),o = .dT none kus /\ Paired (λ(p : AV × AV) (q : List Key × V)=>p.1 = .tup (q.1.map kA) /\ RV T ι H p.2 q.2) kvs kus
 | .dcx kvs,o=>∃ (ads : List Addr) (kus : List (List Key × V)),o = .dT (some ads) kus /\ ads.length = kus.length /\ Paired (λ(p : AV × AV) (q : Addr × List Key × V)=>p.1 = .tup (q.2.1.map kA) /\ RV T ι H p.1 (.ref q.1) /\ RV T ι H p.2 q.2.2) kvs (ads.zip kus)
 | .ins c fs,o=>∃ C dx fus,T.cls c = some C /\ o = .ins C dx fus /\ (fus.map (·.1)).Nodup /\ (∀ p ∈ fus,p.1 ∈ T.fields c) /\ fs.length = (T.fields c).length /\
   ∀ (i : Nat) (v : AV),fs[i]? = some (some v) -> ∃ f u,(T.fields c)[i]? = some f /\ fus.lookup f = some u /\ RV T ι H v u
theorem OR.mono {T : Tb} {ι ι' : Ix} {H H' : Hp} (g : Grow ι H ι' H') {o : AO} {u : HO} (h : OR T ι H o u) : OR T ι' H' o u:=by
 cases o with
 | lst xs=>obtain ⟨us,e,r⟩:=h; exact ⟨us,e,r.mono g⟩
 | dct t kvs =>
  cases t with
  | false=>obtain ⟨us,e,r⟩:=h; exact ⟨us,e,Paired.mapP r λ_ _ ⟨a,b⟩=>⟨a,b.mono g⟩⟩
  | true=>obtain ⟨us,e,r⟩:=h; exact ⟨us,e,Paired.mapP r λ_ _ ⟨a,b⟩=>⟨a,b.mono g⟩⟩
 | dcx kvs=>obtain ⟨ads,us,e,l,r⟩:=h; exact ⟨ads,us,e,l,Paired.mapP r λ_ _ ⟨a,b,c⟩=>⟨a,b.mono g,c.mono g⟩⟩
 | ins c fs =>
  obtain ⟨C,dx,fus,a,b,n,w,l,r⟩:=h
  refine ⟨C,dx,fus,a,b,n,w,l,λi v e=>?_⟩
  obtain ⟨f,u,e1,e2,q⟩:=r i v e
  exact ⟨f,u,e1,e2,q.mono g⟩
structure Sim (T : Tb) (ι : Ix) (h : AH) (H : Hp) : Prop where
 len : ι.refs.length = h.length
 nd : ι.refs.Nodup
 plive : ∀ a ∈ ι.priv,H a ≠ none
 obj : ∀ (i : Nat) (o : AO) (a : Addr),h[i]? = some o -> ι.refs[i]? = some a -> ∃ u,H a = some u /\ OR T ι H o u
section
variable {T : Tb} {ι : Ix} {h : AH} {H : Hp}
theorem Sim.live (S : Sim T ι h H) : ∀ a ∈ ι.all,H a ≠ none:=λa ha z=>by
 rcases List.mem_append.mp ha with ha | ha
 ·obtain ⟨i,hi⟩:=List.mem_iff_getElem?.mp ha
  have hl : i < h.length:=by rw [<- S.len]; exact (List.getElem?_eq_some_iff.mp hi).1
  obtain ⟨u,e,_⟩:=S.obj i h[i] a (by simp [hl]) hi
  rw [z] at e; cases e
 ·exact S.plive a ha z
theorem Sim.refl (S : Sim T ι h H) : Grow ι H ι H:=.refl S.live
theorem Sim.fresh (S : Sim T ι h H) {p : Addr} (n : H p = none) : p ∉ ι.all:=λz=>S.live p z n
theorem Sim.still (S : Sim T ι h H) {H' : Hp} (g : Grow ι H ι H') (k : ∀ a ∈ ι.refs,H' a = H a) : Sim T ι h H' :=
 ⟨S.len,S.nd,λa ha=>g.live a (List.mem_append_right _ ha),λi o a e1 e2=>by
  obtain ⟨u,e,r⟩:=S.obj i o a e1 e2
  exact ⟨u,by rw [k a (List.mem_of_getElem? e2)]; exact e,r.mono g⟩⟩
theorem Sim.growNew (S : Sim T ι h H) {p : Addr} {o : HO} (n : H p = none) : Grow ι H ι (upd H p o) :=
 ⟨⟨[],by simp,by simp⟩,rfl,λa u _ e=>by rw [yak (zag e n)]; exact e,λa ha=>by
  rw [yak (show a ≠ p from λz=>S.fresh n (z ▸ ha))]; exact S.live a ha⟩
theorem Sim.new (S : Sim T ι h H) {p : Addr} {o : HO} (n : H p = none) : Sim T ι h (upd H p o) :=
 S.still (S.growNew n) λa ha=>yak λz=>S.fresh n (z ▸ List.mem_append_left _ ha)
def Ix.add (ι : Ix) (p : Addr) : Ix:=⟨ι.refs++[p],ι.priv⟩
theorem Sim.growAdd (S : Sim T ι h H) {p : Addr} {u : HO} (n : H p = none) : Grow ι H (ι.add p) (upd H p u) :=
 ⟨⟨[p],rfl,λa ha=>by have e : a = p:=(by simpa using ha); rw [e]; exact n⟩,rfl,(S.growNew n).keep,(S.growNew n).live⟩
theorem Sim.add (S : Sim T ι h H) {p : Addr} {u : HO} {o : AO} (n : H p = none) (r : OR T (ι.add p) (upd H p u) o u) : Sim T (ι.add p) (h++[o]) (upd H p u):=by
 refine ⟨by simp [Ix.add,S.len],?_,λa ha=>(S.growNew n).live a (List.mem_append_right _ ha),λi o' a e1 e2=>?_⟩
 ·show (ι.refs++[p]).Nodup
  rw [List.nodup_append]
  exact ⟨S.nd,by simp,λa ha b hb z=>by have e : b = p:=(by simpa using hb); subst e; subst z; exact S.fresh n (List.mem_append_left _ ha)⟩
 ·replace e2 : (ι.refs++[p])[i]? = some a:=e2
  by_cases hi : i < h.length
  ·rw [List.getElem?_append_left hi] at e1
   rw [List.getElem?_append_left (by rw [S.len]; exact hi)] at e2
   obtain ⟨v,e,q⟩:=S.obj i o' a e1 e2
   exact ⟨v,by rw [yak (zag e n)]; exact e,q.mono (S.growAdd n)⟩
  ·have e3 : i = h.length:=by
    have:=(List.getElem?_eq_some_iff.mp e1).1
    simp at this; omega
   subst e3
   rw [List.getElem?_append_right (Nat.le_refl _)] at e1
   rw [List.getElem?_append_right (by rw [S.len]; exact Nat.le_refl _),S.len] at e2
   simp at e1 e2
   subst e1 e2
   exact ⟨u,zac,r⟩
theorem Sim.addAt (S : Sim T ι h H) {p : Addr} : (ι.add p).refs[h.length]? = some p:=by
 show (ι.refs++[p])[h.length]? = some p
 rw [<- S.len]; simp
theorem Sim.growSet (S : Sim T ι h H) {i : Nat} {a : Addr} {u : HO} (e : ι.refs[i]? = some a) : Grow ι H ι (upd H a u) :=
 ⟨⟨[],by simp,by simp⟩,rfl,λb o nb q=>by rw [yak (show b ≠ a from λz=>nb (by rw [z]; exact List.mem_of_getElem? e))]; exact q,λb hb=>by
  by_cases z : b = a
  ·subst z; rw [zac]; simp
  ·rw [yak z]; exact S.live b hb⟩
theorem Sim.set (S : Sim T ι h H) {i : Nat} {a : Addr} {u : HO} {o : AO} (e : ι.refs[i]? = some a) (r : OR T ι (upd H a u) o u) : Sim T ι (h.set i o) (upd H a u):=by
 refine ⟨by simp [S.len],S.nd,λb hb=>(S.growSet e).live b (List.mem_append_right _ hb),λj o' b e1 e2=>?_⟩
 by_cases hj : j = i
 ·subst hj
  rw [e] at e2; cases e2
  have hl : j < h.length:=by rw [<- S.len]; exact (List.getElem?_eq_some_iff.mp e).1
  rw [List.getElem?_set_self hl] at e1; cases e1
  exact ⟨u,zac,r⟩
 ·rw [List.getElem?_set_ne (Ne.symm hj)] at e1
  obtain ⟨v,q,r'⟩:=S.obj j o' b e1 e2
  have ne : b ≠ a:=λz=>hj (by
   subst z
   exact zdQ S.nd e2 e)
  exact ⟨v,by rw [yak ne]; exact q,r'.mono (S.growSet e)⟩
end
def Ix.hide (ι : Ix) (D : Addr) : Ix:=⟨ι.refs,D :: ι.priv⟩
theorem Ix.hide_all {ι : Ix} {D a : Addr} : a ∉ (ι.hide D).all ↔ a ∉ ι.all /\ a ≠ D:=by
 unfold Ix.all Ix.hide
 simp only [List.mem_append,List.mem_cons]
 constructor
 ·intro h; exact ⟨λz=>h (z.elim .inl λz=>.inr (.inr z)),λz=>h (.inr (.inl z))⟩
 ·rintro ⟨h1,h2⟩ (z | z | z)
  ·exact h1 (.inl z)
  ·exact h2 z
  ·exact h1 (.inr z)
section
variable {T : Tb} {ι : Ix} {H : Hp} {D : Addr}
theorem Ext.hide {o : HO} (hn : H D = none) : Ext ι H (ι.hide D) (upd H D o):=⟨λe=>e,λa u n e=>by rw [yak (zag e hn)]; exact e,λa u n e=>Ix.hide_all.mpr ⟨n,zag e hn⟩⟩
theorem Ext.poke {o : HO} : Ext (ι.hide D) H (ι.hide D) (upd H D o):=⟨λe=>e,λa u n e=>by rw [yak (Ix.hide_all.mp n).2]; exact e,λa u n e=>n⟩
theorem Ext.show : Ext (ι.hide D) H ι H:=⟨λe=>e,λa u n e=>e,λa u n e=>(Ix.hide_all.mp n).1⟩
theorem OR.ext {ι ι' : Ix} {H H' : Hp} (g : Ext ι H ι' H') {o : AO} {u : HO} (h : OR T ι H o u) : OR T ι' H' o u:=by
 cases o with
 | lst xs=>obtain ⟨us,e,r⟩:=h; exact ⟨us,e,r.ext g⟩
 | dct t kvs =>
  cases t with
  | false=>obtain ⟨us,e,r⟩:=h; exact ⟨us,e,Paired.mapP r λ_ _ ⟨a,b⟩=>⟨a,b.ext g⟩⟩
  | true=>obtain ⟨us,e,r⟩:=h; exact ⟨us,e,Paired.mapP r λ_ _ ⟨a,b⟩=>⟨a,b.ext g⟩⟩
 | dcx kvs=>obtain ⟨ads,us,e,l,r⟩:=h; exact ⟨ads,us,e,l,Paired.mapP r λ_ _ ⟨a,b,c⟩=>⟨a,b.ext g,c.ext g⟩⟩
 | ins c fs =>
  obtain ⟨C,dx,fus,a,b,n,w,l,r⟩:=h
  refine ⟨C,dx,fus,a,b,n,w,l,λi v e=>?_⟩
  obtain ⟨f,u,e1,e2,q⟩:=r i v e
  exact ⟨f,u,e1,e2,q.ext g⟩
theorem Sim.hide {h : AH} {o : HO} (S : Sim T ι h H) (hn : H D = none) : Sim T (ι.hide D) h (upd H D o) :=
 ⟨S.len,S.nd,λa ha=>by
  rcases List.mem_cons.mp ha with rfl | ha
  ·rw [zac]; simp
  ·rw [yak (show a ≠ D from λz=>S.plive a ha (z ▸ hn))]; exact S.plive a ha,λi o' a e1 e2=>by
  obtain ⟨u,e,r⟩:=S.obj i o' a e1 e2
  exact ⟨u,by rw [yak (zag e hn)]; exact e,r.ext (Ext.hide hn)⟩⟩
theorem Sim.poke {h : AH} {o : HO} (S : Sim T (ι.hide D) h H) (hr : D ∉ ι.refs) : Sim T (ι.hide D) h (upd H D o) :=
 ⟨S.len,S.nd,λa ha=>by
  by_cases z : a = D
  ·subst z; rw [zac]; simp
  ·rw [yak z]; exact S.plive a ha,λi o' a e1 e2=>by
  obtain ⟨u,e,r⟩:=S.obj i o' a e1 e2
  have ne : a ≠ D:=λz=>hr (z ▸ List.mem_of_getElem? e2)
  exact ⟨u,by rw [yak ne]; exact e,r.ext Ext.poke⟩⟩
theorem Sim.show {h : AH} (S : Sim T (ι.hide D) h H) : Sim T ι h H :=
 ⟨S.len,S.nd,λa ha=>S.plive a (List.mem_cons_of_mem _ ha),λi o' a e1 e2=>by
  obtain ⟨u,e,r⟩:=S.obj i o' a e1 e2
  exact ⟨u,e,r.ext Ext.show⟩⟩
end
def ER (T : Tb) (ι : Ix) (H : Hp) (e : En) (σ : St) : Prop:=e.length = σ.length /\ ∀ (i : Nat) (v : AV),e[i]? = some (some v) -> ∃ u,σ[i]? = some (some u) /\ RV T ι H v u
theorem ER.mono {T : Tb} {ι ι' : Ix} {H H' : Hp} {e : En} {σ : St} (r : ER T ι H e σ) (g : Grow ι H ι' H') : ER T ι' H' e σ :=
 ⟨r.1,λi v q=>let ⟨u,a,b⟩:=r.2 i v q; ⟨u,a,b.mono g⟩⟩
theorem ER.ext {T : Tb} {ι ι' : Ix} {H H' : Hp} {e : En} {σ : St} (r : ER T ι H e σ) (g : Ext ι H ι' H') : ER T ι' H' e σ :=
 ⟨r.1,λi v q=>let ⟨u,a,b⟩:=r.2 i v q; ⟨u,a,b.ext g⟩⟩
theorem ER.set {T : Tb} {ι : Ix} {H : Hp} {e : En} {σ : St} (r : ER T ι H e σ) {v : AV} {u : V} (q : RV T ι H v u) (i : Nat) : ER T ι H (e.set i (some v)) (σ.set i (some u)):=by
 refine ⟨by simp [r.1],λj w z=>?_⟩
 by_cases hj : j = i
 ·subst hj
  by_cases hl : j < e.length
  ·rw [List.getElem?_set_self hl] at z; cases z
   exact ⟨u,by rw [List.getElem?_set_self (by rw [<- r.1]; exact hl)],q⟩
  ·rw [List.getElem?_eq_none (by simpa using hl)] at z; cases z
 ·rw [List.getElem?_set_ne (Ne.symm hj)] at z ⊢
  exact r.2 j w z
theorem ER.unset {T : Tb} {ι : Ix} {H : Hp} {e : En} {σ : St} (r : ER T ι H e σ) (i : Nat) : ER T ι H (e.set i none) (σ.set i none):=by
 refine ⟨by simp [r.1],λj w z=>?_⟩
 by_cases hj : j = i
 ·subst hj
  by_cases hl : j < e.length
  ·rw [List.getElem?_set_self hl] at z; cases z
  ·rw [List.getElem?_eq_none (by simpa using hl)] at z; cases z
 ·rw [List.getElem?_set_ne (Ne.symm hj)] at z ⊢
  exact r.2 j w z
def Post {α β : Type} (T : Tb) (ι : Ix) (H : Hp) (E : XK) (R : Ix -> Hp -> α -> β -> Prop) (o : Out α) (Q : β -> Hp -> Prop) : Prop :=
 match o with
 | .ok v h' => ∀ ι' H' u,Grow ι H ι' H' -> Sim T ι' h' H' -> R ι' H' v u -> Q u H'
 | .ex c h' => ∀ ι' H' C,Grow ι H ι' H' -> Sim T ι' h' H' -> ExR T ι' H' c C -> E (.ref C.1) C.2 H'
 | .bad=>False
def PostS (T : Tb) (ι : Ix) (H : Hp) (E : St -> XK) (o : OutS) (D : Ends) : Prop :=
 match o with
 | .nx e h' => ∀ ι' H' σ',Grow ι H ι' H' -> Sim T ι' h' H' -> ER T ι' H' e σ' -> D.nx σ' H'
 | .bk e h' => ∀ ι' H' σ',Grow ι H ι' H' -> Sim T ι' h' H' -> ER T ι' H' e σ' -> D.bk σ' H'
 | .ct e h' => ∀ ι' H' σ',Grow ι H ι' H' -> Sim T ι' h' H' -> ER T ι' H' e σ' -> D.ct σ' H'
 | .rt v h' => ∀ ι' H' u,Grow ι H ι' H' -> Sim T ι' h' H' -> RV T ι' H' v u -> D.rt u H'
 | .ex c e h' => ∀ ι' H' σ' C,Grow ι H ι' H' -> Sim T ι' h' H' -> ER T ι' H' e σ' -> ExR T ι' H' c C -> E σ' (.ref C.1) C.2 H'
 | .bad=>False
abbrev REq {α : Type} : Ix -> Hp -> α -> α -> Prop:=λ_ _ a b=>a = b
section
variable {T : Tb} {ι ι' : Ix} {h : AH} {H H' : Hp} {α β γ δ : Type} {E : XK} {R : Ix -> Hp -> α -> β -> Prop} {R' : Ix -> Hp -> γ -> δ -> Prop}
theorem Post.shift {o : Out α} {Q : β -> Hp -> Prop} (p : Post T ι H E R o Q) (g : Grow ι H ι' H') : Post T ι' H' E R o Q:=by
 cases o with
 | ok v h' => exact λi2 H2 u g2=>p i2 H2 u (g.trans g2)
 | ex c h' => exact λi2 H2 C g2=>p i2 H2 C (g.trans g2)
 | bad=>exact p
theorem Post.bind {o : Out α} {f : α -> AH -> Out γ} {Q : δ -> Hp -> Prop} {Q1 : β -> Hp -> Prop} (p : Post T ι H E R' (o.bind f) Q)
  (k : ∀ v h' ι' H' u,Grow ι H ι' H' -> Sim T ι' h' H' -> R ι' H' v u -> Post T ι' H' E R' (f v h') Q -> Q1 u H') : Post T ι H E R o Q1:=by
 cases o with
 | ok v h' => exact λi2 H2 u g S r=>k v h' i2 H2 u g S r (Post.shift p g)
 | ex c h' => exact p
 | bad=>exact p
theorem Post.now {v : α} {u : β} {Q : β -> Hp -> Prop} (p : Post T ι H E R (.ok v h) Q) (S : Sim T ι h H) (r : R ι H v u) : Q u H:=p ι H u S.refl S r
theorem PostS.shift {E : St -> XK} {o : OutS} {D : Ends} (p : PostS T ι H E o D) (g : Grow ι H ι' H') : PostS T ι' H' E o D:=by
 cases o with
 | nx e h' => exact λi2 H2 u g2=>p i2 H2 u (g.trans g2)
 | bk e h' => exact λi2 H2 u g2=>p i2 H2 u (g.trans g2)
 | ct e h' => exact λi2 H2 u g2=>p i2 H2 u (g.trans g2)
 | rt v h' => exact λi2 H2 u g2=>p i2 H2 u (g.trans g2)
 | ex c e h' => exact λi2 H2 u C g2=>p i2 H2 u C (g.trans g2)
 | bad=>exact p
theorem PostS.go {E : St -> XK} {o : Out α} {en : En} {σ : St} {f : α -> AH -> OutS} {D : Ends} {Q1 : β -> Hp -> Prop} (p : PostS T ι H E (o.go en f) D) (er : ER T ι H en σ)
  (k : ∀ v h' ι' H' u,Grow ι H ι' H' -> Sim T ι' h' H' -> R ι' H' v u -> PostS T ι' H' E (f v h') D -> Q1 u H') : Post T ι H (E σ) R o Q1:=by
 cases o with
 | ok v h' => exact λi2 H2 u g S r=>k v h' i2 H2 u g S r (PostS.shift p g)
 | ex c h' => exact λi2 H2 C g S e=>p i2 H2 σ C g S (er.mono g) e
 | bad=>exact p
end
def tE (T : Tb) (E : St -> XK) (a : SE) : TE:=λσ H Q=>∃ ι h en,Sim T ι h H /\ ER T ι H en σ /\ Post T ι H (E σ) (RV T) (a en h) Q
def tT (T : Tb) (E : St -> XK) (a : SB) : TT:=λσ H Q=>∃ ι h en,Sim T ι h H /\ ER T ι H en σ /\ Post T ι H (E σ) REq (a en h) Q
def tA (T : Tb) (E : St -> XK) (a : SL) : TA:=λσ H Q=>∃ ι h en,Sim T ι h H /\ ER T ι H en σ /\ Post T ι H (E σ) (RVs T) (a en h) Q
def tS (T : Tb) (E : St -> XK) (b : SS) : TS:=λD σ H=>∃ ι h en,Sim T ι h H /\ ER T ι H en σ /\ PostS T ι H E (b en h) D
abbrev PEA (T : Tb) (E : St -> XK) (X : Cx) (e : Expr) (a : SE) : Prop:=PE X e (tE T E a)
abbrev PTA (T : Tb) (E : St -> XK) (X : Cx) (e : Expr) (a : SB) : Prop:=PT X e (tT T E a)
abbrev PWA (T : Tb) (E : St -> XK) (X : Cx) (e : Expr) (a : SB) : Prop:=PW X e (tT T E a)
abbrev PAA (T : Tb) (E : St -> XK) (X : Cx) (es : List Expr) (a : SL) : Prop:=PA X es (tA T E a)
abbrev PSA (T : Tb) (E : St -> XK) (X : Cx) (st : Stmt) (b : SS) : Prop:=PS X st (tS T E b)
abbrev PSsA (T : Tb) (E : St -> XK) (X : Cx) (sts : List Stmt) (b : SS) : Prop:=PSs X sts (tS T E b)
theorem yaB {X : Cx} {e : Expr} {t t' : TE} (h : PE X e t) (k : ∀ σ H Q,t' σ H Q -> t σ H Q) : PE X e t' := λpins s σ H Q I q=>h pins s σ H Q I (k σ H Q q)
theorem ydZ {X : Cx} {e : Expr} {t t' : TT} (h : PT X e t) (k : ∀ σ H Q,t' σ H Q -> t σ H Q) : PT X e t' := λpins s σ H Q I q=>h pins s σ H Q I (k σ H Q q)
theorem yfd {X : Cx} {e : Expr} {t t' : TT} (h : PW X e t) (k : ∀ σ H Q,t' σ H Q -> t σ H Q) : PW X e t' := λw pins s σ H Q I q=>h w pins s σ H Q I (k σ H Q q)
theorem yfe {X : Cx} {e : List Expr} {t t' : TA} (h : PA X e t) (k : ∀ σ H Q,t' σ H Q -> t σ H Q) : PA X e t' := λp pins s σ H Q I q=>h p pins s σ H Q I (k σ H Q q)
theorem ybH {X : Cx} {e : Stmt} {t t' : TS} (h : PS X e t) (k : ∀ D σ H,t' D σ H -> t D σ H) : PS X e t' := λpins s σ H D I q=>h pins s σ H D I (k D σ H q)
theorem zeG {X : Cx} {e : List Stmt} {t t' : TS} (h : PSs X e t) (k : ∀ D σ H,t' D σ H -> t D σ H) : PSs X e t' := λpins s σ H D I q=>h pins s σ H D I (k D σ H q)
theorem ygR {X : Cx} {st : Stmt} {t : TS} (h : PS X.nox st t) : PS X st t:=λpins s σ H D I hw=>by
 refine wpAny_mono (h pins s σ H D (I.wish _) hw) (λf s' q=>SP.unwish q) λ_ _ z=>z.elim
end Sm
namespace Sm
open PySem L2
instance : DecidableEq AV:=λ_ _=>Classical.propDecidable _
@[simp] def sVar (i : Nat) : SE:=λen h=>match en[i]? with
 | some (some v)=>.ok v h
 | _=>.bad
@[simp] def sLit (v : AV) : SE:=λ_ h=>.ok v h
abbrev F1:=AV -> AH -> Out AV
abbrev F2:=AV -> AV -> AH -> Out AV
@[simp] def sOp1 (f : F1) (a : SE) : SE:=λen h=>(a en h).bind f
@[simp] def sOp2 (f : F2) (a b : SE) : SE:=λen h=>(a en h).bind λx h1=>(b en h1).bind λy h2=>f x y h2
@[simp] def sNil : SL:=λ_ h=>.ok [] h
@[simp] def yaa (a : SE) (r : SL) : SL:=λen h=>(a en h).bind λx h1=>(r en h1).bind λxs h2=>.ok (x :: xs) h2
@[simp] def yad (F : Fn) (as : SL) : SE:=λen h=>(as en h).bind F
@[simp] def sTup (as : SL) : SE:=λen h=>(as en h).bind λxs h1=>if xs.length <= 1000 then .ok (.tup xs) h1 else .bad
@[simp] def sLst (as : SL) : SE:=λen h=>(as en h).bind λxs h1=>if xs.length <= 1000 then .ok (.fl xs) h1 else .bad
@[simp] def yb7 (as : SL) : SE:=λen h=>(as en h).bind λxs h1=>if xs.length <= 1000 then .ok (.ref h1.length) (h1++[.lst xs]) else .bad
@[simp] def yfL (t : Bool) : SE:=λ_ h=>.ok (.ref h.length) (h++[.dct t []])
@[simp] def yiM (v : AV) (h : AH) : Option (List AV):=match v with
 | .tup xs=>some xs
 | .fl xs=>some xs
 | .ref n=>match h[n]? with
  | some (.lst xs)=>some xs
  | _=>none
 | _=>none
@[simp] def ybi (v : AV) (h : AH) : Option (List AV):=match v with
 | .fl xs=>some xs
 | .ref n=>match h[n]? with
  | some (.lst xs)=>some xs
  | _=>none
 | _=>none
@[simp] def fAdd : F2:=λx y h=>match x,y with
 | .int i,.int j=>.ok (.int (i + j)) h
 | .str i,.str j=>if i.length + j.length <= sizeLine then .ok (.str (i++j)) h else .bad
 | .tup xs,.tup ys=>if xs ≠ [] /\ xs.length + ys.length <= sizeLine then .ok (.tup (xs++ys)) h else .bad
 | x,y=>match ybi x h,ybi y h with
  | some xs,some ys=>if xs.length + ys.length <= sizeLine then .ok (.fl (xs++ys)) h else .bad
  | _,_=>.bad
@[simp] def fSub : F2:=λx y h=>match x,y with
 | .int i,.int j=>.ok (.int (i - j)) h
 | _,_=>.bad
@[simp] def fMul : F2:=λx y h=>match x,y with
 | .int i,.int j=>if (i.natAbs < 2 ^ 64 \/ j.natAbs < 2 ^ 64) \/ (i.natAbs < 2 ^ 4000 /\ j.natAbs < 2 ^ 4000) then .ok (.int (i * j)) h else .bad
 | _,_=>.bad
@[simp] def fDiv : F2:=λx y h=>match x,y with
 | .int i,.int j=>if 0 < j /\ j.natAbs < 2 ^ 200 then .ok (.int (i / j)) h else .bad
 | _,_=>.bad
@[simp] def fMod : F2:=λx y h=>match x,y with
 | .int i,.int j=>if 0 < j then .ok (.int (i % j)) h else .bad
 | _,_=>.bad
@[simp] def fPow : F2:=λx y h=>match x,y with
 | .int i,.int j=>if 0 <= j /\ j <= 1000000 /\ i.natAbs < 2 ^ 64 then .ok (.int (i ^ j.toNat)) h else .bad
 | _,_=>.bad
@[simp] def fNeg : F1:=λx h=>match x with
 | .int i=>.ok (.int (-i)) h
 | _=>.bad
def toDs (f : AV -> Option PyData) : List AV -> Option (List PyData)
 | []=>some []
 | x :: xs=>match f x,toDs f xs with
  | some d,some ds=>some (d :: ds)
  | _,_=>none
def toD : Nat -> AH -> AV -> Option PyData
 | 0,_,v=>match v with
  | .non=>some .none
  | .bl b=>some (.bool b)
  | .int i=>some (.int i)
  | .str x=>some (.str x)
  | _=>none
 | n + 1,h,v=>match v with
  | .non=>some .none
  | .bl b=>some (.bool b)
  | .int i=>some (.int i)
  | .str x=>some (.str x)
  | .tup xs=>(toDs (toD n h) xs).map .tuple
  | .fl xs=>(toDs (toD n h) xs).map .list
  | .ref k=>match h[k]? with
   | some (.lst xs)=>(toDs (toD n h) xs).map .list
   | _=>none
  | .exc _=>none
@[simp] def eqA (x y : AV) (h : AH) : Option Bool:=match x,y with
 | .int i,.int j=>some (decide (i = j))
 | .str i,.str j=>some (decide (i = j))
 | .bl i,.bl j=>some (decide (i = j))
 | .non,.non=>some true
 | x,y=>match toD 8 h x,toD 8 h y with
  | some d,some e=>some (PyData.eqv d e)
  | _,_=>none
@[simp] def fEq : F2:=λx y h=>match eqA x y h with
 | some b=>.ok (.bl b) h
 | none=>.bad
@[simp] def fNe : F2:=λx y h=>match eqA x y h with
 | some b=>.ok (.bl (!b)) h
 | none=>.bad
@[simp] def fLt : F2:=λx y h=>match x,y with
 | .int i,.int j=>.ok (.bl (decide (i < j))) h
 | .str i,.str j=>.ok (.bl (decide (i.cps.toList < j.cps.toList))) h
 | _,_=>.bad
@[simp] def fLe : F2:=λx y h=>match x,y with
 | .int i,.int j=>.ok (.bl (decide (i <= j))) h
 | .str i,.str j=>.ok (.bl (!decide (j.cps.toList < i.cps.toList))) h
 | _,_=>.bad
@[simp] def fGt : F2:=λx y h=>match x,y with
 | .int i,.int j=>.ok (.bl (decide (j < i))) h
 | _,_=>.bad
@[simp] def fGe : F2:=λx y h=>match x,y with
 | .int i,.int j=>.ok (.bl (decide (j <= i))) h
 | _,_=>.bad
@[simp] def fIsN : F2:=λx y h=>match y with
 | .non=>.ok (.bl (decide (x = .non))) h
 | _=>.bad
@[simp] def yeO : F2:=λx y h=>match y with
 | .non=>.ok (.bl (!decide (x = .non))) h
 | _=>.bad
@[simp] def truA (v : AV) (h : AH) : Option Bool:=match v with
 | .non=>some false
 | .bl b=>some b
 | .int i=>some (i != 0)
 | .str y=>some ((y.length : Int) != 0)
 | .tup xs=>some (!xs.isEmpty)
 | .fl xs=>some (!xs.isEmpty)
 | .ref n=>match h[n]? with
  | some (.lst xs)=>some (!xs.isEmpty)
  | some (.dct false kvs)=>some (!kvs.isEmpty)
  | _=>none
 | _=>none
@[simp] def ybK (a : SE) : SB:=λen h=>(a en h).bind λv h1=>match truA v h1 with
 | some b=>.ok b h1
 | none=>.bad
@[simp] def yaz (a : SE) : SB:=λen h=>(a en h).bind λv h1=>match v with
 | .bl b=>.ok b h1
 | _=>.bad
@[simp] def sAnd (a b : SB) : SB:=λen h=>(a en h).bind λx h1=>if x = true then b en h1 else .ok false h1
@[simp] def sOr (a b : SB) : SB:=λen h=>(a en h).bind λx h1=>if x = true then .ok true h1 else b en h1
@[simp] def sNot (a : SB) : SB:=λen h=>(a en h).bind λx h1=>.ok (!x) h1
@[simp] def ydo (a b : SE) : SE:=λen h=>(a en h).bind λv h1=>match v with
 | .bl k=>if k = true then b en h1 else .ok (.bl false) h1
 | _=>.bad
@[simp] def sOrV (a b : SE) : SE:=λen h=>(a en h).bind λv h1=>match v with
 | .bl k=>if k = true then .ok (.bl true) h1 else b en h1
 | _=>.bad
@[simp] def yeP (a : SE) : SE:=λen h=>(a en h).bind λv h1=>match v with
 | .bl b=>.ok (.bl (!b)) h1
 | _=>.bad
@[simp] def sIfE (c : SB) (a b : SE) : SE:=λen h=>(c en h).bind λx h1=>if x = true then a en h1 else b en h1
@[simp] def ybS (f f' : F2) (a b c : SE) : SE:=λen h=>(a en h).bind λx h1=>(b en h1).bind λy h2=>(f x y h2).bind λz h3=>match z with
 | .bl k=>if k = true then (c en h3).bind λw h4=>f' y w h4 else .ok (.bl false) h3
 | _=>.bad
@[simp] def yaL : SS:=λen h=>.nx en h
@[simp] def sSeq (a b : SS) : SS:=λen h=>match a en h with
 | .nx e h' => b e h'
 | o=>o
@[simp] def yaV (a : SE) : SS:=λen h=>(a en h).go en λ_ h' => .nx en h'
@[simp] def sRet (a : SE) : SS:=λen h=>(a en h).go en λv h' => .rt v h'
@[simp] def sIf (c : SB) (a b : SS) : SS:=λen h=>(c en h).go en λx h' => if x = true then a en h' else b en h'
@[simp] def sSet (i : Nat) (a : SE) : SS:=λen h=>(a en h).go en λv h' => .nx (en.set i (some v)) h'
def yff (c : SB) (b : SS) : Nat -> SS
 | 0=>λ_ _=>.bad
 | n + 1=>λen h=>match c en h with
  | .ok true h1=>(match b en h1 with
   | .nx e2 h2=>yff c b n e2 h2
   | .ct e2 h2=>yff c b n e2 h2
   | .bk e2 h2=>.nx e2 h2
   | .rt v h2=>.rt v h2
   | _=>.bad)
  | .ok false h1=>.nx en h1
  | _=>.bad
abbrev SI:=En -> AH -> Out (List AV × Option Nat)
@[simp] def yaZ (w : Option Nat) (xs : List AV) (h : AH) : Bool:=match w with
 | none=>true
 | some n=>match h[n]? with
  | some (.lst ys)=>decide (ys = xs)
  | _=>false
inductive Tg where
 | nm (i : Nat)
 | tup (is : List Nat)
 | nst (i : Nat) (is : List Nat)
@[simp] def yd0 : List Nat -> List AV -> En -> Option En
 | [],[],en=>some en
 | i :: is,x :: xs,en=>yd0 is xs (en.set i (some x))
 | _,_,_=>none
@[simp] def setT (t : Tg) (v : AV) (en : En) : Option En:=match t,v with
 | .nm i,v=>some (en.set i (some v))
 | .tup is,.tup xs=>yd0 is xs en
 | .nst i is,.tup [y,.tup xs]=>yd0 is xs (en.set i (some y))
 | _,_=>none
def yaH (w : Option Nat) (all : List AV) (t : Tg) (b : SS) : List AV -> SS
 | []=>λen h=>if yaZ w all h = true then .nx en h else .bad
 | x :: xs=>λen h=>if yaZ w all h = true then
   (match setT t x en with
   | some e1=>(match b e1 h with
    | .nx e2 h2=>yaH w all t b xs e2 h2
    | .ct e2 h2=>yaH w all t b xs e2 h2
    | .bk e2 h2=>.nx e2 h2
    | .rt v h2=>.rt v h2
    | _=>.bad)
   | none=>.bad) else .bad
@[simp] def sFor (it : SI) (t : Tg) (b : SS) : SS:=λen h=>match it en h with
 | .ok (xs,w) h1=>yaH w xs t b xs en h1
 | _=>.bad
@[simp] def yfM (t : Tg) (a : SE) : SS:=λen h=>(a en h).go en λv h' => match setT t v en with
 | some e=>.nx e h'
 | none=>.bad
@[simp] def iVal (a : SE) : SI:=λen h=>(a en h).bind λv h1=>match v with
 | .fl xs=>.ok (xs,none) h1
 | .tup xs=>.ok (xs,none) h1
 | .str z=>.ok (z.cps.toList.map (λc=>.str ⟨#[c]⟩),none) h1
 | .ref n=>match h1[n]? with
  | some (.lst xs)=>.ok (xs,some n) h1
  | _=>.bad
 | _=>.bad
def yaC (lo : Int) : Nat -> List AV
 | 0=>[]
 | n + 1=>.int lo :: yaC (lo + 1) n
@[simp] def ybk (a : SE) : SI:=λen h=>(a en h).bind λv h1=>match v with
 | .int j=>if j.natAbs < 2 ^ 62 then .ok (yaC 0 j.toNat,none) h1 else .bad
 | _=>.bad
@[simp] def ybq (a b : SE) : SI:=λen h=>(a en h).bind λv h1=>(b en h1).bind λw h2=>match v,w with
 | .int i,.int j=>if i.natAbs < 2 ^ 62 /\ j.natAbs < 2 ^ 62 then .ok (yaC i (j - i).toNat,none) h2 else .bad
 | _,_=>.bad
def numbered (k : Nat) : List AV -> List AV
 | []=>[]
 | x :: xs=>.tup [.int k,x] :: numbered (k + 1) xs
@[simp] def iEnum (a : SE) : SI:=λen h=>(a en h).bind λv h1=>match v with
 | .fl xs=>.ok (numbered 0 xs,none) h1
 | _=>.bad
def yaW (js : List Nat) (en : En) (w : Option Nat) (all : List AV) (c : SB) (e : SE) : List AV -> List AV -> AH -> Out (List AV)
 | [],ys,h=>if yaZ w all h = true then .ok ys h else .bad
 | x :: xs,ys,h=>if yaZ w all h = true /\ ys.length < sizeLine then
   (match c (some x :: js.map λj=>(en[j]?).join) h with
   | .ok true h1=>(match e (some x :: js.map λj=>(en[j]?).join) h1 with
    | .ok v h2=>yaW js en w all c e xs (ys++[v]) h2
    | _=>.bad)
   | .ok false h1=>yaW js en w all c e xs ys h1
   | _=>.bad) else .bad
@[simp] def sYes : SB:=λ_ h=>.ok true h
@[simp] def ybl (js : List Nat) (it : SI) (c : SB) (e : SE) : SE:=λen h=>match it en h with
 | .ok (xs,w) h1=>(match yaW js en w xs c e xs [] h1 with
  | .ok ys h2=>.ok (.fl ys) h2
  | _=>.bad)
 | _=>.bad
@[simp] def mkFn (n m : Nat) (b : SS) : Fn:=λargs h =>
 if args.length = n then
  match b (args.map some++List.replicate (m - n) none) h with
  | .nx _ h' => .ok .non h'
  | .rt v h' => .ok v h'
  | .ex c _ h' => .ex c h'
  | _=>.bad
 else .bad
@[simp] def ya6 (c : Nat) (F : Fn) (o : SE) (as : SL) : SE:=λen h=>(o en h).bind λx h1=>match x with
 | .ref n=>match h1[n]? with
  | some (.ins c' _)=>if c' = c then (as en h1).bind λxs h2=>F (x :: xs) h2 else .bad
  | _=>.bad
 | _=>.bad
@[simp] def ycG (c k : Nat) (F : Fn) (as : SL) : SE:=λen h=>(as en h).bind λxs h1=>match F (.ref h1.length :: xs) (h1++[.ins c (List.replicate k none)]) with
 | .ok .non h2=>.ok (.ref h1.length) h2
 | .ex c h2=>.ex c h2
 | _=>.bad
@[simp] def sFld (c i : Nat) (o : SE) : SE:=λen h=>(o en h).bind λx h1=>match x with
 | .ref n=>match h1[n]? with
  | some (.ins c' fs)=>if c' = c then (match fs[i]? with | some (some v)=>.ok v h1 | _=>.bad) else .bad
  | _=>.bad
 | _=>.bad
@[simp] def ybZ (c i : Nat) (o v : SE) : SS:=λen h=>(v en h).go en λy h1=>(o en h1).go en λx h2=>match x with
 | .ref n=>match h2[n]? with
  | some (.ins c' fs)=>if c' = c then .nx en (h2.set n (.ins c (fs.set i (some y)))) else .bad
  | _=>.bad
 | _=>.bad
@[simp] def ycU (c : Nat) (as : SL) : SS:=λen h=>(as en h).go en λxs h1=>if xs.length <= 1000 then .ex c en h1 else .bad
@[simp] def sTry (i : Nat) (catches : Nat -> Bool) (b hd : SS) : SS:=λen h=>match b en h with
 | .ex c e h' => if catches c = true then
   (match hd (e.set i (some (.exc c))) h' with
   | .nx e2 h2=>.nx (e2.set i none) h2
   | .bk e2 h2=>.bk (e2.set i none) h2
   | .ct e2 h2=>.ct (e2.set i none) h2
   | .rt v h2=>.rt v h2
   | _=>.bad) else .bad
 | o=>o
@[simp] def keyOf? (v : AV) : Option Key:=match v with
 | .int i=>some (.inl i)
 | .str x=>some (.inr x)
 | _=>none
@[simp] def keysOf? : List AV -> Option (List Key)
 | []=>some []
 | v :: r=>match keyOf? v,keysOf? r with
  | some k,some ks=>some (k :: ks)
  | _,_=>none
@[simp] def ycg (t : Bool) (v : AV) : Bool:=match t,v with
 | false,v=>(keyOf? v).isSome
 | true,.tup xs=>(keysOf? xs).isSome
 | true,_=>false
def valA (kvs : List (AV × AV)) (k : AV) : Option AV:=(kvs.find? λp=>decide (p.1 = k)).map (·.2)
def putA (kvs : List (AV × AV)) (k v : AV) : List (AV × AV) :=
 if kvs.any (λp=>decide (p.1 = k)) then kvs.map λp=>if p.1 = k then (p.1,v) else p else kvs++[(k,v)]
@[simp] def fIx : F2:=λx y h=>match x,y with
 | .str z,.int i=>match atI z.cps.toList i with
  | some c=>.ok (.str ⟨#[c]⟩) h
  | none=>.bad
 | .tup xs,.int i=>match atI xs i with
  | some v=>.ok v h
  | none=>.bad
 | .fl xs,.int i=>match atI xs i with
  | some v=>.ok v h
  | none=>.bad
 | .ref n,y=>match h[n]? with
  | some (.lst xs)=>match y with
   | .int i=>match atI xs i with
    | some v=>.ok v h
    | none=>.bad
   | _=>.bad
  | some (.dct t kvs)=>if ycg t y then (match valA kvs y with | some v=>.ok v h | none=>.bad) else .bad
  | _=>.bad
 | _,_=>.bad
@[simp] def yd1 (o i v : SE) : SS:=λen h=>(v en h).go en λz h1=>(o en h1).go en λx h2=>(i en h2).go en λy h3=>match x with
 | .ref n=>match h3[n]? with
  | some (.lst xs)=>match y with
   | .int k=>match ixN xs.length k with
    | some j=>.nx en (h3.set n (.lst (xs.set j z)))
    | none=>.bad
   | _=>.bad
  | some (.dct t kvs)=>if ycg t y = true /\ kvs.length < sizeLine then .nx en (h3.set n (.dct t (putA kvs y z))) else .bad
  | _=>.bad
 | _=>.bad
@[simp] def inA (x y : AV) (h : AH) : Option Bool:=match x,y with
 | .str i,.str j=>some (!(Builtin.Str.occurrences j i 0 j.length 1).isEmpty)
 | x,.ref n=>match h[n]? with
  | some (.dct t kvs)=>if ycg t x then some (valA kvs x).isSome else none
  | some (.lst xs)=>match toD 8 h x,toDs (toD 8 h) xs with
   | some d,some ds=>some (ds.any λe=>PyData.eqv e d)
   | _,_=>none
  | _=>none
 | x,.fl xs=>match toD 8 h x,toDs (toD 8 h) xs with
  | some d,some ds=>some (ds.any λe=>PyData.eqv e d)
  | _,_=>none
 | x,.tup xs=>match toD 8 h x,toDs (toD 8 h) xs with
  | some d,some ds=>some (ds.any λe=>PyData.eqv e d)
  | _,_=>none
 | _,_=>none
@[simp] def yeA : F2:=λx y h=>match inA x y h with
 | some b=>.ok (.bl (!b)) h
 | none=>.bad
@[simp] def fLen : Fn:=λargs h=>match args with
 | [.str x]=>.ok (.int x.length) h
 | [.tup xs]=>.ok (.int xs.length) h
 | [.fl xs]=>.ok (.int xs.length) h
 | [.ref n]=>match h[n]? with
  | some (.lst xs)=>.ok (.int xs.length) h
  | some (.dct false kvs)=>.ok (.int kvs.length) h
  | _=>.bad
 | _=>.bad
@[simp] def fAbs : Fn:=λargs h=>match args with
 | [.int i]=>.ok (.int (if i < 0 then -i else i)) h
 | _=>.bad
@[simp] def ydO : Fn:=λargs h=>match args with
 | [.int i,.int j]=>.ok (.int (if j > i then j else i)) h
 | _=>.bad
@[simp] def yc7 : Fn:=λargs h=>match args with
 | [.int i,.int j]=>.ok (.int (if j < i then j else i)) h
 | _=>.bad
@[simp] def ydh : List AV -> Option (List Bool)
 | []=>some []
 | .bl b :: r=>(ydh r).map (b :: ·)
 | _ :: _=>none
@[simp] def fAll : Fn:=λargs h=>match args with
 | [.fl xs]=>match ydh xs with
  | some bs=>.ok (.bl (bs.all id)) h
  | none=>.bad
 | _=>.bad
@[simp] def fInt : Fn:=λargs h=>match args with
 | [.int i]=>.ok (.int i) h
 | [.bl k]=>.ok (.int (if k then 1 else 0)) h
 | _=>.bad
@[simp] def tyN (v : AV) (h : AH) : Option String:=match v with
 | .non=>some "NoneType"
 | .bl _=>some "bool"
 | .int _=>some "int"
 | .str _=>some "str"
 | .tup _=>some "tuple"
 | .fl _=>some "list"
 | .ref n=>match h[n]? with
  | some (.lst _)=>some "list"
  | some (.dct _ _)=>some "dict"
  | _=>none
 | .exc _=>none
@[simp] def sIsB (t : String) (a : SE) : SE:=λen h=>(a en h).bind λv h1=>match tyN v h1 with
 | some n=>.ok (.bl (n == t || (t == "int" && n == "bool"))) h1
 | none=>.bad
@[simp] def sIsX (p : Nat -> Bool) (a : SE) : SE:=λen h=>(a en h).bind λv h1=>match v with
 | .exc c=>.ok (.bl (p c)) h1
 | _=>.bad
abbrev FM:=AV -> List AV -> AH -> Out AV
@[simp] def ybb (v : AV) (h : AH) : Bool:=(ybi v h).isSome
@[simp] def ya0 (v : AV) (_ : AH) : Bool:=match v with
 | .str _=>true
 | _=>false
@[simp] def sBM (chk : AV -> AH -> Bool) (f : FM) (o : SE) (as : SL) : SE:=λen h=>(o en h).bind λx h1=>if chk x h1 = true then (as en h1).bind λxs h2=>f x xs h2 else .bad
@[simp] def yaK : FM:=λx vs h=>match x,vs with
 | .ref n,[y]=>match h[n]? with
  | some (.lst xs)=>if xs.length < sizeLine then .ok .non (h.set n (.lst (xs++[y]))) else .bad
  | _=>.bad
 | _,_=>.bad
def yfN (d : PyData) : List PyData -> Nat -> Option Nat
 | [],_=>none
 | e :: r,k=>if PyData.eqv e d = true then some k else yfN d r (k + 1)
@[simp] def yiK : FM:=λx vs h=>match vs with
 | [y]=>match ybi x h with
  | some xs=>match toD 8 h y,toDs (toD 8 h) xs with
   | some d,some ds=>match yfN d ds 0 with
    | some k=>.ok (.int k) h
    | none=>.bad
   | _,_=>.bad
  | none=>.bad
 | _=>.bad
@[simp] def yeg : FM:=λx vs h=>match x,vs with
 | .str z,[.str y]=>.ok (.int ((Builtin.Str.occurrences z y 0 z.length (z.length + 1)).length : Nat)) h
 | _,_=>.bad
@[simp] def ycC : List AV -> Option (List Str)
 | []=>some []
 | .str x :: r=>(ycC r).map (x :: ·)
 | _ :: _=>none
@[simp] def ych : FM:=λx vs h=>match x,vs with
 | .str z,[y]=>if z = Str.empty then (match ybi y h with
  | some xs=>match ycC xs with
   | some zs=>if ((zs.map λx : Str=>x.cps.toList).flatten).length <= 1000000 then .ok (.str ⟨((zs.map λx : Str=>x.cps.toList).flatten).toArray⟩) h else .bad
   | none=>.bad
  | none=>.bad) else .bad
 | _,_=>.bad
def cutA {α : Type} (xs : List α) (lo hi : Option Int) : List α:=(xs.drop (HT.sIx xs.length 0 lo)).take (HT.sIx xs.length xs.length hi - HT.sIx xs.length 0 lo)
end Sm
namespace Sm
open PySem L2
structure CA (T : Tb) (E : St -> XK) (X : Cx) : Prop where
 hK : X.K = T.K
 pass : ybY (CXE X.prog X.w) X E
abbrev EN : St -> XK:=λ_=>E0
theorem CA.nox {T : Tb} {E : St -> XK} {X : Cx} (c : CA T E X) : CA T EN X.nox:=⟨c.hK,λ_ _ _ _ _ _ _ h=>by
 obtain ⟨_,_,_,_,_,_,_,_,_,_,_,_,_,_,_,_,q⟩:=h
 exact q.elim⟩
theorem CA.never {T : Tb} {X : Cx} (hK : X.K = T.K) : CA T EN X:=⟨hK,λ_ _ _ _ _ _ _ h=>by
 obtain ⟨_,_,_,_,_,_,_,_,_,_,_,_,_,_,_,_,q⟩:=h
 exact q.elim⟩
section
variable {T : Tb} {ι : Ix} {h : AH} {H : Hp}
theorem ybn {x : AV} {u : V} {xs : List AV} (S : Sim T ι h H) (r : RV T ι H x u) (e : ybi x h = some xs) : ∃ a us,u = .ref a /\ SqL T.K H a us /\ RVs T ι H xs us:=by
 unfold ybi at e
 cases r with
 | fl n q r=>cases e; exact ⟨_,_,rfl,.inl q,r⟩
 | kfl q r=>cases e; exact ⟨_,_,rfl,.inr q,r⟩
 | @ref k a q =>
  dsimp only at e
  split at e
  ·rename_i ys hk
   cases e
   obtain ⟨u,e1,us,rfl,r⟩:=S.obj k _ a hk q
   exact ⟨a,us,rfl,.inl (.inl e1),r⟩
  ·cases e
 | _=>cases e
theorem ycV {u : V} {xs : List AV} (r : RV T ι H (.tup xs) u) : ∃ a us,u = .ref a /\ SqT T.K H a us /\ RVs T ι H xs us:=by
 cases r with
 | tup n q r=>exact ⟨_,_,rfl,.of q,r⟩
theorem yaS {u : V} {x : Str} (r : RV T ι H (.str x) u) : u = .str x /\ x.length <= sizeLine /\ x.cps.all (· < 0x110000) = true:=by
 cases r with
 | str n o=>exact ⟨rfl,n,o⟩
theorem yar {u : V} {i : Int} (r : RV T ι H (.int i) u) : u = .int i:=by cases r; rfl
theorem yci {u : V} {i : Bool} (r : RV T ι H (.bl i) u) : u = .bl i:=by cases r; rfl
theorem ydE {u : V} (r : RV T ι H .non u) : u = .non:=by cases r; rfl
theorem ydi {us : List V} {xs : List AV} {p : Addr} {E : XK} {Q : VK} (S : Sim T ι h H) (r : RVs T ι H xs us) (n : H p = none) (q : Post T ι H E (RV T) (.ok (.fl xs) h) Q) : Q (.ref p) (upd H p (.lst us)) :=
 q ι _ _ (S.growNew n) (S.new n) (.fl (S.fresh n) (.inl zac) (r.mono (S.growNew n)))
theorem zcO {us : List V} {xs : List AV} {p : Addr} {E : XK} {Q : VK} (S : Sim T ι h H) (r : RVs T ι H xs us) (n : H p = none) (q : Post T ι H E (RV T) (.ok (.tup xs) h) Q) : Q (.ref p) (upd H p (.tup us)) :=
 q ι _ _ (S.growNew n) (S.new n) (.tup (S.fresh n) zac (r.mono (S.growNew n)))
theorem zia {us : List V} {xs : List AV} {p : Addr} {E : XK} {Q : VK} (S : Sim T ι h H) (r : RVs T ι H xs us) (n : H p = none) (q : Post T ι H E (RV T) (.ok (.ref h.length) (h++[.lst xs])) Q) : Q (.ref p) (upd H p (.lst us)) :=
 q _ _ _ (S.growAdd n) (S.add n ⟨us,rfl,r.mono (S.growAdd n)⟩) (.ref S.addAt)
end
section
variable {T : Tb} {E : St -> XK} {X : Cx} {pos : Pos}
theorem yab (i : Nat) {x : Str} {p : Pos} (hN : X.N[i]? = some x:=by rfl) (hv : Vis X.env.scope x:=by first | exact Or.inl rfl | exact Or.inr (Or.inl rfl) | exact Or.inr (Or.inr rfl)) (hd : (x == ("__debug__" : Str)) = false:=by decide)
  (hcd : (x == ("__classdict__" : Str)) = false:=by decide) : PEA T E X (.Name x p) (sVar i) :=
 yaB (pv i hN hv hd hcd) λσ H Q ⟨ι,h,en,S,er,q⟩=>by
  unfold sVar at q
  split at q
  ·rename_i v hv
   obtain ⟨u,e,r⟩:=er.2 i v hv
   exact ⟨u,e,q.now S r⟩
  ·exact q.elim
theorem yaf {i j p} : PEA T E X (.Constant (.int i) j p) (sLit (.int i)):=yaB ygd λσ H Q ⟨ι,h,en,S,er,q⟩=>q.now S (.int i)
theorem r_bl {i j p} : PEA T E X (.Constant (.bool i) j p) (sLit (.bl i)):=yaB yhC λσ H Q ⟨ι,h,en,S,er,q⟩=>q.now S (.bl i)
theorem ycw {j p} : PEA T E X (.Constant .none j p) (sLit .non):=yaB yge λσ H Q ⟨ι,h,en,S,er,q⟩=>q.now S .non
theorem yah {x j p} (n : x.length <= sizeLine:=by decide +kernel) (o : x.cps.all (· < 0x110000) = true:=by decide +kernel) : PEA T E X (.Constant (.str x) j p) (sLit (.str x)):=yaB ydC λσ H Q ⟨ι,h,en,S,er,q⟩=>q.now S (.str n o)
theorem zib {x : Str} {i : Int} {t : Tok} {p : Pos} (hg : Gl X x) (hm : X.mg x = some (.int i t)) (hd : (x == ("__debug__" : Str)) = false:=by decide) : PEA T E X (.Name x p) (sLit (.int i)) :=
 yaB (zbU (v:=.int i) hg hm ⟨t,rfl⟩ hd) λσ H Q ⟨ι,h,en,S,er,q⟩=>q.now S (.int i)
theorem zic {x z : Str} {t : Tok} {p : Pos} (hg : Gl X x) (hm : X.mg x = some (.str z t)) (n : z.length <= sizeLine:=by decide +kernel) (o : z.cps.all (· < 0x110000) = true:=by decide +kernel) (hd : (x == ("__debug__" : Str)) = false:=by decide) : PEA T E X (.Name x p) (sLit (.str z)) :=
 yaB (zbU (v:=.str z) hg hm ⟨t,rfl⟩ hd) λσ H Q ⟨ι,h,en,S,er,q⟩=>q.now S (.str n o)
def OpS (T : Tb) (f : F2) (r : R2) : Prop:=∀ (ι : Ix) (h : AH) (H : Hp) (x y : AV) (u w : V) (E : XK) (Q : VK),Sim T ι h H -> RV T ι H x u -> RV T ι H y w -> Post T ι H E (RV T) (f x y h) Q -> r u w H Q
def Op (T : Tb) (X : Cx) (g : Value -> Value -> Sem Value) (f : F2) : Prop:=∃ r,OpR X g r /\ OpS T f r
variable {a b c : Expr} {sa sb sc : SE}
theorem two {f : F2} {r : R2} (hs : OpS T f r) {σ : St} {H : Hp} {Q : VK} (q : tE T E (sOp2 f sa sb) σ H Q) : tOp r (tE T E sa) (tE T E sb) σ H Q:=by
 obtain ⟨ι,h,en,S,er,q⟩:=q
 refine ⟨ι,h,en,S,er,q.bind λx h1 ι1 H1 u g1 S1 r1 q1=>⟨ι1,h1,en,S1,er.mono g1,q1.bind λy h2 ι2 H2 w g2 S2 r2 q2=>?_⟩⟩
 exact hs ι2 h2 H2 x y u w _ Q S2 (r1.mono g2) r2 q2
theorem yaj {op : Operator} {f : F2} (ho : Op T X (binaryOp op) f) (ha : PEA T E X a sa) (hb : PEA T E X b sb) : PEA T E X (.BinOp a op b pos) (sOp2 f sa sb):=by
 obtain ⟨r,h1,h2⟩:=ho
 exact yaB (yhN h1 ha hb) λσ H Q q=>two h2 q
theorem zid {i j : Str} (hi : i.cps.all (· < 0x110000) = true) (hj : j.cps.all (· < 0x110000) = true) : (i++j).cps.all (· < 0x110000) = true:=by
 show (i.cps++j.cps).all _ = true
 rw [Array.all_append,hi,hj]; rfl
theorem zek (i j : Str) : (i++j).length = i.length + j.length:=by
 show (i.cps++j.cps).size = _
 rw [Array.size_append]; rfl
theorem yav (hK : X.K = T.K) : Op T X (binaryOp .Add) fAdd:=by
 refine ⟨_,op_add.or (zfb.or (zhQ.or zh7)),λι h H x y u w E Q S rx ry p=>?_⟩
 unfold fAdd at p
 split at p
 ·rw [yar rx,yar ry]
  exact .inl ⟨_,_,rfl,rfl,p.now S (.int _)⟩
 ·split at p
  ·rename_i hz
   obtain ⟨rfl,_,o1⟩:=yaS rx
   obtain ⟨rfl,_,o2⟩:=yaS ry
   exact .inr (.inl ⟨_,_,rfl,rfl,hz,p.now S (.str (by rw [zek]; exact hz) (zid o1 o2))⟩)
  ·exact p.elim
 ·split at p
  ·rename_i hz
   obtain ⟨a,us,rfl,q1,r1⟩:=ycV rx
   obtain ⟨b,ws,rfl,q2,r2⟩:=ycV ry
   refine .inr (.inr (.inl ⟨a,b,us,ws,rfl,rfl,hK ▸ q1,hK ▸ q2,λz=>hz.1 ?_,by rw [<- r1.length,<- r2.length]; exact hz.2,λz=>?_,λ_ l n=>zcO S (r1.append r2) n p⟩))
   ·subst z; cases r1; rfl
   ·subst z; cases r2
    rw [List.append_nil] at p
    exact p.now S rx
  ·exact p.elim
 ·split at p
  ·split at p
   ·rename_i e1 e2 hz
    obtain ⟨a,us,rfl,q1,r1⟩:=ybn S rx e1
    obtain ⟨b,ws,rfl,q2,r2⟩:=ybn S ry e2
    exact .inr (.inr (.inr ⟨a,b,us,ws,rfl,rfl,hK ▸ q1,hK ▸ q2,by rw [<- r1.length,<- r2.length]; exact hz,λl n=>ydi S (r1.append r2) n p⟩))
   ·exact p.elim
  ·exact p.elim
theorem ycH : Op T X (binaryOp .Sub) fSub:=by
 refine ⟨_,ygq,λι h H x y u w E Q S rx ry p=>?_⟩
 unfold fSub at p
 split at p
 ·rw [yar rx,yar ry]
  exact ⟨_,_,rfl,rfl,p.now S (.int _)⟩
 ·exact p.elim
theorem zeH {i : Int} (h : i.natAbs < 2 ^ 4000) : Builtin.Int.intBits i <= 2 ^ 20:=by
 unfold Builtin.Int.intBits
 split
 ·exact Nat.zero_le _
 ·rename_i hz
  have h0 : i.natAbs ≠ 0:=λz=>hz (by simpa using z)
  have : i.natAbs.log2 < 4000:=(Nat.log2_lt h0).mpr h
  exact Nat.le_trans (by omega : i.natAbs.log2 + 1 <= 4001) (by decide)
theorem yb0 : Op T X (binaryOp .Mult) fMul:=by
 refine ⟨_,zg2,λι h H x y u w E Q S rx ry p=>?_⟩
 unfold fMul at p
 split at p
 ·split at p
  ·rename_i hz
   rw [yar rx,yar ry]
   exact ⟨_,_,rfl,rfl,hz.elim (λz=>CMul.ok (z.elim (λz=>.inl ⟨by omega,by omega⟩) (λz=>.inr ⟨by omega,by omega⟩))) (λz=>.of_bits (zeH z.1) (zeH z.2)),p.now S (.int _)⟩
  ·exact p.elim
 ·exact p.elim
theorem yfO : Op T X (binaryOp .FloorDiv) fDiv:=by
 refine ⟨_,zg1,λι h H x y u w E Q S rx ry p=>?_⟩
 unfold fDiv at p
 split at p
 ·split at p
  ·rename_i hz
   rw [yar rx,yar ry]
   exact ⟨_,_,rfl,rfl,⟨hz.1,by omega⟩,p.now S (.int _)⟩
  ·exact p.elim
 ·exact p.elim
theorem ydp : Op T X (binaryOp .Mod) fMod:=by
 refine ⟨_,ygr,λι h H x y u w E Q S rx ry p=>?_⟩
 unfold fMod at p
 split at p
 ·split at p
  ·rename_i hz
   rw [yar rx,yar ry]
   exact ⟨_,_,rfl,rfl,hz,p.now S (.int _)⟩
  ·exact p.elim
 ·exact p.elim
theorem yd2 : Op T X (binaryOp .Pow) fPow:=by
 refine ⟨_,ygs,λι h H x y u w E Q S rx ry p=>?_⟩
 unfold fPow at p
 split at p
 ·split at p
  ·rename_i hz
   rw [yar rx,yar ry]
   exact ⟨_,_,rfl,rfl,hz,p.now S (.int _)⟩
  ·exact p.elim
 ·exact p.elim
theorem yfP (ha : PEA T E X a sa) : PEA T E X (.UnaryOp .USub a pos) (sOp1 fNeg sa) :=
 yaB (yhO ygt ha) λσ H Q ⟨ι,h,en,S,er,q⟩=>⟨ι,h,en,S,er,q.bind λx h1 ι1 H1 u g1 S1 r1 q1=>by
  unfold fNeg at q1
  split at q1
  ·rw [yar r1]
   exact ⟨_,rfl,q1.now S1 (.int _)⟩
  ·exact q1.elim⟩
theorem zgc {ds : List PyData} (h : ∀ d ∈ ds,d.canLay0 = true) : PyData.canLayAll0 ds = true:=by
 induction ds with
 | nil=>rfl
 | cons d r ih=>show (d.canLay0 && PyData.canLayAll0 r) = true; rw [h d (by simp),ih λe he=>h e (by simp [he])]; rfl
theorem zel {n : Nat} {ds : List PyData} (h : ∀ d ∈ ds,d.depth <= n) : PyData.depthAll ds <= n:=by
 induction ds with
 | nil=>exact Nat.zero_le _
 | cons d r ih=>show max d.depth (PyData.depthAll r) <= n; have:=h d (by simp); have:=ih λe he=>h e (by simp [he]); omega
section
variable {ι : Ix} {h : AH} {H : Hp}
theorem zbi {f : AV -> Option PyData} {n : Nat} (hf : ∀ {x : AV} {u : V} {d : PyData},RV T ι H x u -> f x = some d -> DaV T.K H u d /\ d.canLay0 = true /\ d.depth <= n) :
  ∀ {xs : List AV} {us : List V} {ds : List PyData},RVs T ι H xs us -> toDs f xs = some ds -> DaVs T.K H us ds /\ ∀ d ∈ ds,d.canLay0 = true /\ d.depth <= n
 | _,_,ds,.nil,e=>by cases e; exact ⟨.nil,by simp⟩
 | _,_,ds,.cons (x:=x) (xs:=xs) r rs,e=>by
  unfold toDs at e
  split at e
  ·rename_i d ds' e1 e2
   cases e
   obtain ⟨q1,q2⟩:=hf r e1
   obtain ⟨q3,q4⟩:=zbi hf rs e2
   refine ⟨.cons q1 q3,λd hd=>?_⟩
   rcases List.mem_cons.mp hd with rfl | hd
   ·exact q2
   ·exact q4 d hd
  ·cases e
theorem ycj (S : Sim T ι h H) : ∀ (n : Nat) {x : AV} {u : V} {d : PyData},RV T ι H x u -> toD n h x = some d -> DaV T.K H u d /\ d.canLay0 = true /\ d.depth <= n
 | 0,x,u,d,r,e=>by
  unfold toD at e
  cases r with
  | non=>cases e; exact ⟨.non,rfl,Nat.le_refl _⟩
  | bl b=>cases e; exact ⟨.bl b,rfl,Nat.le_refl _⟩
  | int b=>cases e; exact ⟨.int b,rfl,Nat.le_refl _⟩
  | str a b=>cases e; exact ⟨.str _,b,Nat.le_refl _⟩
  | _=>cases e
 | n + 1,x,u,d,r,e=>by
  unfold toD at e
  have many : ∀ {xs : List AV} {us : List V} {ds : List PyData},RVs T ι H xs us -> toDs (toD n h) xs = some ds -> DaVs T.K H us ds /\ ∀ d ∈ ds,d.canLay0 = true /\ d.depth <= n:=λr e=>zbi (λr e=>ycj S n r e) r e
  have fin : ∀ {ds : List PyData},(∀ d ∈ ds,d.canLay0 = true /\ d.depth <= n) -> PyData.canLayAll0 ds = true /\ PyData.depthAll ds + 1 <= n + 1:=λq=>⟨zgc λd hd=>(q d hd).1,Nat.succ_le_succ (zel λd hd=>(q d hd).2)⟩
  cases r with
  | non=>cases e; exact ⟨.non,rfl,Nat.zero_le _⟩
  | bl b=>cases e; exact ⟨.bl b,rfl,Nat.zero_le _⟩
  | int b=>cases e; exact ⟨.int b,rfl,Nat.zero_le _⟩
  | str a b=>cases e; exact ⟨.str _,b,Nat.zero_le _⟩
  | tup k q r =>
   obtain ⟨ds,e1,rfl⟩:=Option.map_eq_some_iff.mp e
   obtain ⟨q1,q2⟩:=many r e1
   exact ⟨.tup (.of q) q1,fin q2⟩
  | fl k q r =>
   obtain ⟨ds,e1,rfl⟩:=Option.map_eq_some_iff.mp e
   obtain ⟨q1,q2⟩:=many r e1
   exact ⟨.lst (.inl q) q1,fin q2⟩
  | kfl q r =>
   obtain ⟨ds,e1,rfl⟩:=Option.map_eq_some_iff.mp e
   obtain ⟨q1,q2⟩:=many r e1
   exact ⟨.lst (.inr q) q1,fin q2⟩
  | @ref k a q =>
   dsimp only at e
   split at e
   ·rename_i ys hk
    obtain ⟨ds,e1,rfl⟩:=Option.map_eq_some_iff.mp e
    obtain ⟨u,e2,us,rfl,r⟩:=S.obj k _ a hk q
    obtain ⟨q1,q2⟩:=many r e1
    exact ⟨.lst (.inl (.inl e2)) q1,fin q2⟩
   ·cases e
  | exc _ _ _=>cases e
end
theorem ygS {i j : Int} : decide (V.int i = V.int j) = decide (i = j):=by rw [Bool.eq_iff_iff]; simp
theorem ygT {i j : Str} : decide (V.str i = V.str j) = decide (i = j):=by rw [Bool.eq_iff_iff]; simp
theorem yh5 {i j : Bool} : decide (V.bl i = V.bl j) = decide (i = j):=by rw [Bool.eq_iff_iff]; simp
theorem zeI {r : R2} {neg : Bool} (ho : OpR X g r) (h1 : ∀ x y H Q,(scal x y = true /\ Q (.bl (if neg then !decide (x = y) else decide (x = y))) H) -> r x y H Q)
  (h2 : ∀ x y H Q,(∃ d e,DaV T.K H x d /\ DaV T.K H y e /\ d.canLay0 = true /\ e.canLay0 = true /\ d.depth <= 60 /\ Q (.bl (if neg then !PyData.eqv d e else PyData.eqv d e)) H) -> r x y H Q) :
  OpS T (λx y h=>match eqA x y h with | some b=>.ok (.bl (if neg then !b else b)) h | none=>.bad) r:=by
 intro ι h H x y u w E Q S rx ry p
 dsimp only at p
 cases hb : eqA x y h with
 | none=>rw [hb] at p; exact p.elim
 | some b =>
  rw [hb] at p
  dsimp only at p
  unfold eqA at hb
  split at hb
  ·cases hb
   rw [yar rx,yar ry]
   exact h1 _ _ _ _ ⟨rfl,by rw [ygS]; exact p.now S (.bl _)⟩
  ·cases hb
   obtain ⟨rfl,_⟩:=yaS rx
   obtain ⟨rfl,_⟩:=yaS ry
   exact h1 _ _ _ _ ⟨rfl,by rw [ygT]; exact p.now S (.bl _)⟩
  ·cases hb
   rw [yci rx,yci ry]
   exact h1 _ _ _ _ ⟨rfl,by rw [yh5]; exact p.now S (.bl _)⟩
  ·cases hb
   rw [ydE rx,ydE ry]
   exact h1 _ _ _ _ ⟨rfl,by rw [show decide (V.non = V.non) = true from rfl]; exact p.now S (.bl _)⟩
  ·split at hb
   ·rename_i d e e1 e2
    cases hb
    obtain ⟨q1,q2,q3⟩:=ycj S 8 rx e1
    obtain ⟨q4,q5,q6⟩:=ycj S 8 ry e2
    exact h2 _ _ _ _ ⟨d,e,q1,q4,q2,q5,by omega,p.now S (.bl _)⟩
   ·cases hb
theorem o_eq (hK : X.K = T.K) (hu : X.A.units + 64 < cLine) : Op T X (compareOp .Eq) fEq :=
 ⟨_,op_eq.or (yfb hu),zeI (neg:=false) (op_eq.or (yfb hu)) (λ_ _ _ _ q=>.inl q) λ_ _ _ _ q=>.inr (hK ▸ q)⟩
theorem o_ne (hK : X.K = T.K) (hu : X.A.units + 64 < cLine) : Op T X (compareOp .NotEq) fNe :=
 ⟨_,op_ne.or (yfc hu),zeI (neg:=true) (op_ne.or (yfc hu)) (λ_ _ _ _ q=>.inl q) λ_ _ _ _ q=>.inr (hK ▸ q)⟩
theorem o_le : Op T X (compareOp .LtE) fLe:=by
 refine ⟨_,op_le.or zf0,λι h H x y u w E Q S rx ry p=>?_⟩
 unfold fLe at p
 split at p
 ·rw [yar rx,yar ry]
  exact .inl ⟨_,_,rfl,rfl,p.now S (.bl _)⟩
 ·obtain ⟨rfl,_⟩:=yaS rx
  obtain ⟨rfl,_⟩:=yaS ry
  exact .inr ⟨_,_,rfl,rfl,p.now S (.bl _)⟩
 ·exact p.elim
theorem o_gt : Op T X (compareOp .Gt) fGt:=by
 refine ⟨_,yhP,λι h H x y u w E Q S rx ry p=>?_⟩
 unfold fGt at p
 split at p
 ·rw [yar rx,yar ry]
  exact ⟨_,_,rfl,rfl,p.now S (.bl _)⟩
 ·exact p.elim
theorem o_ge : Op T X (compareOp .GtE) fGe:=by
 refine ⟨_,yhQ,λι h H x y u w E Q S rx ry p=>?_⟩
 unfold fGe at p
 split at p
 ·rw [yar rx,yar ry]
  exact ⟨_,_,rfl,rfl,p.now S (.bl _)⟩
 ·exact p.elim
theorem RV.non_iff {ι : Ix} {H : Hp} {x : AV} {u : V} (r : RV T ι H x u) : decide (x = .non) = decide (u = .non):=by
 exact decide_eq_decide.mpr ⟨λz=>by subst z; cases r; rfl,λz=>by subst z; cases r; rfl⟩
theorem yfQ : Op T X (compareOp .Is) fIsN:=by
 refine ⟨_,ygu,λι h H x y u w E Q S rx ry p=>?_⟩
 unfold fIsN at p
 split at p
 ·refine ⟨ydE ry,?_⟩
  rw [<- rx.non_iff]
  exact p.now S (.bl _)
 ·exact p.elim
theorem ygU : Op T X (compareOp .IsNot) yeO:=by
 refine ⟨_,zhJ,λι h H x y u w E Q S rx ry p=>?_⟩
 unfold yeO at p
 split at p
 ·refine ⟨ydE ry,?_⟩
  rw [<- rx.non_iff]
  exact p.now S (.bl _)
 ·exact p.elim
theorem ydP {op : CmpOp} {f : F2} (ho : Op T X (compareOp op) f) (ha : PEA T E X a sa) (hb : PEA T E X b sb) (hm : behindInMarks op b = false) : PEA T E X (.Compare a [op] [b] pos) (sOp2 f sa sb):=by
 obtain ⟨r,h1,h2⟩:=ho
 exact yaB (zhK h1 ha hb hm) λσ H Q q=>two h2 q
theorem yaI {op : CmpOp} {f : F2} (ho : Op T X (compareOp op) f) (ha : PEA T E X a sa) (hb : PEA T E X b sb) (hm : behindInMarks op b = false) : PTA T E X (.Compare a [op] [b] pos) (yaz (sOp2 f sa sb)):=by
 obtain ⟨r,h1,h2⟩:=ho
 refine ydZ (zhL h1 ha hb hm) λσ H Q q=>two (E:=E) (Q:=λx H' => ∃ k,x = V.bl k /\ Q k H') h2 ?_
 obtain ⟨ι,h,en,S,er,q⟩:=q
 refine ⟨ι,h,en,S,er,q.bind λx h1 ι1 H1 u g1 S1 r1 q1=>?_⟩
 split at q1
 ·rw [yci r1]
  exact ⟨_,rfl,q1.now S1 rfl⟩
 ·exact q1.elim
theorem yfR {f f' : F2} {r r' : R2} (hs : OpS T f r) (hs' : OpS T f' r') {σ : St} {H : Hp} {Q : VK} (q : tE T E (ybS f f' sa sb sc) σ H Q) : yew r r' (tE T E sa) (tE T E sb) (tE T E sc) σ H Q:=by
 obtain ⟨ι,h,en,S,er,q⟩:=q
 refine ⟨ι,h,en,S,er,q.bind λx h1 ι1 H1 u g1 S1 r1 q1=>⟨ι1,h1,en,S1,er.mono g1,q1.bind λy h2 ι2 H2 w g2 S2 r2 q2=>?_⟩⟩
 refine hs ι2 h2 H2 x y u w (E σ) _ S2 (r1.mono g2) r2 (q2.bind λz h3 ι3 H3 k g3 S3 r3 q3=>?_)
 split at q3
 ·rename_i kk
  rw [yci r3]
  refine ⟨kk,rfl,?_⟩
  by_cases hkk : kk = true
  ·rw [if_pos hkk] at q3 ⊢
   refine ⟨ι3,h3,en,S3,er.mono (g1.trans (g2.trans g3)),q3.bind λv h4 ι4 H4 j g4 S4 r4 q4=>?_⟩
   exact hs' ι4 h4 H4 y v w j _ Q S4 (r2.mono (g3.trans g4)) r4 q4
  ·rw [if_neg hkk] at q3 ⊢
   exact q3.now S3 (.bl _)
 ·exact q3.elim
theorem zbX {op op' : CmpOp} {f f' : F2} (ho : Op T X (compareOp op) f) (ho' : Op T X (compareOp op') f') (ha : PEA T E X a sa) (hb : PEA T E X b sb) (hc : PEA T E X c sc) (hm : lastMarks [op,op'] [b,c] = false:=by with_unfolding_all rfl) :
  PEA T E X (.Compare a [op,op'] [b,c] pos) (ybS f f' sa sb sc):=by
 obtain ⟨r,h1,h2⟩:=ho
 obtain ⟨r',h1',h2'⟩:=ho'
 exact yaB (zgJ h1 h1' ha hb hc hm) λσ H Q q=>yfR h2 h2' q
theorem zhg {op op' : CmpOp} {f f' : F2} (ho : Op T X (compareOp op) f) (ho' : Op T X (compareOp op') f') (ha : PEA T E X a sa) (hb : PEA T E X b sb) (hc : PEA T E X c sc) (hm : lastMarks [op,op'] [b,c] = false:=by with_unfolding_all rfl) :
  PTA T E X (.Compare a [op,op'] [b,c] pos) (yaz (ybS f f' sa sb sc)):=by
 obtain ⟨r,h1,h2⟩:=ho
 obtain ⟨r',h1',h2'⟩:=ho'
 refine ydZ (zgK h1 h1' ha hb hc hm) λσ H Q q=>yfR (E:=E) (Q:=λx H' => ∃ k,x = V.bl k /\ Q k H') h2 h2' ?_
 obtain ⟨ι,h,en,S,er,q⟩:=q
 refine ⟨ι,h,en,S,er,q.bind λx h1 ι1 H1 u g1 S1 r1 q1=>?_⟩
 split at q1
 ·rw [yci r1]
  exact ⟨_,rfl,q1.now S1 rfl⟩
 ·exact q1.elim
theorem ygV {ι : Ix} {h : AH} {H : Hp} {v : AV} {u : V} {k : Bool} (S : Sim T ι h H) (r : RV T ι H v u) (e : truA v h = some k) : TruV T.K u H k:=by
 unfold truA at e
 cases r with
 | non=>cases e; rfl
 | bl b=>cases e; rfl
 | int b=>cases e; rfl
 | str n o=>cases e; exact ⟨n,rfl⟩
 | tup n q r=>cases e; exact .inr (.inl ⟨_,.of q,by cases r<;>rfl⟩)
 | fl n q r=>cases e; exact .inl ⟨_,.inl q,by cases r<;>rfl⟩
 | kfl q r=>cases e; exact .inl ⟨_,.inr q,by cases r<;>rfl⟩
 | @ref n a q =>
  dsimp only at e
  split at e
  ·rename_i xs hk
   cases e
   obtain ⟨u,e1,us,rfl,r⟩:=S.obj n _ a hk q
   exact .inl ⟨us,.inl (.inl e1),by cases r<;>rfl⟩
  ·rename_i xs hk
   cases e
   obtain ⟨u,e1,us,rfl,r⟩:=S.obj n _ a hk q
   exact .inr (.inr ⟨us,e1,by cases r<;>rfl⟩)
  ·cases e
 | exc _ _ _=>cases e
theorem zan (hK : X.K = T.K) (ha : PEA T E X a sa) (he : ∀ whole,isTrue a X.env whole = (do let v <- whole; standAt a.pos; holding [v] (truthy v)):=by intro _; rfl) : PTA T E X a (ybK sa) :=
 ydZ (zgL ha he) λσ H Q ⟨ι,h,en,S,er,q⟩=>⟨ι,h,en,S,er,q.bind λx h1 ι1 H1 u g1 S1 r1 q1=>by
  split at q1
  ·rename_i b hb
   exact ⟨b,hK ▸ ygV S1 r1 hb,q1.now S1 rfl⟩
  ·exact q1.elim⟩
variable {ca cb : SB} {rest : List Expr}
theorem ycW (ha : PTA T E X a ca) : PTA T E X (.UnaryOp .Not a pos) (sNot ca) :=
 ydZ (ygh ha) λσ H Q ⟨ι,h,en,S,er,q⟩=>⟨ι,h,en,S,er,q.bind λx h1 ι1 H1 u g1 S1 r1 q1=>by subst r1; exact q1.now S1 rfl⟩
theorem rt_w (h : PWA T E X a ca) : PTA T E X a ca:=PW.pt h
theorem zaZ (ha : PTA T E X a ca) : PWA T E X (.BoolOp .And [a] pos) ca:=zhE ha
theorem yfg (ha : PTA T E X a ca) : PWA T E X (.BoolOp .Or [a] pos) ca:=ygf ha
theorem ycX (ha : PTA T E X a ca) (hb : PWA T E X (.BoolOp .And (b :: rest) pos) cb) : PWA T E X (.BoolOp .And (a :: b :: rest) pos) (sAnd ca cb) :=
 yfd (ygg ha hb) λσ H Q ⟨ι,h,en,S,er,q⟩=>⟨ι,h,en,S,er,q.bind λx h1 ι1 H1 u g1 S1 r1 q1=>by
  subst r1
  by_cases hx : x = true
  ·rw [if_pos hx] at q1 ⊢
   exact ⟨ι1,h1,en,S1,er.mono g1,q1⟩
  ·rw [if_neg hx] at q1 ⊢
   exact q1.now S1 rfl⟩
theorem yeQ (ha : PTA T E X a ca) (hb : PWA T E X (.BoolOp .Or (b :: rest) pos) cb) : PWA T E X (.BoolOp .Or (a :: b :: rest) pos) (sOr ca cb) :=
 yfd (yhD ha hb) λσ H Q ⟨ι,h,en,S,er,q⟩=>⟨ι,h,en,S,er,q.bind λx h1 ι1 H1 u g1 S1 r1 q1=>by
  subst r1
  by_cases hx : x = true
  ·rw [if_pos hx] at q1 ⊢
   exact q1.now S1 rfl
  ·rw [if_neg hx] at q1 ⊢
   exact ⟨ι1,h1,en,S1,er.mono g1,q1⟩⟩
theorem ydq {op} (h : PEA T E X a sa) : PEA T E X (.BoolOp op [a] pos) sa:=ygi h
theorem ydQ (ha : PEA T E X a sa) (hb : PEA T E X (.BoolOp .And (b :: rest) pos) sb) : PEA T E X (.BoolOp .And (a :: b :: rest) pos) (ydo sa sb) :=
 yaB (ygj ha hb) λσ H Q ⟨ι,h,en,S,er,q⟩=>⟨ι,h,en,S,er,q.bind λx h1 ι1 H1 u g1 S1 r1 q1=>by
  split at q1
  ·rename_i kk
   rw [yci r1]
   refine ⟨kk,rfl,?_⟩
   by_cases hkk : kk = true
   ·rw [if_pos hkk] at q1 ⊢
    exact ⟨ι1,h1,en,S1,er.mono g1,q1⟩
   ·rw [if_neg hkk] at q1 ⊢
    exact q1.now S1 (.bl _)
  ·exact q1.elim⟩
theorem r_or (ha : PEA T E X a sa) (hb : PEA T E X (.BoolOp .Or (b :: rest) pos) sb) : PEA T E X (.BoolOp .Or (a :: b :: rest) pos) (sOrV sa sb) :=
 yaB (yhG ha hb) λσ H Q ⟨ι,h,en,S,er,q⟩=>⟨ι,h,en,S,er,q.bind λx h1 ι1 H1 u g1 S1 r1 q1=>by
  split at q1
  ·rename_i kk
   rw [yci r1]
   refine ⟨kk,rfl,?_⟩
   by_cases hkk : kk = true
   ·rw [if_pos hkk] at q1 ⊢
    exact q1.now S1 (.bl _)
   ·rw [if_neg hkk] at q1 ⊢
    exact ⟨ι1,h1,en,S1,er.mono g1,q1⟩
  ·exact q1.elim⟩
theorem yeR (ha : PEA T E X a sa) : PEA T E X (.UnaryOp .Not a pos) (yeP sa) :=
 yaB (ygk ha) λσ H Q ⟨ι,h,en,S,er,q⟩=>⟨ι,h,en,S,er,q.bind λx h1 ι1 H1 u g1 S1 r1 q1=>by
  split at q1
  ·rw [yci r1]
   exact ⟨_,rfl,q1.now S1 (.bl _)⟩
  ·exact q1.elim⟩
theorem yfS {d : Expr} (hc : PTA T E X d ca) (ha : PEA T E X a sa) (hb : PEA T E X b sb) : PEA T E X (.IfExp d a b pos) (sIfE ca sa sb) :=
 yaB (zgG hc ha hb) λσ H Q ⟨ι,h,en,S,er,q⟩=>⟨ι,h,en,S,er,q.bind λx h1 ι1 H1 u g1 S1 r1 q1=>by
  subst r1
  by_cases hx : x = true
  ·rw [if_pos hx] at q1 ⊢
   exact ⟨ι1,h1,en,S1,er.mono g1,q1⟩
  ·rw [if_neg hx] at q1 ⊢
   exact ⟨ι1,h1,en,S1,er.mono g1,q1⟩⟩
variable {es : List Expr} {as : SL}
theorem yac : PAA T E X [] sNil:=yfe ydX λσ H Q ⟨ι,h,en,S,er,q⟩=>q.now S .nil
theorem zaa (ha : PEA T E X a sa) (hr : PAA T E X es as) (hs : starEach (a :: es) X.env = (false,eval a X.env) :: starEach es X.env:=by rfl) : PAA T E X (a :: es) (yaa sa as) :=
 yfe (zaY ha hr hs) λσ H Q ⟨ι,h,en,S,er,q⟩=>⟨ι,h,en,S,er,q.bind λx h1 ι1 H1 u g1 S1 r1 q1=>⟨ι1,h1,en,S1,er.mono g1,q1.bind λxs h2 ι2 H2 us g2 S2 r2 q2=>q2.now S2 (.cons (r1.mono g2) r2)⟩⟩
theorem ydr {k} (h : PAA T E X es as) : PEA T E X (.Tuple es k pos) (sTup as) :=
 yaB (ygy h) λσ H Q ⟨ι,h,en,S,er,q⟩=>⟨ι,h,en,S,er,q.bind λxs h1 ι1 H1 us g1 S1 r1 q1=>by
  split at q1
  ·rename_i hl
   exact ⟨by rw [<- r1.length]; exact Nat.le_trans hl (by decide),λp n=>zcO S1 r1 n q1⟩
  ·exact q1.elim⟩
theorem ybL (h : PAA T E X es as) : PEA T E X (.List es pos) (sLst as) :=
 yaB (ye6 h) λσ H Q ⟨ι,h,en,S,er,q⟩=>⟨ι,h,en,S,er,q.bind λxs h1 ι1 H1 us g1 S1 r1 q1=>by
  split at q1
  ·rename_i hl
   exact ⟨by rw [<- r1.length]; exact Nat.le_trans hl (by decide),λp n=>ydi S1 r1 n q1⟩
  ·exact q1.elim⟩
theorem ybT (h : PAA T E X es as) : PEA T E X (.List es pos) (yb7 as) :=
 yaB (ye6 h) λσ H Q ⟨ι,h,en,S,er,q⟩=>⟨ι,h,en,S,er,q.bind λxs h1 ι1 H1 us g1 S1 r1 q1=>by
  split at q1
  ·rename_i hl
   exact ⟨by rw [<- r1.length]; exact Nat.le_trans hl (by decide),λp n=>zia S1 r1 n q1⟩
  ·exact q1.elim⟩
theorem zie : PEA T E X (.Dict [] [] pos) (yfL true) :=
 yaB zgU λσ H Q ⟨ι,h,en,S,er,q⟩ p n=>q _ _ _ (S.growAdd n) (S.add n ⟨[],rfl,.nil⟩) (.ref S.addAt)
end
end Sm
namespace Sm
open PySem L2
section
variable {T : Tb} {E : St -> XK} {X : Cx} {pos : Pos} {a b : Expr} {sa sb : SE} {ca : SB} {st : Stmt} {sts ss1 ss2 : List Stmt} {s1 s2 : SS}
theorem yaJ : PSsA T E X [] yaL:=zeG zhF λD σ H ⟨ι,h,en,S,er,q⟩=>q ι H σ S.refl S er
theorem zab (h1 : PSA T E X st s1) (h2 : PSsA T E X sts s2) : PSsA T E X (st :: sts) (sSeq s1 s2) :=
 zeG (zgH h1 h2) λD σ H ⟨ι,h,en,S,er,q⟩=>by
  refine ⟨ι,h,en,S,er,?_⟩
  unfold sSeq at q
  cases e : s1 en h with
  | nx e1 h1 =>
   rw [e] at q
   exact λι' H' σ' g S' er' => ⟨ι',h1,e1,S',er',q.shift g⟩
  | rt v h1=>rw [e] at q; exact q
  | bk e1 h1=>rw [e] at q; exact q
  | ct e1 h1=>rw [e] at q; exact q
  | ex c e1 h1=>rw [e] at q; exact q
  | bad=>rw [e] at q; exact q
theorem yag (h1 : PSA T E X st s1) : PSsA T E X [st] s1:=zev h1
theorem yaP (ha : PEA T E X a sa) (hs : swapsWith a none pos.line X.env = pure false:=by rfl) : PSA T E X (.Expr a pos) (yaV sa) :=
 ybH (zhG ha hs) λD σ H ⟨ι,h,en,S,er,q⟩=>⟨ι,h,en,S,er,q.go er λv h1 ι1 H1 u g1 S1 r1 q1=>q1 ι1 H1 σ S1.refl S1 (er.mono g1)⟩
theorem yaw (ha : PEA T E X a sa) : PSA T E X (.Return (some a) pos) (sRet sa) :=
 ybH (ygl ha) λD σ H ⟨ι,h,en,S,er,q⟩=>⟨ι,h,en,S,er,q.go er λv h1 ι1 H1 u g1 S1 r1 q1=>q1 ι1 H1 u S1.refl S1 r1⟩
theorem r_if (hc : PTA T E X a ca) (h1 : PSsA T E X ss1 s1) (h2 : PSsA T E X ss2 s2) : PSA T E X (.If a ss1 ss2 pos) (sIf ca s1 s2) :=
 ybH (yhJ hc h1 h2) λD σ H ⟨ι,h,en,S,er,q⟩=>⟨ι,h,en,S,er,q.go er λx h1 ι1 H1 u g1 S1 r1 q1=>by
  subst r1
  by_cases hx : x = true
  ·rw [if_pos hx] at q1 ⊢
   exact ⟨ι1,h1,en,S1,er.mono g1,q1⟩
  ·rw [if_neg hx] at q1 ⊢
   exact ⟨ι1,h1,en,S1,er.mono g1,q1⟩⟩
theorem ygW {σ : St} {H : Hp} {D : Ends} {i : Nat} (q : tS T E (sSet i sa) D σ H) : tAsg (tE T E sa) (yeM i) D σ H:=by
 obtain ⟨ι,h,en,S,er,q⟩:=q
 exact ⟨ι,h,en,S,er,q.go er λv h1 ι1 H1 u g1 S1 r1 q1=>q1 ι1 H1 _ S1.refl S1 ((er.mono g1).set r1 i)⟩
theorem yam {i : Nat} {x : Str} {p' : Pos} (hN : X.N.Nodup) (ha : PEA T E X a sa) (hi : X.N[i]? = some x:=by rfl) (hx : Loc X.env.scope x:=by first | exact Or.inl rfl | exact Or.inr rfl) (hs : swapsWith a (some (.Name x p')) pos.line X.env = pure false:=by rfl)
  (hf : X.fn x = true \/ X.env.scope.names.lookup x = some .local:=by first | exact .inl rfl | exact .inr rfl | assumption) : PSA T E X (.Assign [.Name x p'] a pos) (sSet i sa) :=
 ybH (ygo hN hi hx ha hs hf) λD σ H q=>ygW q
theorem zde {ι : Ix} {H : Hp} : ∀ {is : List Nat} {xs : List AV} {us : List V} {en e : En} {σ : St},RVs T ι H xs us -> ER T ι H en σ -> yd0 is xs en = some e -> ER T ι H e ((is.zip us).foldl (λσ p=>σ.set p.1 (some p.2)) σ) /\ us.length = is.length
 | [],_,_,en,e,σ,.nil,er,q=>by cases q; exact ⟨er,rfl⟩
 | i :: is,_,_,en,e,σ,.cons r rs,er,q=>by
  obtain ⟨h1,h2⟩:=zde (is:=is) rs (er.set r i) q
  exact ⟨h1,by simp [h2]⟩
 | [],_,_,en,e,σ,.cons r rs,er,q=>by cases q
 | i :: is,_,_,en,e,σ,.nil,er,q=>by cases q
def PGA (T : Tb) (X : Cx) (tg : Expr) (t : Tg) : Prop:=∃ g,PG X tg g /\ ∀ {ι : Ix} {h : AH} {H : Hp} {en e : En} {σ : St} {v : AV} {u : V} {Q : St -> Hp -> Prop},Sim T ι h H -> ER T ι H en σ -> RV T ι H v u -> setT t v en = some e ->
 (∀ σ',ER T ι H e σ' -> Q σ' H) -> g u σ H Q
theorem zaC {i : Nat} {x : Str} (hN : X.N.Nodup) (hi : X.N[i]? = some x:=by rfl) (hx : Loc X.env.scope x:=by first | exact Or.inl rfl | exact Or.inr rfl) (hf : X.fn x = true \/ X.env.scope.names.lookup x = some .local:=by first | exact .inl rfl | exact .inr rfl | assumption) :
  PGA T X (.Name x pos) (.nm i):=⟨_,zew hN hi hx hf,λS er r e k=>by cases e; exact k _ (er.set r i)⟩
def PGsA (X : Cx) (es : List Expr) (is : List Nat) : Prop:=PGs X es (λvs σ H Q=>vs.length = is.length /\ Q ((is.zip vs).foldl (λσ p=>σ.set p.1 (some p.2)) σ) H)
theorem zeJ {X : Cx} {es : List Expr} {t t' : TGs} (h : PGs X es t) (k : ∀ vs σ H Q,t' vs σ H Q -> t vs σ H Q) : PGs X es t' := λpins s σ H vs us Q I r q=>h pins s σ H vs us Q I r (k vs σ H Q q)
theorem zeK : PGsA X [] []:=zeJ zhH λvs σ H Q ⟨l,q⟩=>by
 cases vs with
 | nil=>exact ⟨rfl,q⟩
 | cons=>cases l
theorem za3 {i : Nat} {is : List Nat} {x : Str} {p : Pos} {es : List Expr} (hN : X.N.Nodup) (hr : PGsA X es is) (hi : X.N[i]? = some x:=by rfl) (hx : Loc X.env.scope x:=by first | exact Or.inl rfl | exact Or.inr rfl)
  (hf : X.fn x = true \/ X.env.scope.names.lookup x = some .local:=by first | exact .inl rfl | exact .inr rfl | assumption) (hs : (assignEach (.Name x p :: es) X.env).map (·.2) = assign (.Name x p) X.env :: (assignEach es X.env).map (·.2):=by rfl) : PGsA X (.Name x p :: es) (i :: is) :=
 zeJ (zgI (zew hN hi hx hf) hr hs) λvs σ H Q ⟨l,q⟩=>by
  cases vs with
  | nil=>cases l
  | cons v r=>exact ⟨v,r,rfl,Nat.succ.inj l,q⟩
theorem yfh {es : List Expr} {is : List Nat} {k : Nat} (hK : X.K = T.K) (hc : X.calm = true) (h : PGsA X es is) (hn : (assignEach es X.env).length = is.length:=by rfl) (hst : (assignEach es X.env).findIdx? (·.1) = none:=by rfl) : PGA T X (.Tuple es k pos) (.tup is) :=
 ⟨_,ygm hc h hn hst,λ{ι h H en e σ v u Q} S er r q k=>by
  unfold setT at q
  split at q
  ·rename_i hh; cases hh
  ·rename_i hh
   cases hh
   obtain ⟨a,us,rfl,q1,r1⟩:=ycV r
   obtain ⟨h1,h2⟩:=zde r1 er q
   exact ⟨a,us,rfl,hK ▸ q1,h2,h2,k _ h1⟩
  ·rename_i hh; cases hh
  ·cases q⟩
theorem ygX {tg : Expr} {t : Tg} (ha : PEA T E X a sa) (hg : PGA T X tg t) (hs : swapsWithSole [tg] a pos.line X.env = pure false:=by rfl) (hw : swappedStores [tg] a X.env = pure none:=by rfl)
  (h1 : (assignEach [tg] X.env).map (·.2) = [assign tg X.env]:=by rfl) : PSA T E X (.Assign [tg] a pos) (yfM t sa):=by
 obtain ⟨g,hg1,hg2⟩:=hg
 refine ybH (ye3 ha hg1 hs hw h1) λD σ H ⟨ι,h,en,S,er,q⟩=>⟨ι,h,en,S,er,q.go er λv h1 ι1 H1 u g1 S1 r1 q1=>?_⟩
 split at q1
 ·rename_i e he
  exact hg2 S1 (er.mono g1) r1 he λσ' er' => q1 ι1 H1 σ' S1.refl S1 er'
 ·exact q1.elim
structure ItR (T : Tb) (J : It) (ι : Ix) (H : Hp) (xs : List AV) (w : Option Nat) : Prop where
 go : ∀ (i : Nat) (ι' : Ix) (h' : AH) (H' : Hp) (x : AV),Ext ι H ι' H' -> Sim T ι' h' H' -> yaZ w xs h' = true -> xs[i]? = some x -> J.go i H' /\ ∀ u H2,J.yld i H' u H2 -> Grow ι' H' ι' H2 /\ Sim T ι' h' H2 /\ RV T ι' H2 x u
 stop : ∀ (i : Nat) (ι' : Ix) (h' : AH) (H' : Hp),Ext ι H ι' H' -> Sim T ι' h' H' -> yaZ w xs h' = true -> xs.length <= i -> J.stop i H'
def tI (T : Tb) (it : SI) : TI:=λσ H R=>∃ ι h en,Sim T ι h H /\ ER T ι H en σ /\ match it en h with
 | .ok (xs,w) h' => ∀ ι' H' J,Grow ι H ι' H' -> Sim T ι' h' H' -> ItR T J ι' H' xs w -> R J H'
 | _=>False
abbrev PIA (T : Tb) (X : Cx) (tg iter : Expr) (it : SI) : Prop:=PI X tg iter (tI T it)
theorem ydF {X : Cx} {tg iter : Expr} {t t' : TI} (h : PI X tg iter t) (k : ∀ σ H R,t' σ H R -> t σ H R) : PI X tg iter t' := λpins s σ H R I q=>h pins s σ H R I (k σ H R q)
theorem PI.or {X : Cx} {tg iter : Expr} {t t' : TI} (h : PI X tg iter t) (h' : PI X tg iter t') : PI X tg iter (λσ H R=>t σ H R \/ t' σ H R):=λpins s σ H R I q=>q.elim (h pins s σ H R I) (h' pins s σ H R I)
theorem yfi {ι : Ix} {H : Hp} {a : Addr} {us : List V} {xs : List AV} {K : PySem.W.Frag} (keep : ∀ (ι' : Ix) (H' : Hp),Ext ι H ι' H' -> SqL K H' a us) (r : RVs T ι H xs us) : ItR T (Itl K a) ι H xs none:=by
 constructor
 ·intro i ι' h' H' x g S _ e
  obtain ⟨u,e1,r1⟩:=(r.ext g).get e
  refine ⟨⟨us,u,keep ι' H' g,e1⟩,?_⟩
  rintro u2 H2 ⟨rfl,y⟩
  have z:=y us (keep ι' _ g)
  rw [e1] at z; cases z
  exact ⟨S.refl,S,r1⟩
 ·intro i ι' h' H' g S _ hl
  exact ⟨us,keep ι' H' g,by rw [<- r.length]; exact hl⟩
theorem ygY {ι : Ix} {H : Hp} {a : Addr} {us : List V} {xs : List AV} {K : PySem.W.Frag} (keep : ∀ (ι' : Ix) (H' : Hp),Ext ι H ι' H' -> SqT K H' a us) (r : RVs T ι H xs us) : ItR T (Itt K a) ι H xs none:=by
 constructor
 ·intro i ι' h' H' x g S _ e
  obtain ⟨u,e1,r1⟩:=(r.ext g).get e
  refine ⟨⟨us,u,keep ι' H' g,e1⟩,?_⟩
  rintro u2 H2 ⟨rfl,y⟩
  have z:=y us (keep ι' _ g)
  rw [e1] at z; cases z
  exact ⟨S.refl,S,r1⟩
 ·intro i ι' h' H' g S _ hl
  exact ⟨us,keep ι' H' g,by rw [<- r.length]; exact hl⟩
theorem zif {ι : Ix} {H : Hp} {a : Addr} {n : Nat} {xs : List AV} {K : PySem.W.Frag} (e : ι.refs[n]? = some a) : ItR T (Itl K a) ι H xs (some n):=by
 have at_ : ∀ {ι' : Ix} {h' : AH} {H' : Hp},Ext ι H ι' H' -> Sim T ι' h' H' -> yaZ (some n) xs h' = true -> ∃ us,H' a = some (.lst us) /\ RVs T ι' H' xs us:=λ{ι' h' H'} g S l=>by
  unfold yaZ at l
  dsimp only at l
  split at l
  ·rename_i ys hy
   have z:=of_decide_eq_true l
   subst z
   obtain ⟨u,e1,us,rfl,r⟩:=S.obj n _ a hy (g.at_ e)
   exact ⟨us,e1,r⟩
  ·cases l
 constructor
 ·intro i ι' h' H' x g S l e
  obtain ⟨us,e0,r⟩:=at_ g S l
  obtain ⟨u,e1,r1⟩:=r.get e
  refine ⟨⟨us,u,.of e0,e1⟩,?_⟩
  rintro u2 H2 ⟨rfl,y⟩
  have z:=y us (.of e0)
  rw [e1] at z; cases z
  exact ⟨S.refl,S,r1⟩
 ·intro i ι' h' H' g S l hl
  obtain ⟨us,e0,r⟩:=at_ g S l
  exact ⟨us,.of e0,by rw [<- r.length]; exact hl⟩
theorem zig {ι : Ix} {H : Hp} {x : Str} (o : x.cps.all (· < 0x110000) = true) : ItR T (Its x) ι H (x.cps.toList.map λc=>.str ⟨#[c]⟩) none:=by
 constructor
 ·intro i ι' h' H' y g S _ e
  rw [List.getElem?_map] at e
  obtain ⟨c,e1,rfl⟩:=Option.map_eq_some_iff.mp e
  have hi : i < x.cps.size:=by
   have:=(List.getElem?_eq_some_iff.mp e1).1
   simpa using this
  refine ⟨hi,?_⟩
  rintro u H2 ⟨rfl,c',e2,rfl⟩
  have z : x.cps[i]? = some c:=by simpa using e1
  rw [e2] at z; cases z
  refine ⟨S.refl,S,.str (show 1 <= sizeLine by decide) ?_⟩
  have m:=Array.mem_of_getElem? e2
  have:=Array.all_eq_true_iff_forall_mem.mp o _ m
  simpa using this
 ·intro i ι' h' H' g S _ hl
  show x.cps.size <= i
  simpa using hl
theorem zfo (n : Nat) : ∀ (lo : Int) (i : Nat),(yaC lo n)[i]? = if i < n then some (.int (lo + i)) else none:=by
 induction n with
 | zero=>intro lo i; simp [yaC]
 | succ n ih =>
  intro lo i
  cases i with
  | zero=>simp [yaC]
  | succ i =>
   show (yaC (lo + 1) n)[i]? = _
   rw [ih]
   by_cases h : i < n
   ·rw [if_pos h,if_pos (by omega)]
    congr 2
    show lo + 1 + (i : Int) = lo + ((i + 1 : Nat) : Int)
    omega
   ·rw [if_neg h,if_neg (by omega)]
theorem zdp (n : Nat) : ∀ lo : Int,(yaC lo n).length = n:=by
 induction n with
 | zero=>intro lo; rfl
 | succ n ih=>intro lo; show (yaC (lo + 1) n).length + 1 = n + 1; rw [ih]
theorem zdf {ι : Ix} {H : Hp} {lo : Int} {n : Nat} : ItR T (Itr lo n) ι H (yaC lo n) none:=by
 constructor
 ·intro i ι' h' H' y g S _ e
  rw [zfo] at e
  split at e
  ·rename_i hi
   cases e
   refine ⟨hi,?_⟩
   rintro u H2 ⟨rfl,rfl⟩
   exact ⟨S.refl,S,.int _⟩
  ·cases e
 ·intro i ι' h' H' g S _ hl
  rw [zdp] at hl
  exact hl
theorem zbI : ∀ (xs : List AV) (k i : Nat),(numbered k xs)[i]? = (xs[i]?).map λx=>.tup [.int ((k + i : Nat) : Int),x]
 | [],k,i=>by simp [numbered]
 | x :: xs,k,0=>by simp [numbered]
 | x :: xs,k,i + 1=>by
  show (numbered (k + 1) xs)[i]? = _
  rw [zbI xs (k + 1) i]
  show _ = (xs[i]?).map _
  congr 1
  funext y
  rw [show k + 1 + i = k + (i + 1) by omega]
theorem zba : ∀ (xs : List AV) (k : Nat),(numbered k xs).length = xs.length
 | [],_=>rfl
 | x :: xs,k=>by show (numbered (k + 1) xs).length + 1 = _; rw [zba xs]; rfl
theorem zdR {ι : Ix} {H : Hp} {a : Addr} {us : List V} {xs : List AV} {K : PySem.W.Frag} (keep : ∀ (ι' : Ix) (H' : Hp),Ext ι H ι' H' -> SqL K H' a us) (r : RVs T ι H xs us) : ItR T (Ite K a) ι H (numbered 0 xs) none:=by
 constructor
 ·intro i ι' h' H' x g S _ e
  rw [zbI] at e
  obtain ⟨y,e0,rfl⟩:=Option.map_eq_some_iff.mp e
  obtain ⟨u,e1,r1⟩:=(r.ext g).get e0
  refine ⟨⟨us,u,keep ι' H' g,e1⟩,?_⟩
  rintro u2 H2 ⟨t,y2,rfl,hn,rfl,hy⟩
  have z:=hy us (keep ι' _ g)
  rw [e1] at z; cases z
  have g2:=S.growNew (o:=.tup [.int i,u]) hn
  refine ⟨g2,S.new hn,.tup (S.fresh hn) zac (.cons ?_ (.cons (r1.mono g2) .nil))⟩
  rw [Nat.zero_add]
  exact .int _
 ·intro i ι' h' H' g S _ hl
  rw [zba] at hl
  exact ⟨us,keep ι' H' g,by rw [<- r.length]; exact hl⟩
theorem yfT {ι : Ix} {H : Hp} {a : Addr} {us : List V} (n : a ∉ ι.all) (h : Rd H a (.lst us)) : ∀ (ι' : Ix) (H' : Hp),Ext ι H ι' H' -> SqL T.K H' a us:=λ_ _ g=>.inl (zeF g n h)
theorem yh6 {ι : Ix} {H : Hp} {a : Addr} {us : List V} (n : a ∉ ι.all) (h : H a = some (.tup us)) : ∀ (ι' : Ix) (H' : Hp),Ext ι H ι' H' -> SqT T.K H' a us:=λ_ _ g=>.of (g.keep _ _ n h)
theorem yd3 {K K' : PySem.W.Frag} {H : Hp} {a : Addr} {us : List V} (e : K = K') (h : SqL K' H a us) : SqL K H a us:=e ▸ h
theorem yfU {σ : St} {H : Hp} {R : It -> Hp -> Prop} {ι : Ix} {h h1 : AH} {en : En} {v : AV} {xs : List AV} {w : Option Nat} (hK : X.K = T.K) (S : Sim T ι h H) (er : ER T ι H en σ) (e : sa en h = .ok v h1) (hv : (v = .fl xs /\ w = none) \/ ∃ n,v = .ref n /\ h1[n]? = some (.lst xs) /\ w = some n)
  (q : ∀ ι' H' J,Grow ι H ι' H' -> Sim T ι' h1 H' -> ItR T J ι' H' xs w -> R J H') : yfG X.K (tE T E sa) σ H R:=by
 refine ⟨ι,h,en,S,er,?_⟩
 rw [e]
 intro ι1 H1 u g1 S1 r1
 rcases hv with ⟨rfl,rfl⟩ | ⟨n,rfl,hn,rfl⟩
 ·cases r1 with
  | fl n hr rs=>exact ⟨_,rfl,⟨_,yd3 hK (.inl hr)⟩,q ι1 H1 _ g1 S1 (hK ▸ yfi (yfT n hr) rs)⟩
  | kfl hr rs=>exact ⟨_,rfl,⟨_,yd3 hK (.inr hr)⟩,q ι1 H1 _ g1 S1 (hK ▸ yfi (λ_ _ _=>.inr hr) rs)⟩
 ·cases r1 with
  | ref hr =>
   obtain ⟨u,e1,us,rfl,rs⟩:=S1.obj n _ _ hn hr
   exact ⟨_,rfl,⟨_,.of e1⟩,q ι1 H1 _ g1 S1 (zif hr)⟩
theorem yh7 {σ : St} {H : Hp} {R : It -> Hp -> Prop} {ι : Ix} {h h1 : AH} {en : En} {xs : List AV} (hK : X.K = T.K) (S : Sim T ι h H) (er : ER T ι H en σ) (e : sa en h = .ok (.tup xs) h1)
  (q : ∀ ι' H' J,Grow ι H ι' H' -> Sim T ι' h1 H' -> ItR T J ι' H' xs none -> R J H') : iTup X.K (tE T E sa) σ H R:=by
 refine ⟨ι,h,en,S,er,?_⟩
 rw [e]
 intro ι1 H1 u g1 S1 r1
 cases r1 with
 | tup n hr rs=>exact ⟨_,rfl,⟨_,.of hr⟩,q ι1 H1 _ g1 S1 (hK ▸ ygY (yh6 n hr) rs)⟩
theorem ydj {y : Str} {py : Pos} (hK : X.K = T.K) (ha : PEA T E X a sa) : PIA T X (.Name y py) a (iVal sa) :=
 ydF (PI.or (zhI ha) (PI.or (ygp ha) (ygI ha))) λσ H R ⟨ι,h,en,S,er,q⟩=>by
  unfold iVal at q
  cases e : sa en h with
  | bad=>rw [e] at q; exact q.elim
  | ex c h1=>rw [e] at q; exact q.elim
  | ok v h1 =>
   rw [e] at q
   cases v with
   | fl xs=>exact .inl (yfU hK S er e (.inl ⟨rfl,rfl⟩) q)
   | tup xs=>exact .inr (.inl (yh7 hK S er e q))
   | str z =>
    refine .inr (.inr ⟨ι,h,en,S,er,?_⟩)
    rw [e]
    intro ι1 H1 u g1 S1 r1
    obtain ⟨rfl,_,o⟩:=yaS r1
    exact ⟨_,rfl,q ι1 H1 _ g1 S1 (zig o)⟩
   | ref n =>
    dsimp only [Out.bind] at q
    cases e2 : h1[n]? with
    | none=>rw [e2] at q; exact q.elim
    | some o =>
     rw [e2] at q
     cases o with
     | lst xs=>exact .inl (yfU hK S er e (.inr ⟨n,rfl,e2,rfl⟩) q)
     | _=>exact q.elim
   | _=>exact q.elim
theorem zaR {tg : Expr} {p : Pos} (hg : Gl X "range") (hm : X.mg "range" = none) (ha : PEA T E X a sa) (hs : starEach [a] X.env = [(false,eval a X.env)]:=by rfl) : PIA T X tg (.Call (.Name "range" p) [a] [] pos) (ybk sa) :=
 ydF (zfJ hg hm (zaa ha yac hs) hs) λσ H R ⟨ι,h,en,S,er,q⟩=>by
  unfold ybk at q
  refine ⟨ι,h,en,S,er,?_⟩
  unfold yaa
  cases e : sa en h with
  | bad=>rw [e] at q; exact q
  | ex c h1=>rw [e] at q; exact q.elim
  | ok v h1 =>
   rw [e] at q
   intro ι1 H1 u g1 S1 r1
   dsimp only [Out.bind] at q
   cases v with
   | int j =>
    dsimp only at q
    split at q
    ·rename_i hx
     split at hx
     ·rename_i hb
      cases hx
      cases r1 with
      | cons r r' =>
       cases r'
       rw [yar r]
       exact ⟨j,rfl,by omega,by omega,q ι1 H1 _ g1 S1 zdf⟩
     ·cases hx
    ·exact q.elim
   | _=>exact q.elim
theorem zdg {tg : Expr} {p : Pos} (hg : Gl X "range") (hm : X.mg "range" = none) (ha : PEA T E X a sa) (hb : PEA T E X b sb) (hs : starEach [a,b] X.env = [(false,eval a X.env),(false,eval b X.env)]:=by rfl) (hs2 : starEach [b] X.env = [(false,eval b X.env)]:=by rfl) :
  PIA T X tg (.Call (.Name "range" p) [a,b] [] pos) (ybq sa sb) :=
 ydF (zfK hg hm (zaa ha (zaa hb yac hs2) (by rw [hs,hs2])) hs hs2) λσ H R ⟨ι,h,en,S,er,q⟩=>by
  unfold ybq at q
  refine ⟨ι,h,en,S,er,?_⟩
  unfold yaa
  cases e : sa en h with
  | bad=>rw [e] at q; exact q
  | ex c h1=>rw [e] at q; exact q.elim
  | ok v h1 =>
   rw [e] at q
   dsimp only [Out.bind] at q ⊢
   cases e' : sb en h1 with
   | bad=>rw [e'] at q; exact q
   | ex c h1=>rw [e'] at q; exact q.elim
   | ok v' h2 =>
    rw [e'] at q
    dsimp only at q
    intro ι1 H1 u g1 S1 r1
    split at q
    ·rename_i hx
     split at hx
     ·split at hx
      ·rename_i hb
       cases hx
       cases r1 with
       | cons r r' =>
        cases r' with
        | cons r2 r3 =>
         cases r3
         rw [yar r,yar r2]
         exact ⟨_,_,rfl,by omega,q ι1 H1 _ g1 S1 zdf⟩
      ·cases hx
     ·cases hx
    ·exact q.elim
theorem zih {p tp : Pos} {es : List Expr} {k : Nat} (hK : X.K = T.K) (hg : Gl X "enumerate") (hm : X.mg "enumerate" = none) (ha : PEA T E X a sa) (hs : starEach [a] X.env = [(false,eval a X.env)]:=by rfl) : PIA T X (.Tuple es k tp) (.Call (.Name "enumerate" p) [a] [] pos) (Sm.iEnum sa) :=
 ydF (zhZ hg hm (zaa ha yac hs) hs) λσ H R ⟨ι,h,en,S,er,q⟩=>by
  unfold Sm.iEnum at q
  refine ⟨ι,h,en,S,er,?_⟩
  unfold yaa
  cases e : sa en h with
  | bad=>rw [e] at q; exact q
  | ex c h1=>rw [e] at q; exact q.elim
  | ok v h1 =>
   rw [e] at q
   intro ι1 H1 u g1 S1 r1
   dsimp only [Out.bind] at q
   cases v with
   | fl xs =>
    cases r1 with
    | cons r r' =>
     cases r'
     cases r with
     | fl n hr rs=>exact ⟨_,rfl,⟨_,yd3 hK (.inl hr)⟩,q ι1 H1 _ g1 S1 (hK ▸ zdR (yfT n hr) rs)⟩
     | kfl hr rs=>exact ⟨_,rfl,⟨_,yd3 hK (.inr hr)⟩,q ι1 H1 _ g1 S1 (hK ▸ zdR (λ_ _ _=>.inr hr) rs)⟩
   | _=>exact q.elim
theorem zbJ {α : Type} {xs : List α} {i : Nat} (h : i < xs.length) : xs.drop i = xs[i] :: xs.drop (i + 1):=by simp
theorem ycI {tg iter : Expr} {it : SI} {t : Tg} (hc : X.calm = true) (hi : PIA T X.nox tg iter it) (hg : PGA T X.nox tg t) (hb : PSsA T EN X.nox sts s1) (hs : ∀ x,foldedSetIterable iter X.nox.env x = pure x:=by intro _; rfl) :
  PSA T E X (.For tg iter sts [] pos) (sFor it t s1):=by
 obtain ⟨g,hg1,hg2⟩:=hg
 refine ybH (ygR (ye4 PassesOwn.never hc hi hg1 hb hs)) λD σ H ⟨ι,h,en,S,er,q⟩=>⟨ι,h,en,S,er,?_⟩
 unfold sFor at q
 cases e : it en h with
 | bad=>rw [e] at q; exact q
 | ex c h1=>rw [e] at q; exact q
 | ok p h1 =>
  obtain ⟨xs,w⟩:=p
  rw [e] at q
  intro ι1 H1 J g1 S1 IR
  refine ⟨λi m σ H=>m = xs.length - i /\ i <= xs.length /\ ∃ ι' h' en',Grow ι1 H1 ι' H /\ Sim T ι' h' H /\ ER T ι' H en' σ /\ PostS T ι' H E (yaH w xs t s1 (xs.drop i) en' h') D,
   ⟨xs.length,by simp,Nat.zero_le _,ι1,h1,en,S1.refl,S1,er.mono g1,PostS.shift q g1⟩,?_⟩
  rintro i m σ H ⟨rfl,hi,ι',h',en',g',S',er',q'⟩
  by_cases hl : i < xs.length
  ·rw [zbJ hl] at q'
   unfold yaH at q'
   split at q'
   ·rename_i hlive
    obtain ⟨go,yld⟩:=IR.go i ι' h' H xs[i] g'.ext S' hlive (by simp [hl])
    refine .inr ⟨go,λσ H=>∃ ι' h' en',Grow ι1 H1 ι' H /\ Sim T ι' h' H /\ ER T ι' H en' σ /\ PostS T ι' H E (yaH w xs t s1 (xs.drop (i + 1)) en' h') D,
     λσ' H' w' => ⟨xs.length - (i + 1),by omega,rfl,hl,w'⟩,λx H' y=>?_⟩
    obtain ⟨g2,S2,r2⟩:=yld x H' y
    split at q'
    ·rename_i e1 he1
     refine hg2 S2 (er'.mono g2) r2 he1 λσ' er2=>⟨ι',h',e1,S2,er2,?_⟩
     have q2:=PostS.shift q' g2
     cases e2 : s1 e1 h' with
     | nx e3 h3=>rw [e2] at q2; exact λι3 H3 σ3 g3 S3 er3=>⟨ι3,h3,e3,g'.trans (g2.trans g3),S3,er3,q2.shift g3⟩
     | ct e3 h3=>rw [e2] at q2; exact λι3 H3 σ3 g3 S3 er3=>⟨ι3,h3,e3,g'.trans (g2.trans g3),S3,er3,q2.shift g3⟩
     | bk e3 h3=>rw [e2] at q2; exact q2
     | rt v h3=>rw [e2] at q2; exact q2
     | ex c e3 h3=>rw [e2] at q2; exact (show False from q2).elim
     | bad=>rw [e2] at q2; exact q2
    ·exact (show False from q').elim
   ·exact (show False from q').elim
  ·have ei : i = xs.length:=by omega
   subst ei
   rw [List.drop_length] at q'
   unfold yaH at q'
   split at q'
   ·rename_i hlive
    exact .inl ⟨IR.stop _ ι' h' H g'.ext S' hlive (Nat.le_refl _),q' ι' H σ S'.refl S' er'⟩
   ·exact (show False from q').elim
theorem ER.comp {ι : Ix} {H : Hp} {en : En} {σ : St} {x : AV} {u : V} {jf : List (Nat × Str)} (er : ER T ι H en σ) (r : RV T ι H x u) : ER T ι H (some x :: (jf.map (·.1)).map λj=>(en[j]?).join) (ybm (some u) jf σ):=by
 refine ⟨by simp [ybm],λi v e=>?_⟩
 cases i with
 | zero=>simp at e; subst e; exact ⟨u,rfl,r⟩
 | succ i =>
  simp only [List.getElem?_cons_succ,List.getElem?_map] at e
  unfold ybm
  simp only [List.getElem?_cons_succ,List.getElem?_map]
  cases e1 : jf[i]? with
  | none=>rw [e1] at e; cases e
  | some j =>
   rw [e1] at e
   simp only [Option.map_some,Option.some.injEq] at e
   have e2 : en[j.1]? = some (some v):=by
    cases e3 : en[j.1]? with
    | none=>rw [e3] at e; cases e
    | some o=>rw [e3] at e; exact congrArg some e
   obtain ⟨u',e4,r'⟩:=er.2 j.1 v e2
   exact ⟨u',by simp [e4],r'⟩
structure CoS (T : Tb) (ι1 : Ix) (H1 : Hp) (en : En) (σ : St) (D : Addr) (ι' : Ix) (h' : AH) (vs : List AV) (ys : List V) (H2 : Hp) : Prop where
 hD : H2 D = some (.lst ys)
 g : Grow ι1 H1 ι' H2
 x : Ext ι1 H1 (ι'.hide D) H2
 S : Sim T (ι'.hide D) h' H2
 er : ER T (ι'.hide D) H2 en σ
 rv : RVs T (ι'.hide D) H2 vs ys
 nD : D ∉ ι'.refs
theorem zeL {ι' ι5 : Ix} {D : Addr} (e : ι5.priv = (ι'.hide D).priv) : ι5 = Ix.hide ⟨ι5.refs,ι'.priv⟩ D:=by
 cases ι5
 simp only at e
 subst e
 rfl
theorem zgd {ι1 ι' ι5 : Ix} {H1 H2 H5 : Hp} {D : Addr} (g' : Grow ι1 H1 ι' H2) (g : Grow (ι'.hide D) H2 ι5 H5) : Grow ι1 H1 ⟨ι5.refs,ι'.priv⟩ H5:=by
 obtain ⟨n,en1,hn⟩:=g'.pre
 obtain ⟨k,ek,hk⟩:=g.pre
 refine ⟨⟨n++k,?_,λa ha=>?_⟩,g'.priv,λa o na ea=>g.keep a o (g'.outR na ea) (g'.keep a o na ea),λa ha=>g.live a ?_⟩
 ·show ι5.refs = _; rw [ek]; show ι'.refs++k = _; rw [en1,List.append_assoc]
 ·rcases List.mem_append.mp ha with z | z
  ·exact hn a z
  ·have z2:=hk a z
   by_cases hr : a ∈ ι1.refs
   ·exact absurd z2 (g'.live a (List.mem_append_left _ hr))
   ·cases e9 : H1 a with
    | none=>rfl
    | some o=>rw [g'.keep a o hr e9] at z2; cases z2
 ·rcases List.mem_append.mp ha with z | z
  ·exact List.mem_append_left _ (by show a ∈ ι'.refs; rw [en1]; exact List.mem_append_left _ z)
  ·exact List.mem_append_right _ (List.mem_cons_of_mem _ (by rw [g'.priv]; exact z))
section
variable {ι ι1 ι' ι5 : Ix} {H H1 H2 H5 : Hp} {h1 h' h5 : AH} {en : En} {σ : St} {D : Addr} {vs : List AV} {ys : List V}
theorem CoS.skip (c : CoS T ι1 H1 en σ D ι' h' vs ys H2) (g : Grow (ι'.hide D) H2 ι5 H5) (S : Sim T ι5 h5 H5) : CoS T ι1 H1 en σ D ⟨ι5.refs,ι'.priv⟩ h5 vs ys H5:=by
 have e:=zeL g.priv
 exact ⟨g.keep D _ c.nD c.hD,zgd c.g g,e ▸ c.x.trans g.ext,e ▸ S,e ▸ c.er.mono g,e ▸ c.rv.mono g,g.outR c.nD c.hD⟩
theorem CoS.poke {v : AV} {u : V} (c : CoS T ι1 H1 en σ D ι' h' vs ys H2) (hD : H1 D = none) (r : RV T (ι'.hide D) H2 v u) : CoS T ι1 H1 en σ D ι' h' (vs++[v]) (ys++[u]) (upd H2 D (.lst (ys++[u]))):=by
 refine ⟨zac,⟨c.g.pre,c.g.priv,λa o na ea=>by rw [yak (zag ea hD)]; exact c.g.keep a o na ea,λa ha=>?_⟩,c.x.trans Ext.poke,Sim.poke c.S c.nD,ER.ext c.er Ext.poke,RVs.ext Ext.poke (c.rv.append (.cons r .nil)),c.nD⟩
 by_cases z : a = D
 ·subst z; rw [zac]; simp
 ·rw [yak z]; exact c.g.live a ha
theorem CoS.push {v : AV} {u : V} (c : CoS T ι1 H1 en σ D ι' h' vs ys H2) (hD : H1 D = none) (g : Grow (ι'.hide D) H2 ι5 H5) (S : Sim T ι5 h5 H5) (r : RV T ι5 H5 v u) : CoS T ι1 H1 en σ D ⟨ι5.refs,ι'.priv⟩ h5 (vs++[v]) (ys++[u]) (upd H5 D (.lst (ys++[u]))) :=
 (c.skip g S).poke hD ((zeL g.priv) ▸ r)
theorem CoS.fin (c : CoS T ι1 H1 en σ D ι' h' vs ys H2) (g1 : Grow ι H ι1 H1) (S1 : Sim T ι1 h1 H1) (hD : H1 D = none) : D ∉ ι'.all /\ ∀ n,ι'.refs = ι.refs++n -> ∀ a ∈ n++[D],H a = none:=by
 refine ⟨λz=>(List.mem_append.mp z).elim c.nD λz=>by rw [c.g.priv] at z; exact S1.plive D z hD,λn en1 a ha=>?_⟩
 obtain ⟨k,ek,hk⟩:=(g1.trans c.g).pre
 have : n = k:=List.append_cancel_left (en1.symm.trans ek)
 subst this
 rcases List.mem_append.mp ha with z | z
 ·exact hk a z
 ·have z' : a = D:=by simpa using z
  subst z'
  cases e9 : H a with
  | none=>rfl
  | some o =>
   by_cases hr : a ∈ ι.refs
   ·obtain ⟨k1,ek1,_⟩:=g1.pre
    exact absurd hD (S1.live a (List.mem_append_left _ (by rw [ek1]; exact List.mem_append_left _ hr)))
   ·rw [g1.keep a o hr e9] at hD; cases hD
theorem CoS.start (er : ER T ι H en σ) (g1 : Grow ι H ι1 H1) (S1 : Sim T ι1 h1 H1) (hD : H1 D = none) : CoS T ι1 H1 en σ D ι1 h1 [] [] (upd H1 D (.lst [])) :=
 ⟨zac,S1.growNew hD,Ext.hide hD,S1.hide hD,(er.mono g1).ext (Ext.hide hD),.nil,λz=>S1.fresh hD (List.mem_append_left _ z)⟩
end
def CoQ (T : Tb) (ι : Ix) (H : Hp) (Q : VK) (o : Out (List AV)) : Prop:=match o with
 | .ok ys h2=>∀ ι' H' D vs,Grow ι H ι' H' -> Sim T (ι'.hide D) h2 H' -> RVs T (ι'.hide D) H' ys vs -> H' D = some (.lst vs) -> D ∉ ι'.all -> (∀ n,ι'.refs = ι.refs++n -> ∀ a ∈ n++[D],H a = none) -> Q (.ref D) H'
 | _=>False
theorem zii {jf : List (Nat × Str)} {it : SI} {cc : SB} {ce : SE} {σ : St} {H : Hp} {Q : VK} {ι : Ix} {h : AH} {en : En} (S : Sim T ι h H) (er : ER T ι H en σ)
  (q : match it en h with | .ok (xs,w) h1=>(match yaW (jf.map (·.1)) en w xs cc ce xs [] h1 with | .ok ys h2=>∀ ι' H' D vs,Grow ι H ι' H' -> Sim T (ι'.hide D) h2 H' -> RVs T (ι'.hide D) H' ys vs -> H' D = some (.lst vs) -> D ∉ ι'.all -> (∀ n,ι'.refs = ι.refs++n -> ∀ a ∈ n++[D],H a = none) -> Q (.ref D) H' | _=>False) | _=>False) :
  yej jf (tI T it) (tT T EN cc) (tE T EN ce) σ H Q:=by
 refine ⟨ι,h,en,S,er,?_⟩
 cases e : it en h with
 | bad=>rw [e] at q; exact q
 | ex c h1=>rw [e] at q; exact q
 | ok p h1 =>
  obtain ⟨xs,w⟩:=p
  rw [e] at q
  intro ι1 H1 J g1 S1 IR D hD
  refine ⟨λi m ys H2=>m = xs.length - i /\ i <= xs.length /\ ∃ ι' h' vs,CoS T ι1 H1 en σ D ι' h' vs ys H2 /\ CoQ T ι H Q (yaW (jf.map λp : Nat × Str=>p.1) en w xs cc ce (xs.drop i) vs h'),⟨xs.length,rfl,Nat.zero_le _,ι1,h1,[],CoS.start er g1 S1 hD,q⟩,?_⟩
  rintro i m ys H2 ⟨rfl,hi,ι',h',vs,c,q'⟩
  refine ⟨c.hD,?_⟩
  by_cases hl : i < xs.length
  ·rw [zbJ hl] at q'
   unfold yaW at q'
   by_cases hs : yaZ w xs h' = true /\ vs.length < sizeLine
   ·rw [if_pos hs] at q'
    obtain ⟨go,yld⟩:=IR.go i _ h' H2 xs[i] c.x c.S hs.1 (by simp [hl])
    refine .inr ⟨go,by rw [<- c.rv.length]; exact hs.2,λx H3 y=>?_⟩
    obtain ⟨g3,S3,r3⟩:=yld x H3 y
    have er3:=c.er.mono g3
    refine ⟨ι'.hide D,h',_,S3,ER.comp er3 r3,?_⟩
    cases ec : cc (some xs[i] :: (jf.map (·.1)).map λj=>(en[j]?).join) h' with
    | bad=>rw [ec] at q'; exact q'
    | ex k h5=>rw [ec] at q'; exact False.elim q'
    | ok bb h5 =>
     rw [ec] at q'
     intro ι5 H5 b5 g5 S5 r5
     subst r5
     cases bb with
     | false =>
      rw [if_neg Bool.false_ne_true]
      exact ⟨xs.length - (i + 1),by omega,rfl,hl,_,h5,vs,c.skip (g3.trans g5) S5,q'⟩
     | true =>
      rw [if_pos rfl]
      refine ⟨ι5,h5,_,S5,(ER.comp er3 r3).mono g5,?_⟩
      dsimp only at q'
      cases ee : ce (some xs[i] :: (jf.map (·.1)).map λj=>(en[j]?).join) h5 with
      | bad=>rw [ee] at q'; exact q'
      | ex k h6=>rw [ee] at q'; exact False.elim q'
      | ok v h6 =>
       rw [ee] at q'
       intro ι6 H6 u6 g6 S6 r6
       have g36:=(g3.trans g5).trans g6
       exact ⟨g36.keep D _ c.nD c.hD,xs.length - (i + 1),by omega,rfl,hl,_,h6,vs++[v],c.push hD g36 S6 r6,q'⟩
   ·rw [if_neg hs] at q'; exact False.elim q'
  ·have ei : i = xs.length:=by omega
   subst ei
   rw [List.drop_length] at q'
   unfold yaW at q'
   by_cases hs : yaZ w xs h' = true
   ·rw [if_pos hs] at q'
    have f:=c.fin g1 S1 hD
    exact .inl ⟨IR.stop _ _ h' H2 c.x c.S hs (Nat.le_refl _),q' ι' H2 D ys (g1.trans c.g) c.S c.rv c.hD f.1 f.2⟩
   ·rw [if_neg hs] at q'; exact False.elim q'
end
end Sm
namespace Sm
open PySem PySem.Spec L2
section
variable {T : Tb} {E : St -> XK} {X : Cx} {pos px : Pos} {iter elt : Expr} {ifs : List Expr} {scope : Scope} {x₁ : Str} {jf : List (Nat × Str)} {it : SI} {cc : SB} {ce : SE}
theorem zij {σ : St} {H : Hp} {Q : VK} (q : tE T E (ybl (jf.map (·.1)) it cc ce) σ H Q) : yej jf (tI T it) (tT T EN cc) (tE T EN ce) σ H Q:=by
 obtain ⟨ι,h,en,S,er,q⟩:=q
 refine zii S er ?_
 unfold ybl at q
 cases e : it en h with
 | bad=>rw [e] at q; exact q
 | ex c h1=>rw [e] at q; exact q.elim
 | ok p h1 =>
  obtain ⟨xs,w⟩:=p
  rw [e] at q
  dsimp only at q ⊢
  cases e2 : yaW (jf.map (·.1)) en w xs cc ce xs [] h1 with
  | bad=>rw [e2] at q; exact q
  | ex c h1=>rw [e2] at q; exact q.elim
  | ok ys h2 =>
   rw [e2] at q
   exact λι' H' D vs g S' r hD nD _=>q ι' H' _ g S'.show (.fl nD (.inl hD) (r.ext Ext.show))
theorem zbj : PTs X [] (tT T E sYes):=λpins s σ H Q I ⟨ι,h,en,S,er,q⟩=>zh0 pins s σ H Q I (q.now S rfl)
structure CompOk (X : Cx) (x₁ : Str) (jf : List (Nat × Str)) (scope : Scope) : Prop where
 hN : (x₁ :: jf.map (·.2)).Nodup
 hx : scope.names.lookup x₁ = some .local
 hjf : ∀ p ∈ jf,X.N[p.1]? = some p.2
 hjl : ∀ p ∈ jf,scope.names.lookup p.2 = some .free
 hkind : scope.kind = .function
 hcell : ∀ y ∈ scope.names,y.2 ≠ .cell
 hfr : ∀ y ∈ scope.names,y.2 = .free -> X.env.kindOf y.1 = some .cell \/ X.env.kindOf y.1 = some .free
 hnames : ∀ y ∈ scope.names,y.2 = .local -> scope.names.lookup y.1 = some .local
theorem ydG (C : CompOk X x₁ jf scope) (hcalm : X.calm = true) (hi : PIA T X (.Name x₁ px) iter it) (hc : ∀ pins cl s H fp,PTs (ya5 X pins x₁ jf scope cl s H fp) ifs (tT T EN cc)) (he : ∀ pins cl s H fp,PEA T EN (ya5 X pins x₁ jf scope cl s H fp) elt ce)
  (hs : ∀ x,foldedSetIterable iter X.env x = pure x:=by intro _; rfl) : PEA T E X (.ListComp elt [⟨.Name x₁ px,iter,ifs,0⟩] scope pos) (ybl (jf.map (·.1)) it cc ce) :=
 yaB (zh1 hcalm hi hc he C.hN C.hx C.hjf C.hjl C.hkind C.hcell C.hfr C.hnames hs) λ_ _ _ q=>zij q
end
def spA (T : Tb) (F : Fn) : Sp:=λvs H Q E=>∃ ι h args,Sim T ι h H /\ RVs T ι H args vs /\ Post T ι H E (RV T) (F args h) Q
def yh8 (F : Fn) (n : Nat) : Prop:=∀ args h,args.length ≠ n -> F args h = .bad
theorem zbs (n m : Nat) (b : SS) : yh8 (mkFn n m b) n:=λargs h hl=>by
 unfold mkFn
 rw [if_neg hl]
theorem okA {P : Program} {w : World} {K : PySem.W.Frag} {mg : Str -> Option Value} {base : Heap} {T : Tb} {x qual : Str} {st : Stmt} {f : Addr} {fd : FuncData} {N ps : List Str} {k : Nat} {b : SS} (F : Fun K x qual st f fd) (hK : K = T.K) (S : FnScope N ps (yae st))
  (hbody : ∀ (cdv : Value) (A : Around) (outer : List Env) (s : Shared) (H : Hp) (E : XK),Room k (A.deeper (PyProof.Rows.envOfC qual (yae st) s.heap.objs.size f cdv)) -> CA T (λ_=>E) (cxOf (CXE P w) P w K mg base N qual (yae st) f cdv A outer s H E) ->
   PSsA T (λ_=>E) (cxOf (CXE P w) P w K mg base N qual (yae st) f cdv A outer s H E) (ybd st) b) : FnOk P w K mg base (CXE P w) (k + 1) f fd ps (spA T (mkFn ps.length N.length b)):=by
 refine F.okE S (λvs H Q E h=>?_) (λcdv A outer s H vs Q E hr h=>?_)
 ·obtain ⟨ι,h,args,_,r,q⟩:=h
  by_cases hl : args.length = ps.length
  ·rw [<- hl,r.length]
  ·rw [zbs _ _ _ args h hl] at q; exact q.elim
 ·obtain ⟨ι,h,args,Si,r,q⟩:=h
  refine ⟨_,hbody cdv A outer s H E hr ⟨hK,zh5⟩,ι,h,args.map some++List.replicate (N.length - ps.length) none,Si,?_,?_⟩
  ·by_cases hl : args.length = ps.length
   ·refine ⟨by simp [L2.start,r.length,<- hl],λi v e=>?_⟩
    unfold L2.start
    by_cases hi : i < args.length
    ·rw [List.getElem?_append_left (by simpa using hi),List.getElem?_map] at e
     rw [List.getElem?_append_left (by simpa [<- r.length] using hi),List.getElem?_map]
     obtain ⟨x,e1,e2⟩:=Option.map_eq_some_iff.mp e
     cases e2
     obtain ⟨u,e3,r3⟩:=r.get e1
     exact ⟨u,by rw [e3]; rfl,r3⟩
    ·rw [List.getElem?_append_right (by simpa using hi),List.getElem?_replicate] at e
     split at e
     ·cases e
     ·cases e
   ·rw [zbs _ _ _ args h hl] at q; exact q.elim
  ·unfold mkFn at q
   split at q
   ·split at q
    ·rename_i e1 h1 he
     rw [he]
     exact λι' H' σ' g S' er=>q ι' H' _ g S' .non
    ·rename_i v h1 he
     rw [he]
     exact q
    ·rename_i c e1 h1 he
     rw [he]
     exact λι' H' σ' C g S' er ec=>q ι' H' C g S' ec
    ·exact q.elim
   ·exact q.elim
structure GF (P : Program) (w : World) (T : Tb) (mg : Str -> Option Value) (base : Heap) (k : Nat) (x : Str) (F : Fn) : Prop where
 ex : ∃ f fd ps,mg x = some (.ref f) /\ PySem.W.keepIn T.K (.ref f) = true /\ Binds T.K fd ps [] /\ FnOk P w T.K mg base (CXE P w) k f fd ps (spA T F)
structure GM (P : Program) (w : World) (T : Tb) (mg : Str -> Option Value) (base : Heap) (k : Nat) (c : Nat) (m : Str) (F : Fn) : Prop where
 ex : ∃ C f fd ps,T.cls c = some C /\ Cls T.K C /\ Meth T.K C m f /\ Binds T.K fd ps [] /\ FnOk P w T.K mg base (CXE P w) k f fd ps (spA T F)
 no : m ∉ T.fields c
section
variable {T : Tb} {E : St -> XK} {X : Cx} {pos p apos : Pos} {e o a : Expr} {es : List Expr} {x m : Str} {F : Fn} {k c : Nat} {as : SL} {so sa : SE}
theorem yao (hK : X.K = T.K) (C : CA T E X) (G : GF X.prog X.w T X.mg X.base k x F) (hr : Room k X.A) (hg : Gl X x) (ha : PAA T E X (e :: es) as) (hdb : (x == ("__debug__" : Str)) = false:=by decide)
  (he : starEach (e :: es) X.env = (false,eval e X.env) :: starEach es X.env:=by rfl) (hpl : (backTo pos (starEach es X.env)).any (·.1) = false:=by rfl) : PEA T E X (.Call (.Name x p) (e :: es) [] pos) (yad F as):=by
 obtain ⟨f,fd,ps,h1,h2,h3,h4⟩:=G.ex
 refine yaB (zg6 (Ex:=E) (dvs:=[]) (hK ▸ h4) hr hg h1 (hK ▸ h2) (hK ▸ h3) .nil C.pass ha hdb he hpl) λσ H Q ⟨ι,h,en,S,er,q⟩=>⟨ι,h,en,S,er,q.bind λxs h1 ι1 H1 us g1 S1 r1 q1=>?_⟩
 rw [List.append_nil]
 exact ⟨ι1,h1,xs,S1,r1,q1⟩
theorem zeM {C : Addr} {σ : St} {H : Hp} {Q : VK} (hc : T.cls c = some C) (no : m ∉ T.fields c) (q : tE T E (ya6 c F so as) σ H Q) : yfa C m (spA T F) [] E (tE T E so) (tA T E as) σ H Q:=by
 obtain ⟨ι,h,en,S,er,q⟩:=q
 refine ⟨ι,h,en,S,er,q.bind λx h1 ι1 H1 u g1 S1 r1 q1=>?_⟩
 split at q1
 ·rename_i n
  split at q1
  ·rename_i c' fs hn
   split at q1
   ·rename_i ec
    subst ec
    cases r1 with
    | @ref _ a hr =>
     obtain ⟨o,e1,C',dx,fus,hC,rfl,nd,hw,hl,_⟩:=S1.obj n _ a hn hr
     rw [hc] at hC; cases hC
     refine ⟨a,dx,fus,rfl,e1,?_,ι1,h1,en,S1,er.mono g1,q1.bind λxs h2 ι2 H2 us g2 S2 r2 q2=>?_⟩
     ·cases e : fus.lookup m with
      | none=>rfl
      | some v =>
       have:=PySem.mem_of_lookup e
       exact absurd (hw _ this) no
     ·rw [List.append_nil]
      exact ⟨ι2,h2,.ref n :: xs,S2,.cons (.ref (g2.at hr)) r2,q2⟩
   ·exact q1.elim
  ·exact q1.elim
 ·exact q1.elim
theorem ybt {pl : Sem Bool} (hK : X.K = T.K) (CC : CA T E X) (G : GM X.prog X.w T X.mg X.base k c m F) (hr : Room k X.A) (ho : PEA T E X o so) (ha : PAA T E X (e :: es) as)
  (hst : starEach (e :: es) X.env = (false,eval e X.env) :: starEach es X.env:=by rfl) (hpl : (backTo pos (starEach es X.env)).any (·.1) = false:=by rfl)
  (ht : eval (.Call (.Attribute o m apos) (e :: es) [] pos) X.env = (do
   let ov <- eval o X.env
   standAt apos.atName
   let (f,first) <- holding [ov] (getMethod ov m pl)
   callWith pos f first (backTo pos (starEach (e :: es) X.env)) (backToKw pos (keywordEach [] X.env))):=by rfl) : PEA T E X (.Call (.Attribute o m apos) (e :: es) [] pos) (ya6 c F so as):=by
 obtain ⟨C,f,fd,ps,h1,h2,h3,h4,h5⟩:=G.ex
 exact yaB (zg7 (Ex:=E) (dvs:=[]) (pl:=pl) ho (hK ▸ h2) (hK ▸ h3) (hK ▸ h5) hr (hK ▸ h4) .nil CC.pass ha hst hpl ht) λσ H Q q=>zeM h1 G.no q
theorem zcP {pl : Sem Bool} (hK : X.K = T.K) (CC : CA T E X) (G : GM X.prog X.w T X.mg X.base k c m F) (hr : Room k X.A) (ho : PEA T E X o so)
  (ht : eval (.Call (.Attribute o m apos) [] [] pos) X.env = (do
   let ov <- eval o X.env
   standAt apos.atName
   let (f,first) <- holding [ov] (getMethod ov m pl)
   callWith pos f first (backTo pos (starEach [] X.env)) (backToKw pos (keywordEach [] X.env))):=by rfl) : PEA T E X (.Call (.Attribute o m apos) [] [] pos) (ya6 c F so sNil):=by
 obtain ⟨C,f,fd,ps,h1,h2,h3,h4,h5⟩:=G.ex
 intro pins s σ H Q I q
 have q' := zeM (C:=C) h1 G.no q
 refine PySem.W.methodCall_KW (pl:=pl) (thn (ho pins s σ H _ I q') λu s1 ⟨x,H1,I1,rx,a,dx,fs,ex,ea,l,q⟩=>?_) ht
 subst ex
 obtain rfl : u = Value.ref a:=rx
 refine zcx I1 ea (hK ▸ h2) (hK ▸ h3) l ?_
 obtain ⟨ι,h,en,S,er,q⟩:=q
 refine PySem.W.callWith_K0 (first:=[.ref a]) I1.kIn (hK ▸ h3.kp) (zcM (dvs:=[]) (us:=[.ref a]) (vs:=[.ref a]) (hK ▸ h5) hr (hK ▸ h4) .nil CC.pass I1 (.cons rfl .nil) (q.now S .nil))
structure CF (T : Tb) (c : Nat) : Prop where
 ex : ∃ C,T.cls c = some C /\ Cls T.K C /\ ∀ f ∈ T.fields c,NoAttr T.K C f
structure GK (P : Program) (w : World) (T : Tb) (mg : Str -> Option Value) (base : Heap) (k : Nat) (c : Nat) (x : Str) (F : Fn) : Prop where
 ex : ∃ C f fd ps,T.cls c = some C /\ mg x = some (.ref C) /\ Mk T.K C f /\ Binds T.K fd ps [] /\ FnOk P w T.K mg base (CXE P w) k f fd ps (spA T F)
theorem zge {CX : CXT} {C f : Addr} {fd : FuncData} {ps : List Str} {sp : Sp} {dvs : List V} {ds : List Value} {pins : List (Addr × Obj)} {σ : St} {H : Hp} {s : Shared} {Q : VK} {us : List Value} {vs : List V} (M : Mk X.K C f) (F : FnOk X.prog X.w X.K X.mg X.base CX k f fd ps sp) (hr : Room (k + 1) X.A) (hb : Binds X.K fd ps ds) (hd : Vals dvs ds)
  (hx : ybY CX X E) (I : L2.Inv X pins σ H s) (r : Vals vs us)
  (h : ∀ x dx,H x = none -> H dx = none -> dx ≠ x -> sp (.ref x :: (vs++dvs)) (upd (upd H dx (.own x)) x (.ins C dx [])) (λv H2=>v = .non /\ Q (.ref x) H2) (E σ)) :
  wpAny (model X.prog X.w) X.A (call (.ref C) us) (EP X pins σ Q) X.xe s:=by
 have hq:=h (s.heap.objs.size + 1) s.heap.objs.size (I.hok.fresh (Nat.le_succ _)) (I.hok.fresh (Nat.le_refl _)) (Nat.ne_of_lt (Nat.lt_succ_self _))
 have I2:=Inv.made (C:=C) I
 have r2 : Vals (V.ref (s.heap.objs.size + 1) :: (vs++dvs)) (Value.ref (s.heap.objs.size + 1) :: (us++ds)):=.cons rfl (r.append hd)
 have hl : (Value.ref (s.heap.objs.size + 1) :: us++ds).length = ps.length:=by
  have e:=r2.length
  rw [F.len _ _ _ _ hq] at e
  exact e.symm
 refine wpAny_call (zgO (f:=f) I.kIn M.makes M.init (beq_iff_eq.mp M.fn) (codeAny_mono (F.run _ X.stack _ _ ⟨Value.ref (s.heap.objs.size + 1) :: us,[]⟩ (Value.ref (s.heap.objs.size + 1) :: (us++ds)) _ _ (E σ) (hr.make C us [])
  (I2.env0.make C us []) (hb _ (Value.ref (s.heap.objs.size + 1) :: us) I2.kIn hl) r2 hq) λr s' hq' => ?_))
 cases r with
 | error e=>exact hx pins σ _ _ e s' I2 hq'
 | ok fl =>
  cases fl with
  | ret u =>
   obtain ⟨v,H',I3,rv,ev,q3⟩:=I2.after hq'
   subst ev
   exact ⟨rv,⟨V.ref (s.heap.objs.size + 1),H',I3,rfl,q3⟩⟩
  | next=>exact False.elim hq'
  | brk=>exact False.elim hq'
  | cont=>exact False.elim hq'
theorem zik {C : Addr} {xs : List AV} {us : List V} {H : Hp} {Q : VK} {ι : Ix} {h : AH} {E : XK} {n : Nat} (hc : T.cls c = some C) (hn : (T.fields c).length = n) (S : Sim T ι h H) (r : RVs T ι H xs us)
  (q : Post T ι H E (RV T) (match F (.ref h.length :: xs) (h++[.ins c (List.replicate n none)]) with | .ok .non h2=>Out.ok (AV.ref h.length) h2 | .ex c h2=>.ex c h2 | _=>.bad) Q) :
  ∀ x dx,H x = none -> H dx = none -> dx ≠ x -> spA T F (.ref x :: us) (upd (upd H dx (.own x)) x (.ins C dx [])) (λv H2=>v = .non /\ Q (.ref x) H2) E:=by
 intro x dx nx ndx ne
 have nx' : (upd H dx (.own x)) x = none:=by rw [yak (Ne.symm ne)]; exact nx
 have S1:=S.new (o:=.own x) ndx
 have g1:=S.growNew (o:=.own x) ndx
 have g2:=S1.growAdd (u:=.ins C dx []) nx'
 have S2 : Sim T (ι.add x) (h++[.ins c (List.replicate n none)]) (upd (upd H dx (.own x)) x (.ins C dx [])):=S1.add nx' ⟨C,dx,[],hc,rfl,by simp,by simp,by simp [hn],λi v e=>by
  rw [List.getElem?_replicate] at e
  split at e
  ·cases e
  ·cases e⟩
 refine ⟨ι.add x,_,.ref h.length :: xs,S2,.cons (.ref S.addAt) (r.mono (g1.trans g2)),?_⟩
 have q2:=q.shift (g1.trans g2)
 cases e : F (.ref h.length :: xs) (h++[.ins c (List.replicate n none)]) with
 | bad=>rw [e] at q2; exact q2
 | ex c' h2=>rw [e] at q2; exact q2
 | ok v h2 =>
  rw [e] at q2
  cases v with
  | non=>exact λι' H' u g S' r' => ⟨ydE r',q2 ι' H' _ g S' (.ref (g.at S.addAt))⟩
  | _=>exact (show False from q2).elim
theorem zeN {n : Nat} (hK : X.K = T.K) (CC : CA T E X) (G : GK X.prog X.w T X.mg X.base k c x F) (hr : Room (k + 1) X.A) (hg : Gl X x) (hn : (T.fields c).length = n:=by rfl) (hdb : (x == ("__debug__" : Str)) = false:=by decide) : PEA T E X (.Call (.Name x p) [] [] pos) (ycG c n F sNil):=by
 obtain ⟨C,f,fd,ps,h1,h2,h3,h4,h5⟩:=G.ex
 intro pins s σ H Q I ⟨ι,h,en,S,er,q⟩
 refine wpAny_Call_Name_kw (zaF I hg h2 ?_ hdb)
 have M : Mk X.K C f:=hK ▸ h3
 exact PySem.W.callWith_K0 I.kIn M.kp (zge (us:=[]) (vs:=[]) (dvs:=[]) M (hK ▸ h5) hr (hK ▸ h4) .nil CC.pass I .nil (zik h1 hn S .nil q))
theorem yaD {i : Nat} {f : Str} (hK : X.K = T.K) (CFc : CF T c) (ho : PEA T E X o so) (hf : (T.fields c)[i]? = some f:=by rfl) (hb : attributeBase o f X.env (eval o X.env) = eval o X.env:=by rfl) : PEA T E X (.Attribute o f pos) (Sm.sFld c i so):=by
 obtain ⟨C,hC,hcl,hna⟩:=CFc.ex
 refine yaB (ygw ho hb) λσ H Q ⟨ι,h,en,S,er,q⟩=>⟨ι,h,en,S,er,q.bind λx h1 ι1 H1 u g1 S1 r1 q1=>?_⟩
 split at q1
 ·rename_i n
  split at q1
  ·rename_i c' fs hn
   split at q1
   ·rename_i ec
    subst ec
    split at q1
    ·rename_i v hv
     cases r1 with
     | @ref _ a hr =>
      obtain ⟨o,e1,C',dx,fus,hC',rfl,nd,hw,hl,hr2⟩:=S1.obj n _ a hn hr
      rw [hC] at hC'; cases hC'
      obtain ⟨f',u,e2,e3,r3⟩:=hr2 i v hv
      rw [hf] at e2; cases e2
      exact ⟨a,_,dx,fus,u,rfl,e1,hK ▸ hcl,hK ▸ hna f (List.mem_of_getElem? hf),e3,q1.now S1 r3⟩
    ·exact q1.elim
   ·exact q1.elim
  ·exact q1.elim
 ·exact q1.elim
theorem zdh (f : Str) (v : V) : ∀ {fs : List (Str × V)},(fs.map (·.1)).Nodup -> ((putF f v fs).map (·.1)).Nodup /\ ∀ g,g ∈ (putF f v fs).map (·.1) -> g = f \/ g ∈ fs.map (·.1)
 | [],_=>by simp [putF]
 | (g,x) :: r,n=>by
  obtain ⟨n1,n2⟩:=List.nodup_cons.mp (show (g :: r.map (·.1)).Nodup from n)
  unfold putF
  split
  ·rename_i e
   subst e
   exact ⟨n,λk hk=>.inr hk⟩
  ·rename_i e
   obtain ⟨h1,h2⟩:=zdh f v (fs:=r) n2
   refine ⟨List.nodup_cons.mpr ⟨λz=>?_,h1⟩,λk hk=>?_⟩
   ·rcases h2 g z with z | z
    ·exact e z
    ·exact n1 z
   ·rcases List.mem_cons.mp hk with z | z
    ·exact .inr (by rw [z]; simp)
    ·rcases h2 k z with z | z
     ·exact .inl z
     ·exact .inr (List.mem_cons_of_mem _ z)
theorem zdS : ∀ {l m : List Str},l.Nodup -> (∀ x ∈ l,x ∈ m) -> l.length <= m.length
 | [],m,_,_=>Nat.zero_le _
 | x :: l,m,n,h=>by
  obtain ⟨n1,n2⟩:=List.nodup_cons.mp n
  have hx:=h x (by simp)
  have:=zdS (l:=l) (m:=m.erase x) n2 λy hy=>by
   have ne : y ≠ x:=λz=>n1 (z ▸ hy)
   exact (List.mem_erase_of_ne ne).mpr (h y (by simp [hy]))
  rw [List.length_erase_of_mem hx] at this
  have : 0 < m.length:=List.length_pos_of_mem hx
  simp only [List.length_cons]
  omega
theorem zaz {i : Nat} {f : Str} {p' : Pos} (hK : X.K = T.K) (CFc : CF T c) (ho : PEA T E X o so) (ha : PEA T E X a sa) (hf : (T.fields c)[i]? = some f:=by rfl) (hs : swapsWith a (some (.Attribute o f p')) pos.line X.env = pure false:=by rfl) :
  PSA T E X (.Assign [.Attribute o f p'] a pos) (ybZ c i so sa):=by
 obtain ⟨C,hC,hcl,hna⟩:=CFc.ex
 refine ybH (ygx ho ha hs) λD σ H ⟨ι,h,en,S,er,q⟩=>⟨ι,h,en,S,er,q.go er λy h1 ι1 H1 v g1 S1 r1 q1=>⟨ι1,h1,en,S1,er.mono g1,q1.go (er.mono g1) λx h2 ι2 H2 u g2 S2 r2 q2=>?_⟩⟩
 split at q2
 ·rename_i n
  split at q2
  ·rename_i c' fs hn
   split at q2
   ·rename_i ec
    subst ec
    cases r2 with
    | @ref _ a hr =>
     obtain ⟨o,e1,C',dx,fus,hC',rfl,nd,hw,hl,hr2⟩:=S2.obj n _ a hn hr
     rw [hC] at hC'; cases hC'
     have hmem : f ∈ T.fields c' := List.mem_of_getElem? hf
     have hlen : fus.length < 1000:=by
      have:=zdS nd (m:=T.fields c') (λx hx=>by
       obtain ⟨p,hp,rfl⟩:=List.mem_map.mp hx
       exact hw p hp)
      have:=T.few c'
      rw [List.length_map] at *
      omega
     obtain ⟨k1,k2⟩:=zdh f v nd
     have g3:=S2.growSet (u:=.ins C dx (putF f v fus)) hr
     refine ⟨a,C,dx,fus,rfl,e1,hK ▸ hcl,hK ▸ hna f hmem,hlen,q2 ι2 _ σ g3 (S2.set hr ⟨C,dx,putF f v fus,hC,rfl,k1,λp hp=>?_,by simp [hl],λj w hj=>?_⟩) (er.mono (g1.trans (g2.trans g3)))⟩
     ·rcases k2 p.1 (List.mem_map.mpr ⟨p,hp,rfl⟩) with z | z
      ·rw [z]; exact hmem
      ·obtain ⟨p',hp',e⟩:=List.mem_map.mp z
       rw [<- e]; exact hw p' hp'
     ·by_cases hji : j = i
      ·subst hji
       have hjl : j < fs.length:=by
        have:=(List.getElem?_eq_some_iff.mp hj).1
        simpa using this
       rw [List.getElem?_set_self hjl] at hj
       cases hj
       exact ⟨f,v,hf,by rw [zaO,if_pos rfl],r1.mono (g2.trans g3)⟩
      ·rw [List.getElem?_set_ne (Ne.symm hji)] at hj
       obtain ⟨f',u,e2,e3,r3⟩:=hr2 j w hj
       have ne : f' ≠ f:=λz=>hji (zbl (T.nd c') e2 (z ▸ hf))
       exact ⟨f',u,e2,by rw [zaO,if_neg ne]; exact e3,r3.mono g3⟩
   ·exact (show False from q2).elim
  ·exact (show False from q2).elim
 ·exact (show False from q2).elim
end
end Sm
namespace Sm
open PySem PySem.Spec L2
theorem yeS {T : Tb} {ι : Ix} {H : Hp} {k : Key} {u : V} (r : RV T ι H (kA k) u) : u = kV k:=by
 cases k with
 | inl i=>exact yar r
 | inr x=>exact (yaS r).1
theorem yeB {k j : Key} (e : kA k = kA j) : k = j:=by
 cases k<;>cases j<;>simp [kA] at e<;>simp [e]
theorem zcQ : ∀ {ks js : List Key},ks.map kA = js.map kA -> ks = js
 | [],[],_=>rfl
 | [],_ :: _,e=>by simp at e
 | _ :: _,[],e=>by simp at e
 | k :: ks,j :: js,e=>by
  simp only [List.map_cons,List.cons.injEq] at e
  rw [yeB e.1,zcQ e.2]
theorem yfj {T : Tb} {ι : Ix} {H : Hp} : ∀ {ks : List Key} {us : List V},RVs T ι H (ks.map kA) us -> us = ks.map kV
 | [],_,.nil=>rfl
 | k :: ks,_,.cons r rs=>by rw [yeS r,yfj rs]; rfl
theorem zbt {v : AV} {k : Key} (e : keyOf? v = some k) : v = kA k:=by
 unfold keyOf? at e
 split at e<;>cases e<;>rfl
theorem zaQ : ∀ {vs : List AV} {ks : List Key},keysOf? vs = some ks -> vs = ks.map kA
 | [],_,e=>by cases e; rfl
 | v :: vs,ks,e=>by
  unfold keysOf? at e
  split at e
  ·rename_i k ks' e1 e2
   cases e
   rw [zbt e1,zaQ e2]; rfl
  ·cases e
theorem yd4 {κ : Type} [DecidableEq κ] {T : Tb} {ι : Ix} {H : Hp} {f : κ -> AV} (hf : ∀ {a b},f a = f b -> a = b) {k : κ} : ∀ {kvs : List (AV × AV)} {kus : List (κ × V)},Paired (λ(p : AV × AV) (q : κ × V)=>p.1 = f q.1 /\ RV T ι H p.2 q.2) kvs kus ->
  (valA kvs (f k) = none /\ valV kus k = none) \/ ∃ v u,valA kvs (f k) = some v /\ valV kus k = some u /\ RV T ι H v u
 | _,_,.nil=>.inl ⟨rfl,rfl⟩
 | (a,v) :: kvs,(j,u) :: kus,.cons ⟨e,r⟩ rs=>by
  by_cases h : j = k
  ·subst h
   replace e : a = f j:=e
   subst e
   exact .inr ⟨v,u,by simp [valA],zbo rfl,r⟩
  ·have h' : ¬ a = f k:=λz=>h (hf (e.symm.trans z))
   rcases yd4 hf rs (k:=k) with ⟨h1,h2⟩ | ⟨v',u',h1,h2,h3⟩
   ·refine .inl ⟨?_,by rw [za1 h]; exact h2⟩
    unfold valA at h1 ⊢
    rw [List.find?_cons,decide_eq_false h']
    exact h1
   ·refine .inr ⟨v',u',?_,by rw [za1 h]; exact h2,h3⟩
    unfold valA at h1 ⊢
    rw [List.find?_cons,decide_eq_false h']
    exact h1
theorem zeO {kvs : List (AV × AV)} {k : AV} : (kvs.any λp=>decide (p.1 = k)) = (valA kvs k).isSome:=by
 induction kvs with
 | nil=>rfl
 | cons p r ih =>
  unfold valA at ih ⊢
  rw [List.any_cons,List.find?_cons,ih]
  cases h : decide (p.1 = k)<;>simp
theorem yfk {κ : Type} [DecidableEq κ] {T : Tb} {ι : Ix} {H : Hp} {f : κ -> AV} (hf : ∀ {a b},f a = f b -> a = b) {k : κ} {v : AV} {u : V} (rv : RV T ι H v u) {kvs : List (AV × AV)} {kus : List (κ × V)} (r : Paired (λ(p : AV × AV) (q : κ × V)=>p.1 = f q.1 /\ RV T ι H p.2 q.2) kvs kus) :
  Paired (λ(p : AV × AV) (q : κ × V)=>p.1 = f q.1 /\ RV T ι H p.2 q.2) (putA kvs (f k) v) (putK kus k u):=by
 have e : (kvs.any λp=>decide (p.1 = f k)) = kus.any λkv=>decide (kv.1 = k):=by
  rw [zeO,zbp]
  rcases yd4 hf r (k:=k) with ⟨h1,h2⟩ | ⟨v',u',h1,h2,h3⟩
  ·rw [h1,h2]; rfl
  ·rw [h1,h2]; rfl
 unfold putA putK
 rw [e]
 by_cases h : (kus.any λkv=>decide (kv.1 = k)) = true
 ·rw [if_pos h,if_pos h]
  clear e h
  induction r with
  | nil=>exact .nil
  | cons p rs ih =>
   rename_i a b l1 l2
   refine .cons ?_ ih
   obtain ⟨e1,r1⟩:=p
   dsimp only
   by_cases hk : b.1 = k
   ·rw [if_pos hk,if_pos (by rw [e1,hk])]
    exact ⟨e1,rv⟩
   ·rw [if_neg hk,if_neg (λz=>hk (hf (e1.symm.trans z)))]
    exact ⟨e1,r1⟩
 ·rw [if_neg h,if_neg h]
  have app : ∀ {l1 : List (AV × AV)} {l2 : List (κ × V)},Paired (λ(p : AV × AV) (q : κ × V)=>p.1 = f q.1 /\ RV T ι H p.2 q.2) l1 l2 -> Paired (λ(p : AV × AV) (q : κ × V)=>p.1 = f q.1 /\ RV T ι H p.2 q.2) (l1++[(f k,v)]) (l2++[(k,u)]):=λz=>by
   induction z with
   | nil=>exact .cons ⟨rfl,rv⟩ .nil
   | cons p _ ih=>exact .cons p ih
  exact app r
section
variable {T : Tb} {ι : Ix} {h : AH} {H : Hp}
theorem keyT {xs : List AV} {u : V} {ks : List Key} (r : RV T ι H (.tup xs) u) (e : keysOf? xs = some ks) : ∃ b,u = .ref b /\ KTup H b ks:=by
 have:=zaQ e
 subst this
 cases r with
 | tup n q r=>exact ⟨_,rfl,.of (by rw [<- yfj r]; exact q)⟩
theorem zcR {n : Nat} {t : Bool} {kvs : List (AV × AV)} {y : AV} {a : Addr} {w : V} (S : Sim T ι h H) (hn : h[n]? = some (.dct t kvs)) (hr : ι.refs[n]? = some a) (ry : RV T ι H y w) (hk : ycg t y = true) :
  ∃ o,DGet H a w o /\ ((valA kvs y = none /\ o = none) \/ ∃ v u,valA kvs y = some v /\ o = some u /\ RV T ι H v u):=by
 obtain ⟨ob,e1,r⟩:=S.obj n _ a hn hr
 cases t with
 | false =>
  obtain ⟨kus,rfl,r⟩:=r
  have hk' : (keyOf? y).isSome = true:=hk
  obtain ⟨k,ek⟩:=Option.isSome_iff_exists.mp hk'
  have:=zbt ek
  subst this
  rw [yeS ry]
  refine ⟨valV kus k,.k e1,?_⟩
  rcases yd4 yeB r (k:=k) with ⟨h1,h2⟩ | ⟨v',u',h1,h2,h3⟩
  ·exact .inl ⟨h1,h2⟩
  ·exact .inr ⟨v',u',h1,h2,h3⟩
 | true =>
  obtain ⟨kus,rfl,r⟩:=r
  unfold ycg at hk
  split at hk
  ·rename_i hh; cases hh
  ·rename_i xs hh
   obtain ⟨ks,ek⟩:=Option.isSome_iff_exists.mp hk
   obtain ⟨b,rfl,hb⟩:=keyT ry ek
   have:=zaQ ek
   subst this
   refine ⟨valV kus ks,.t e1 hb,?_⟩
   rcases yd4 (f:=λks : List Key=>AV.tup (ks.map kA)) (λe=>zcQ (by injection e)) r (k:=ks) with ⟨h1,h2⟩ | ⟨v',u',h1,h2,h3⟩
   ·exact .inl ⟨h1,h2⟩
   ·exact .inr ⟨v',u',h1,h2,h3⟩
  ·cases hk
theorem zil {n : Nat} {t : Bool} {kvs : List (AV × AV)} {y z : AV} {a : Addr} {w u : V} (S : Sim T ι h H) (hn : h[n]? = some (.dct t kvs)) (hr : ι.refs[n]? = some a) (ry : RV T ι H y w) (rz : RV T ι H z u) (hk : ycg t y = true) (hl : kvs.length < sizeLine) :
  ∃ H',DPut H a w u H' /\ Grow ι H ι H' /\ Sim T ι (h.set n (.dct t (putA kvs y z))) H' := by
 obtain ⟨ob,e1,r⟩:=S.obj n _ a hn hr
 cases t with
 | false =>
  obtain ⟨kus,rfl,r⟩:=r
  have hk' : (keyOf? y).isSome = true:=hk
  obtain ⟨k,ek⟩:=Option.isSome_iff_exists.mp hk'
  have:=zbt ek
  subst this
  rw [yeS ry]
  have g:=S.growSet (u:=.dK (putK kus k u)) hr
  exact ⟨_,.k e1 (by rw [<- Paired.length r]; exact hl),g,S.set hr ⟨_,rfl,yfk yeB (rz.mono g) (Paired.mapP r λ_ _ ⟨p,q⟩=>⟨p,q.mono g⟩)⟩⟩
 | true =>
  obtain ⟨kus,rfl,r⟩:=r
  unfold ycg at hk
  split at hk
  ·rename_i hh; cases hh
  ·rename_i xs hh
   obtain ⟨ks,ek⟩:=Option.isSome_iff_exists.mp hk
   obtain ⟨b,rfl,hb⟩:=keyT ry ek
   have:=zaQ ek
   subst this
   have g:=S.growSet (u:=.dT none (putK kus ks u)) hr
   exact ⟨_,.t e1 hb (by rw [<- Paired.length r]; exact hl),g,S.set hr ⟨_,rfl,yfk (f:=λks : List Key=>AV.tup (ks.map kA)) (λe=>zcQ (by injection e)) (rz.mono g) (Paired.mapP r λ_ _ ⟨p,q⟩=>⟨p,q.mono g⟩)⟩⟩
  ·cases hk
theorem RVs.atI {xs : List AV} {us : List V} {i : Int} {v : AV} (r : RVs T ι H xs us) (e : atI xs i = some v) : ∃ u,L2.atI us i = some u /\ RV T ι H v u:=by
 unfold L2.atI at e ⊢
 rw [<- r.length]
 obtain ⟨j,e1,e2⟩:=Option.bind_eq_some_iff.mp e
 obtain ⟨u,e3,r3⟩:=r.get e2
 exact ⟨u,by rw [e1]; exact e3,r3⟩
end
section
variable {T : Tb} {E : St -> XK} {X : Cx} {pos : Pos} {a b c : Expr} {sa sb sc : SE}
theorem yh9 {e : Expr} {t t' : TE} (h : PE X e t) (h' : PE X e t') : PE X e (λσ H Q=>t σ H Q \/ t' σ H Q):=λpins s σ H Q I q=>q.elim (h pins s σ H Q I) (h' pins s σ H Q I)
theorem yia {e : Stmt} {t t' : TS} (h : PS X e t) (h' : PS X e t') : PS X e (λD σ H=>t D σ H \/ t' D σ H):=λpins s σ H Q I q=>q.elim (h pins s σ H Q I) (h' pins s σ H Q I)
theorem r_ix (hK : X.K = T.K) (hu : X.A.units + 64 < cLine) (ha : PEA T E X a sa) (hb : PEA T E X b sb) (hs : yeJ b:=by exact λ_ _=>rfl) : PEA T E X (.Subscript a b pos) (sOp2 fIx sa sb):=by
 refine yaB (yh9 (yhU ygA ha hb hs) (zhV (Nat.lt_of_le_of_lt (Nat.add_le_add_left (by decide : 1 <= 64) _) hu) ha hb hs)) λσ H Q q=>?_
 obtain ⟨ι,h,en,S,er,q⟩:=q
 have left : (∀ x h1 y h2,sa en h = .ok x h1 -> sb en h1 = .ok y h2 -> ∀ n t kvs,x = .ref n -> h2[n]? = some (.dct t kvs) -> False) -> tOp (rIx X.K) (tE T E sa) (tE T E sb) σ H Q:=λno=>by
  refine ⟨ι,h,en,S,er,?_⟩
  unfold sOp2 at q
  cases e1 : sa en h with
  | bad=>rw [e1] at q; exact q
  | ex c h1=>rw [e1] at q; exact q
  | ok x h1 =>
   rw [e1] at q
   intro ι1 H1 u g1 S1 r1
   refine ⟨ι1,h1,en,S1,er.mono g1,?_⟩
   dsimp only [Out.bind] at q
   cases e2 : sb en h1 with
   | bad=>rw [e2] at q; exact q
   | ex c h2=>rw [e2] at q; exact Post.shift (R:=RV T) (o:=.ex c h2) q g1
   | ok y h2 =>
    rw [e2] at q
    intro ι2 H2 w g2 S2 r2
    have q2:=Post.shift q (g1.trans g2)
    have r1' := r1.mono g2
    dsimp only at q2
    unfold fIx at q2
    split at q2
    ·rename_i z i
     split at q2
     ·rename_i cc hc
      obtain ⟨rfl,zl,zo⟩:=yaS r1'
      rw [yar r2]
      refine .inr (.inr ⟨z,i,cc,rfl,rfl,zl,hc,q2.now S2 (.str (show 1 <= sizeLine by decide) ?_)⟩)
      obtain ⟨j,_,e3,_⟩:=zbW hc
      have m : cc ∈ z.cps:=by
       have:=List.mem_of_getElem? e3
       simpa using this
      have:=Array.all_eq_true_iff_forall_mem.mp zo _ m
      simpa using this
     ·exact q2.elim
    ·rename_i xs i
     split at q2
     ·rename_i v hv
      obtain ⟨b,us,rfl,sq,rs⟩:=ycV r1'
      obtain ⟨u2,e3,r3⟩:=rs.atI hv
      rw [yar r2]
      exact .inr (.inl ⟨b,us,i,u2,rfl,rfl,hK ▸ sq,e3,q2.now S2 r3⟩)
     ·exact q2.elim
    ·rename_i xs i
     split at q2
     ·rename_i v hv
      obtain ⟨b,us,rfl,sq,rs⟩:=ybn S2 r1' rfl
      obtain ⟨u2,e3,r3⟩:=rs.atI hv
      rw [yar r2]
      exact .inl ⟨b,us,i,u2,rfl,rfl,hK ▸ sq,e3,q2.now S2 r3⟩
     ·exact q2.elim
    ·rename_i n
     split at q2
     ·rename_i xs hn
      split at q2
      ·rename_i i
       split at q2
       ·rename_i v hv
        obtain ⟨b,us,rfl,sq,rs⟩:=ybn (xs:=xs) S2 r1' (by simp [ybi,hn])
        obtain ⟨u2,e3,r3⟩:=rs.atI hv
        rw [yar r2]
        exact .inl ⟨b,us,i,u2,rfl,rfl,hK ▸ sq,e3,q2.now S2 r3⟩
       ·exact q2.elim
      ·exact q2.elim
     ·rename_i t kvs hn
      exact (no _ h1 _ h2 e1 e2 n t kvs rfl hn).elim
     ·exact q2.elim
    ·exact q2.elim
 by_cases dd : ∃ x h1 y h2,sa en h = .ok x h1 /\ sb en h1 = .ok y h2 /\ ∃ n t kvs,x = .ref n /\ h2[n]? = some (.dct t kvs)
 ·obtain ⟨x,h1,y,h2,e1,e2,n,t,kvs,rfl,hn⟩:=dd
  refine .inr ⟨ι,h,en,S,er,?_⟩
  unfold sOp2 at q
  rw [e1] at q ⊢
  intro ι1 H1 u g1 S1 r1
  refine ⟨ι1,h1,en,S1,er.mono g1,?_⟩
  dsimp only [Out.bind] at q
  rw [e2] at q ⊢
  intro ι2 H2 w g2 S2 r2
  have q2:=Post.shift q (g1.trans g2)
  have r1' := r1.mono g2
  dsimp only at q2
  unfold fIx at q2
  simp only [hn] at q2
  split at q2
  ·rename_i hk
   cases r1' with
   | @ref _ ad hr =>
    obtain ⟨o,dg,alt⟩:=zcR S2 hn hr r2 hk
    rcases alt with ⟨v1,rfl⟩ | ⟨v,u,v1,rfl,r3⟩
    ·rw [v1] at q2; exact q2.elim
    ·rw [v1] at q2
     exact ⟨ad,u,rfl,dg,q2.now S2 r3⟩
  ·exact q2.elim
 ·exact .inl (left λx h1 y h2 e1 e2 n t kvs e3 e4=>dd ⟨x,h1,y,h2,e1,e2,n,t,kvs,e3,e4⟩)
theorem zeP {p' : Pos} (hu : X.A.units + 64 < cLine) (ho : PEA T E X a sa) (hi : PEA T E X b sb) (hv : PEA T E X c sc) (hs : swapsWith c (some (.Subscript a b p')) pos.line X.env = pure false:=by rfl) (hs' : swapsWithSole [.Subscript a b p'] c pos.line X.env = pure false:=by rfl) (hw : swappedStores [.Subscript a b p'] c X.env = pure none:=by rfl)
  (h1 : (assignEach [.Subscript a b p'] X.env).map (·.2) = [assign (.Subscript a b p') X.env]:=by rfl)
  (has : ∀ v,assign (.Subscript a b p') X.env v = (do
   let ov <- holding [v] (eval a X.env)
   let iv <- holding [v,ov] (eval b X.env)
   standAt p'
   holding [v,ov,iv] (setItem ov iv v)
   release [v,ov,iv] []):=by intro _; rfl) : PSA T E X (.Assign [.Subscript a b p'] c pos) (yd1 sa sb sc):=by
 refine ybH (yia (ye3 hv (ygn ho hi zgR has) hs' hw h1) (zhW (Nat.lt_of_le_of_lt (Nat.add_le_add_left (by decide : 1 <= 64) _) hu) ho hi hv hs)) λD σ H q=>?_
 obtain ⟨ι,h,en,S,er,q⟩:=q
 unfold yd1 at q
 by_cases dd : ∃ z h1 x h2 y h3,sc en h = .ok z h1 /\ sa en h1 = .ok x h2 /\ sb en h2 = .ok y h3 /\ ∃ n t kvs,x = .ref n /\ h3[n]? = some (.dct t kvs)
 ·obtain ⟨z,h1,x,h2,y,h3,e1,e2,e3,n,t,kvs,rfl,hn⟩:=dd
  refine .inr ⟨ι,h,en,S,er,?_⟩
  rw [e1] at q ⊢
  intro ι1 H1 u g1 S1 r1
  refine ⟨ι1,h1,en,S1,er.mono g1,?_⟩
  dsimp only [Out.go] at q
  rw [e2] at q ⊢
  intro ι2 H2 w g2 S2 r2
  refine ⟨ι2,h2,en,S2,er.mono (g1.trans g2),?_⟩
  dsimp only at q
  rw [e3] at q ⊢
  intro ι3 H3 j g3 S3 r3
  have q2:=PostS.shift q (g1.trans (g2.trans g3))
  simp only [hn] at q2
  split at q2
  ·rename_i hk
   cases (r2.mono g3) with
   | @ref _ ad hr =>
    obtain ⟨H4,dp,g4,S4⟩:=zil S3 hn hr r3 (r1.mono (g2.trans g3)) hk.1 hk.2
    exact ⟨ad,H4,rfl,dp,q2 ι3 H4 σ g4 S4 (er.mono (g1.trans (g2.trans (g3.trans g4))))⟩
  ·exact q2.elim
 ·refine .inl ⟨ι,h,en,S,er,?_⟩
  cases e1 : sc en h with
  | bad=>rw [e1] at q; exact q
  | ex cc h1=>rw [e1] at q; exact λi2 H2 C g S e=>q i2 H2 σ C g S (er.mono g) e
  | ok z h1 =>
   rw [e1] at q
   intro ι1 H1 u g1 S1 r1
   refine ⟨ι1,h1,en,S1,er.mono g1,?_⟩
   dsimp only [Out.go] at q
   cases e2 : sa en h1 with
   | bad=>rw [e2] at q; exact q
   | ex cc h2=>rw [e2] at q; exact λi2 H2 C g S e=>q i2 H2 σ C (g1.trans g) S (er.mono (g1.trans g)) e
   | ok x h2 =>
    rw [e2] at q
    intro ι2 H2 w g2 S2 r2
    refine ⟨ι2,h2,en,S2,er.mono (g1.trans g2),?_⟩
    dsimp only at q
    cases e3 : sb en h2 with
    | bad=>rw [e3] at q; exact q
    | ex cc h3=>rw [e3] at q; exact λi2 H2 C g S e=>q i2 H2 σ C (g1.trans (g2.trans g)) S (er.mono (g1.trans (g2.trans g))) e
    | ok y h3 =>
     rw [e3] at q
     intro ι3 H3 j g3 S3 r3
     have q2:=PostS.shift q (g1.trans (g2.trans g3))
     dsimp only at q2
     split at q2
     ·rename_i n
      split at q2
      ·rename_i xs hn
       split at q2
       ·rename_i k
        split at q2
        ·rename_i jj hj
         cases (r2.mono g3) with
         | @ref _ ad hr =>
          obtain ⟨o,e4,us,rfl,rs⟩:=S3.obj n _ ad hn hr
          have g4:=S3.growSet (u:=.lst (us.set jj u)) hr
          rw [yar r3]
          exact ⟨ad,us,k,jj,rfl,rfl,e4,by rw [<- rs.length]; exact hj,q2 ι3 _ σ g4 (S3.set hr ⟨_,rfl,RVs.set (r1.mono (g2.trans (g3.trans g4))) jj (rs.mono g4)⟩) (er.mono (g1.trans (g2.trans (g3.trans g4))))⟩
        ·exact q2.elim
       ·exact q2.elim
      ·rename_i t kvs hn
       exact (dd ⟨_,h1,_,h2,_,h3,e1,e2,e3,n,t,kvs,rfl,hn⟩).elim
      ·exact q2.elim
     ·exact q2.elim
theorem zim {g : Value -> Value -> Sem Value} {r : R2} {neg : Bool} (hK : X.K = T.K)
  (h1 : ∀ (i j : Str) H Q,Q (V.bl (if neg then !(!(Builtin.Str.occurrences j i 0 j.length 1).isEmpty) else !(Builtin.Str.occurrences j i 0 j.length 1).isEmpty)) H -> r (.str i) (.str j) H Q)
  (h2 : ∀ x y H Q p xs d ds,y = V.ref p -> SqL T.K H p xs -> DaV T.K H x d -> DaVs T.K H xs ds -> d.canLay0 = true -> (∀ e ∈ ds,e.canLay0 = true /\ e.depth <= 30) -> Q (V.bl (if neg then !(ds.any λe=>PyData.eqv e d) else ds.any λe=>PyData.eqv e d)) H -> r x y H Q)
  (h2t : ∀ x y H Q p xs d ds,y = V.ref p -> SqT T.K H p xs -> DaV T.K H x d -> DaVs T.K H xs ds -> d.canLay0 = true -> (∀ e ∈ ds,e.canLay0 = true /\ e.depth <= 30) -> Q (V.bl (if neg then !(ds.any λe=>PyData.eqv e d) else ds.any λe=>PyData.eqv e d)) H -> r x y H Q)
  (h3 : ∀ (y : V) (a : Addr) o H Q,DGet H a y o -> Q (V.bl (if neg then !o.isSome else o.isSome)) H -> r y (.ref a) H Q) :
  OpS T (λx y h=>match inA x y h with | some b=>.ok (.bl (if neg then !b else b)) h | none=>.bad) r:=by
 intro ι h H x y u w E Q S rx ry p
 dsimp only at p
 cases hb : inA x y h with
 | none=>rw [hb] at p; exact p.elim
 | some b =>
  rw [hb] at p
  dsimp only at p
  unfold inA at hb
  split at hb
  ·cases hb
   obtain ⟨rfl,_⟩:=yaS rx
   obtain ⟨rfl,_⟩:=yaS ry
   exact h1 _ _ _ _ (p.now S (.bl _))
  ·rename_i n
   split at hb
   ·rename_i t kvs hn
    split at hb
    ·rename_i hk
     cases hb
     cases ry with
     | @ref _ ad hr =>
      obtain ⟨o,dg,alt⟩:=zcR S hn hr rx hk
      refine h3 u ad o H Q dg ?_
      rcases alt with ⟨v1,rfl⟩ | ⟨v,u',v1,rfl,r3⟩
      ·rw [v1] at p; exact p.now S (.bl _)
      ·rw [v1] at p; exact p.now S (.bl _)
    ·cases hb
   ·rename_i xs hn
    split at hb
    ·rename_i d ds e1 e2
     cases hb
     obtain ⟨a,us,rfl,sq,rs⟩:=ybn (xs:=xs) S ry (by simp [ybi,hn])
     obtain ⟨q1,q2,q3⟩:=ycj S 8 rx e1
     obtain ⟨q4,q5⟩:=zbi (n:=8) (λr e=>ycj S 8 r e) rs e2
     exact h2 _ _ _ _ a us d ds rfl sq q1 q4 q2 (λe he=>⟨(q5 e he).1,by have:=(q5 e he).2; omega⟩) (p.now S (.bl _))
    ·cases hb
   ·cases hb
  ·rename_i xs
   split at hb
   ·rename_i d ds e1 e2
    cases hb
    obtain ⟨a,us,rfl,sq,rs⟩:=ybn S ry rfl
    obtain ⟨q1,q2,q3⟩:=ycj S 8 rx e1
    obtain ⟨q4,q5⟩:=zbi (n:=8) (λr e=>ycj S 8 r e) rs e2
    exact h2 _ _ _ _ a us d ds rfl sq q1 q4 q2 (λe he=>⟨(q5 e he).1,by have:=(q5 e he).2; omega⟩) (p.now S (.bl _))
   ·cases hb
  ·rename_i xs
   split at hb
   ·rename_i d ds e1 e2
    cases hb
    obtain ⟨a,us,rfl,sq,rs⟩:=ycV ry
    obtain ⟨q1,q2,q3⟩:=ycj S 8 rx e1
    obtain ⟨q4,q5⟩:=zbi (n:=8) (λr e=>ycj S 8 r e) rs e2
    exact h2t _ _ _ _ a us d ds rfl sq q1 q4 q2 (λe he=>⟨(q5 e he).1,by have:=(q5 e he).2; omega⟩) (p.now S (.bl _))
   ·cases hb
  ·cases hb
end
end Sm
namespace L2
open PySem PySem.Spec PyProof.Rows
section
variable {X : Cx} {pins : List (Addr × Obj)} {σ : St} {H : Hp} {s : Shared}
theorem zdi (I : Inv X pins σ H s) (hu : X.A.units + 64 < cLine) {xs : List V} {ds : List PyData} {its : List Value} {d : PyData} {v : Value} {as : List Addr} (ra : Reads s.heap v d as) (hds : DaVs X.K H xs ds) (r : Vals xs its) (cd : d.canLay0 = true) (cds : ∀ e ∈ ds,e.canLay0 = true /\ e.depth <= 30) :
  (∀ y,y ∈ its.toArray -> SeqAt.EqAt X.A.in1 s y v (isD s.heap d y)) /\ its.toArray.any (isD s.heap d) = ds.any λe=>PyData.eqv e d:=by
 obtain ⟨hl,hat⟩:=zeD I hds r
 constructor
 ·intro y hy
  have hy' : y ∈ its:=by simpa using hy
  obtain ⟨j,hj⟩:=List.getElem?_of_mem hy'
  have hlt:=(List.getElem?_eq_some_iff.mp hj).1
  have hdj : ds[j]? = some (ds[j]'(by omega)):=List.getElem?_eq_getElem (by omega)
  obtain ⟨bs,rb⟩:=hat j _ _ hj hdj
  have cj:=cds _ (List.mem_of_getElem? hdj)
  rw [isD_of cj.1 rb]
  exact SeqAt.eqAt_reads _ _ _ _ _ _ _ _ rb ra cj.1 cd (by
   have:=Nat.min_le_left (ds[j]'(by omega)).depth d.depth
   show X.A.units + 1 + _ < cLine
   omega)
 ·rw [<- Array.any_toList]
  refine zeE hl λj u e h1 h2=>?_
  obtain ⟨bs,rb⟩:=hat j _ _ h1 h2
  exact isD_of (cds _ (List.mem_of_getElem? h2)).1 rb
def yf8 (K : PySem.W.Frag) : R2:=λx y H Q=>∃ p xs d ds,y = .ref p /\ SqL K H p xs /\ DaV K H x d /\ DaVs K H xs ds /\ d.canLay0 = true /\ (∀ e ∈ ds,e.canLay0 = true /\ e.depth <= 30) /\ Q (.bl (!(ds.any λe=>PyData.eqv e d))) H
def yfE (K : PySem.W.Frag) : R2:=λx y H Q=>∃ p xs d ds,y = .ref p /\ SqT K H p xs /\ DaV K H x d /\ DaVs K H xs ds /\ d.canLay0 = true /\ (∀ e ∈ ds,e.canLay0 = true /\ e.depth <= 30) /\ Q (.bl (!(ds.any λe=>PyData.eqv e d))) H
theorem zgf (hu : X.A.units + 64 < cLine) : OpR X (compareOp .NotIn) (yf8 X.K):=by
 intro pins s σ H x y v u Q I rx ry h
 obtain ⟨p,xs,d,ds,rfl,hq,hd,hds,cd,cds,q⟩:=h
 cases ry
 obtain ⟨its,r,pl,hz⟩:=I.list hq
 obtain ⟨as,ra⟩:=hd.reads I rx
 obtain ⟨h1,h2⟩:=zdi I hu ra hds r cd cds
 exact SeqAt.notIn_listAt (isD s.heap d) pl.isList h1 ⟨.bl _,H,I,rfl,by rw [h2]; exact q⟩
theorem zfp (hu : X.A.units + 64 < cLine) : OpR X (compareOp .NotIn) (yfE X.K):=by
 intro pins s σ H x y v u Q I rx ry h
 obtain ⟨p,xs,d,ds,rfl,hq,hd,hds,cd,cds,q⟩:=h
 cases ry
 obtain ⟨its,r,pl,hz⟩:=I.tuple hq
 obtain ⟨as,ra⟩:=hd.reads I rx
 obtain ⟨h1,h2⟩:=zdi I hu ra hds r cd cds
 exact SeqAt.notIn_tupleAt (isD s.heap d) pl h1 ⟨.bl _,H,I,rfl,by rw [h2]; exact q⟩
theorem zdT (hu : X.A.units + 64 < cLine) : OpR X (compareOp .NotIn) (λx y H Q=>∃ a o,y = .ref a /\ DGet H a x o /\ Q (.bl (!o.isSome)) H):=by
 intro pins s σ H x y v u Q I rx ry h
 obtain ⟨a,o,rfl,g,q⟩:=h
 cases ry
 exact zhT (Nat.lt_of_le_of_lt (Nat.add_le_add_left (by decide : 1 <= 64) _) hu) I g rx λs' I' => ⟨.bl _,H,I',rfl,q⟩
end
end L2
namespace Sm
open PySem PySem.Spec L2
section
variable {T : Tb} {E : St -> XK} {X : Cx}
theorem zeQ (hK : X.K = T.K) (hu : X.A.units + 64 < cLine) : Op T X (compareOp .NotIn) yeA:=by
 refine ⟨_,zdE.or ((zgf hu).or ((zfp hu).or (zdT hu))),zim (neg:=true) (g:=compareOp .NotIn) hK ?_ ?_ ?_ ?_⟩
 ·exact λi j H Q q=>.inl ⟨i,j,rfl,rfl,q⟩
 ·exact λx y H Q p xs d ds e1 e2 e3 e4 e5 e6 q=>.inr (.inl ⟨p,xs,d,ds,e1,hK ▸ e2,hK ▸ e3,hK ▸ e4,e5,e6,q⟩)
 ·exact λx y H Q p xs d ds e1 e2 e3 e4 e5 e6 q=>.inr (.inr (.inl ⟨p,xs,d,ds,e1,hK ▸ e2,hK ▸ e3,hK ▸ e4,e5,e6,q⟩))
 ·exact λy a o H Q g q=>.inr (.inr (.inr ⟨a,o,rfl,g,q⟩))
end
end Sm
namespace Sm
open PySem PySem.Spec L2
abbrev ErrC (x : Str) (C : Addr) (mg : Str -> Option Value) (base : Heap) : Prop:=PyProof.Rows.OwnCls x C [.type "ValueError",.type "Exception",.type "BaseException",.type "object"] "ValueError.__new__" mg base
structure GX (T : Tb) (mg : Str -> Option Value) (base : Heap) (c : Nat) (x : Str) : Prop where
 ex : ∃ C,T.exc c = some C /\ ErrC x C mg base
section
variable {T : Tb} {E : St -> XK} {X : Cx} {pos np cpos : Pos} {e : Expr} {es : List Expr} {x : Str} {c : Nat} {as : SL}
theorem za0 (G : GX T X.mg X.base c x) (hr : ybA X E) (hg : Gl X x) (ha : PAA T E X (e :: es) as) (h6 : c < 64:=by decide) (hc : X.calm = true:=by rfl) (hex : X.ex = []:=by rfl)
  (hdb : (x == ("__debug__" : Str)) = false:=by decide) (he : starEach (e :: es) X.env = (false,eval e X.env) :: starEach es X.env:=by rfl) (hpl : (backTo cpos (starEach es X.env)).any (·.1) = false:=by rfl) :
  PSA T E X (.Raise (some (.Call (.Name x np) (e :: es) [] cpos)) none pos) (ycU c as):=by
 obtain ⟨C,h1,O⟩:=G.ex
 refine ybH (zg5 O PySem.F.excBase_ValueError hc hex hr hg ha hdb he hpl) λD σ H ⟨ι,h,en,S,er,q⟩=>⟨ι,h,en,S,er,q.go er λxs h1' ι1 H1 us g1 S1 r1 q1=>?_⟩
 split at q1
 ·rename_i hl
  exact ⟨by rw [<- r1.length]; exact hl,q1 ι1 H1 σ (C,none) S1.refl S1 (er.mono g1) ⟨h1,zh9 h6⟩⟩
 ·exact q1.elim
theorem yib {xc n : Str} {i : Nat} {body suite : List Stmt} {b0 : Stmt} {hpos : Pos} {sb hd : SS} {outer : List Env} {C : Addr} {catches : Nat -> Bool} (hK : X.K = T.K) (hN : X.N.Nodup) (hg : Gl X xc) (hm : X.mg xc = some (.ref C))
  (hcat : ∀ c C',catches c = true -> T.exc c = some C' -> PySem.W.exmOne T.K (.ref C') (.ref C) = some true)
  (hb : ∀ pins xe Ex,CA T Ex (tryC X pins xe) -> ybA (tryC X pins xe) Ex -> PSsA T Ex (tryC X pins xe) body sb) (hh : ∀ a,CA T EN (hdlC X a) -> PSsA T EN (hdlC X a) (b0 :: suite) hd)
  (hex : X.ex = []:=by rfl) (hst : X.stack = X.env :: outer:=by rfl) (hf : X.env.frame = some X.env.locals:=by rfl) (hi : X.N[i]? = some n:=by rfl) (hl : X.env.scope.names.lookup n = some .local:=by rfl) (hdb : (xc == ("__debug__" : Str)) = false:=by decide) :
  PSA T E X (.Try body [.ExceptHandler (some (.Name xc np)) (some n) (b0 :: suite) hpos] [] [] pos) (sTry i catches sb hd):=by
 refine ybH (ygN hex hst hf hN hi hl hg hm (λpins xe Ex h1 h2=>hb pins xe Ex ⟨hK,h1⟩ h2) (λa=>hh a (CA.never hK)) hdb) λD σ H ⟨ι,h,en,S,er,q⟩=>⟨ι,h,en,S,er,?_⟩
 unfold sTry at q
 cases e1 : sb en h with
 | nx e2 h2=>rw [e1] at q; exact q
 | rt v h2=>rw [e1] at q; exact q
 | bk e2 h2=>rw [e1] at q; exact q
 | ct e2 h2=>rw [e1] at q; exact q
 | bad=>rw [e1] at q; exact q
 | ex c e2 h2 =>
  rw [e1] at q
  dsimp only at q
  intro ι' H' σ' C' g S' er' ec
  by_cases hcc : catches c = true
  ·rw [if_pos hcc] at q
   refine ⟨hK ▸ hcat c C'.1 hcc ec.1,λa hn=>⟨ι',h2,e2.set i (some (.exc c)),S'.new hn,(er'.mono (S'.growNew hn)).set (.exc (S'.fresh hn) ⟨ec.1,ec.2.ext (S'.growNew hn).ext⟩ zac) i,?_⟩⟩
   have q2:=PostS.shift q (g.trans (S'.growNew (o:=excO a (.ref C'.1) C'.2) hn))
   cases e3 : hd (e2.set i (some (.exc c))) h2 with
   | nx e4 h4=>rw [e3] at q2; exact λι5 H5 σ5 g5 S5 er5=>q2 ι5 H5 _ g5 S5 (er5.unset i)
   | bk e4 h4=>rw [e3] at q2; exact λι5 H5 σ5 g5 S5 er5=>q2 ι5 H5 _ g5 S5 (er5.unset i)
   | ct e4 h4=>rw [e3] at q2; exact λι5 H5 σ5 g5 S5 er5=>q2 ι5 H5 _ g5 S5 (er5.unset i)
   | rt v h4=>rw [e3] at q2; exact q2
   | ex c' e4 h4=>rw [e3] at q2; exact (show False from q2).elim
   | bad=>rw [e3] at q2; exact q2
  ·rw [if_neg hcc] at q; exact (show False from q).elim
end
def yb8 (T : Tb) (f : Fn) (r : List V -> Hp -> VK -> Prop) : Prop:=∀ (ι : Ix) (h : AH) (H : Hp) (xs : List AV) (us : List V) (E : XK) (Q : VK),Sim T ι h H -> RVs T ι H xs us -> Post T ι H E (RV T) (f xs h) Q -> r us H Q
section
variable {T : Tb} {E : St -> XK} {X : Cx} {pos p : Pos} {e a : Expr} {es : List Expr} {x : Str} {as : SL} {sa : SE}
theorem yfV {f : Fn} {r : List V -> Hp -> VK -> Prop} (hs : yb8 T f r) {σ : St} {H : Hp} {Q : VK} (q : tE T E (yad f as) σ H Q) : tCB r (tA T E as) σ H Q:=by
 obtain ⟨ι,h,en,S,er,q⟩:=q
 exact ⟨ι,h,en,S,er,q.bind λxs h1 ι1 H1 us g1 S1 r1 q1=>hs ι1 h1 H1 xs us _ Q S1 r1 q1⟩
theorem r_bi {id : String} {f : Fn} (hc : ∃ r,CallR X (.builtin id) r /\ yb8 T f r) (hg : Gl X x) (hm : X.mg x = none) (hv : bootBuiltins x = some (.builtin id)) (ha : PAA T E X (e :: es) as) (hn : x ≠ "__name__" := by decide) (hdb : (x == ("__debug__" : Str)) = false:=by decide)
  (he : starEach (e :: es) X.env = (false,eval e X.env) :: starEach es X.env:=by rfl) (hpl : (backTo pos (starEach es X.env)).any (·.1) = false:=by rfl) : PEA T E X (.Call (.Name x p) (e :: es) [] pos) (yad f as):=by
 obtain ⟨r,h1,h2⟩:=hc
 exact yaB (zcd h1 hg hm hv ha hn hdb he hpl) λσ H Q q=>yfV h2 q
theorem r_ty {id : String} {f : Fn} (hc : ∃ r,CallR X (.type id) r /\ yb8 T f r) (hg : Gl X x) (hm : X.mg x = none) (hv : bootBuiltins x = some (.type id)) (ha : PAA T E X (e :: es) as) (hn : x ≠ "__name__" := by decide) (hdb : (x == ("__debug__" : Str)) = false:=by decide)
  (he : starEach (e :: es) X.env = (false,eval e X.env) :: starEach es X.env:=by rfl) (hpl : (backTo pos (starEach es X.env)).any (·.1) = false:=by rfl) : PEA T E X (.Call (.Name x p) (e :: es) [] pos) (yad f as):=by
 obtain ⟨r,h1,h2⟩:=hc
 exact yaB (zfS h1 hg hm hv ha hn hdb he hpl) λσ H Q q=>yfV h2 q
theorem b_len (hK : X.K = T.K) : ∃ r,CallR X (.builtin "len") r /\ yb8 T fLen r:=by
 refine ⟨_,zdG.or (zdF.or zfX),λι h H xs us E Q S r q=>?_⟩
 unfold fLen at q
 split at q
 ·cases r with
  | cons r r' =>
   cases r'
   obtain ⟨rfl,n,_⟩:=yaS r
   exact .inl ⟨_,rfl,n,q.now S (.int _)⟩
 ·cases r with
  | cons r r' =>
   cases r'
   obtain ⟨a,us,rfl,sq,rs⟩:=ycV r
   exact .inr (.inl ⟨a,us,rfl,.inr (hK ▸ sq),by rw [<- rs.length]; exact q.now S (.int _)⟩)
 ·cases r with
  | cons r r' =>
   cases r'
   obtain ⟨a,us,rfl,sq,rs⟩:=ybn S r rfl
   exact .inr (.inl ⟨a,us,rfl,.inl (hK ▸ sq),by rw [<- rs.length]; exact q.now S (.int _)⟩)
 ·rename_i n
  cases r with
  | cons r r' =>
   cases r'
   split at q
   ·rename_i xs hn
    obtain ⟨a,us,rfl,sq,rs⟩:=ybn (xs:=xs) S r (by simp [ybi,hn])
    exact .inr (.inl ⟨a,us,rfl,.inl (hK ▸ sq),by rw [<- rs.length]; exact q.now S (.int _)⟩)
   ·rename_i kvs hn
    cases r with
    | @ref _ ad hr =>
     obtain ⟨o,e1,kus,rfl,rs⟩:=S.obj n _ ad hn hr
     exact .inr (.inr ⟨ad,kus,rfl,e1,by rw [<- Paired.length rs]; exact q.now S (.int _)⟩)
   ·exact q.elim
 ·exact q.elim
theorem b_abs : ∃ r,CallR X (.builtin "abs") r /\ yb8 T fAbs r:=by
 refine ⟨_,zgM,λι h H xs us E Q S r q=>?_⟩
 unfold fAbs at q
 split at q
 ·cases r with
  | cons r r' => cases r'; rw [yar r]; exact ⟨_,rfl,q.now S (.int _)⟩
 ·exact q.elim
theorem yfl (hc : X.calm = true:=by rfl) : ∃ r,CallR X (.builtin "max") r /\ yb8 T ydO r:=by
 refine ⟨_,zfM hc,λι h H xs us E Q S r q=>?_⟩
 unfold ydO at q
 split at q
 ·cases r with
  | cons r r' => cases r' with
   | cons r1 r2=>cases r2; rw [yar r,yar r1]; exact ⟨_,_,rfl,q.now S (.int _)⟩
 ·exact q.elim
theorem ygZ (hc : X.calm = true:=by rfl) : ∃ r,CallR X (.builtin "min") r /\ yb8 T yc7 r:=by
 refine ⟨_,zfN hc,λι h H xs us E Q S r q=>?_⟩
 unfold yc7 at q
 split at q
 ·cases r with
  | cons r r' => cases r' with
   | cons r1 r2=>cases r2; rw [yar r,yar r1]; exact ⟨_,_,rfl,q.now S (.int _)⟩
 ·exact q.elim
theorem zdU {ι : Ix} {H : Hp} : ∀ {xs : List AV} {us : List V} {bs : List Bool},RVs T ι H xs us -> ydh xs = some bs -> us = bs.map V.bl
 | _,_,_,.nil,e=>by cases e; rfl
 | _,_,bs,.cons (x:=x) r rs,e=>by
  unfold ydh at e
  split at e
  ·rename_i hh; cases hh
  ·rename_i b r' hh
   cases hh
   obtain ⟨bs',e1,rfl⟩:=Option.map_eq_some_iff.mp e
   rw [yci r,zdU rs e1]; rfl
  ·cases e
theorem b_all (hK : X.K = T.K) (hc : X.calm = true:=by rfl) : ∃ r,CallR X (.builtin "all") r /\ yb8 T fAll r:=by
 refine ⟨_,zg0 hc,λι h H xs us E Q S r q=>?_⟩
 unfold fAll at q
 split at q
 ·split at q
  ·rename_i bs hb
   cases r with
   | cons r r' =>
    cases r'
    obtain ⟨a,us,rfl,sq,rs⟩:=ybn S r rfl
    rw [zdU rs hb] at sq
    exact ⟨a,bs,rfl,hK ▸ sq,q.now S (.bl _)⟩
  ·exact q.elim
 ·exact q.elim
theorem b_int : ∃ r,CallR X (.type "int") r /\ yb8 T fInt r:=by
 refine ⟨_,zfO,λι h H xs us E Q S r q=>?_⟩
 unfold fInt at q
 split at q
 ·cases r with
  | cons r r' => cases r'; rw [yar r]; exact .inl ⟨_,rfl,q.now S (.int _)⟩
 ·cases r with
  | cons r r' => cases r'; rw [yci r]; exact .inr ⟨_,rfl,q.now S (.int _)⟩
 ·exact q.elim
abbrev tys : List String:=["NoneType", "bool", "int", "str", "list", "tuple", "dict"]
theorem yfm (K : PySem.W.Frag) : ∀ n ∈ tys,∀ t ∈ tys,PySem.W.kitOne K (.type n) (.type t) = some (n == t || (t == "int" && n == "bool")):=by
 intro n hn t ht
 simp only [tys,List.mem_cons,List.not_mem_nil,or_false] at hn ht
 rcases hn with rfl | rfl | rfl | rfl | rfl | rfl | rfl<;>rcases ht with rfl | rfl | rfl | rfl | rfl | rfl | rfl<;>rfl
theorem zgg {c : V} {cv : Value} (rc : ∀ u,RelV c u -> u = cv) :
  CallR X (.builtin "isinstance") (λxs H Q=>∃ a us r,xs = [.ref a,c] /\ SqL X.K H a us /\ PySem.W.kitOne X.K (.type "list") cv = some r /\ Q (.bl r) H):=by
 intro pins s σ H xs us Q I r h
 obtain ⟨a,ws,k,rfl,sq,hk,q⟩:=h
 obtain ⟨u,w',rfl,rx,ry⟩:=ydW r
 obtain rfl:=rc _ ry
 obtain rfl : u = Value.ref a:=rx
 obtain ⟨its,_,⟨o,n,e1,e2,_⟩,_⟩:=I.list sq
 exact PySem.W.kia_one PySem.W.kitx_list I.kIn ⟨_,e1,e2⟩ hk (λz=>nomatch z) λtk=>⟨.bl k,H,I.tok _,rfl,q⟩
theorem yic {ι : Ix} {h : AH} {H : Hp} {v : AV} {u : V} {n : String} (S : Sim T ι h H) (r : RV T ι H v u) (e : tyN v h = some n) : (TyOf T.K H u (.type n) \/ (n = "list" /\ ∃ a us,u = .ref a /\ SqL T.K H a us)) /\ n ∈ tys:=by
 unfold tyN at e
 cases r with
 | non=>cases e; exact ⟨.inl .non,by decide⟩
 | bl b=>cases e; exact ⟨.inl (.bl b),by decide⟩
 | int b=>cases e; exact ⟨.inl (.int b),by decide⟩
 | str n o=>cases e; exact ⟨.inl (.str _),by decide⟩
 | tup n q r=>cases e; exact ⟨.inl (.tup q),by decide⟩
 | fl n q r=>cases e; exact ⟨.inr ⟨rfl,_,_,rfl,.inl q⟩,by decide⟩
 | kfl q r=>cases e; exact ⟨.inr ⟨rfl,_,_,rfl,.inr q⟩,by decide⟩
 | @ref k a q =>
  dsimp only at e
  split at e
  ·rename_i xs hn
   cases e
   obtain ⟨o,e1,us,rfl,rs⟩:=S.obj k _ a hn q
   exact ⟨.inl (.lst e1),by decide⟩
  ·rename_i t kvs hn
   cases e
   obtain ⟨o,e1,r⟩:=S.obj k _ a hn q
   cases t with
   | false=>obtain ⟨kus,rfl,rs⟩:=r; exact ⟨.inl (.dK e1),by decide⟩
   | true=>obtain ⟨kus,rfl,rs⟩:=r; exact ⟨.inl (.dT e1),by decide⟩
  ·cases e
 | exc _ _ _=>cases e
theorem yds {t : Str} {id : String} {p2 : Pos} (hK : X.K = T.K) (hg : Gl X "isinstance") (hm : X.mg "isinstance" = none) (ha : PEA T E X a sa) (hgt : Gl X t) (hmt : X.mg t = none) (hvt : bootBuiltins t = some (.type id)) (hid : id ∈ tys) (hnt : t ≠ "__name__" := by decide) (hdt : (t == ("__debug__" : Str)) = false:=by decide)
  (he : starEach [a,.Name t p2] X.env = (false,eval a X.env) :: starEach [.Name t p2] X.env:=by rfl) : PEA T E X (.Call (.Name "isinstance" p) [a,.Name t p2] [] pos) (sIsB id sa):=by
 refine yaB (zcd ((zgZ (X:=X) (yeN id)).or (zgg (X:=X) (yeN id))) hg hm PyProof.Rows.boot_isinstance (zaY ha (zaY (zeu (v:=.ty id) hgt hmt hvt rfl hnt hdt) ydX) he) (he:=he)) λσ H Q ⟨ι,h,en,S,er,q⟩=>⟨ι,h,en,S,er,q.bind λv h1 ι1 H1 u g1 S1 r1 q1=>?_⟩
 split at q1
 ·rename_i n hn
  obtain ⟨ty,hmem⟩:=yic S1 r1 hn
  rcases ty with ty | ⟨rfl,ad,us,rfl,sq⟩
  ·exact .inl ⟨u,.type n,_,rfl,hK ▸ ty,yfm _ n hmem id hid,q1.now S1 (.bl _)⟩
  ·exact .inr ⟨ad,us,_,rfl,hK ▸ sq,yfm _ _ hmem id hid,q1.now S1 (.bl _)⟩
 ·exact q1.elim
theorem yfW {t : Str} {p2 : Pos} {cv : Value} {cV : V} {pr : Nat -> Bool} (hK : X.K = T.K) (hg : Gl X "isinstance") (hm : X.mg "isinstance" = none) (ha : PEA T E X a sa) (hcl : PE X (.Name t p2) (tC cV)) (rc : ∀ u,RelV cV u -> u = cv)
  (hp : ∀ c C,T.exc c = some C -> ExcK T.K C /\ PySem.W.kitOne T.K (.ref C) cv = some (pr c)) (he : starEach [a,.Name t p2] X.env = (false,eval a X.env) :: starEach [.Name t p2] X.env:=by rfl) : PEA T E X (.Call (.Name "isinstance" p) [a,.Name t p2] [] pos) (sIsX pr sa):=by
 refine yaB (zcd (zhb (X:=X) rc) hg hm PyProof.Rows.boot_isinstance (zaY ha (zaY hcl ydX) he) (he:=he)) λσ H Q ⟨ι,h,en,S,er,q⟩=>⟨ι,h,en,S,er,q.bind λv h1 ι1 H1 u g1 S1 r1 q1=>?_⟩
 split at q1
 ·rename_i c
  cases r1 with
  | @exc _ C ad n ec hq =>
   obtain ⟨Z,k⟩:=hp c C.1 ec.1
   exact ⟨ad,C.1,_,rfl,⟨_,hq⟩,hK ▸ Z,hK ▸ k,q1.now S1 (.bl _)⟩
 ·exact q1.elim
def MtS (T : Tb) (f : FM) (r : V -> List V -> Hp -> VK -> Prop) : Prop:=∀ (ι : Ix) (h : AH) (H : Hp) (x : AV) (xs : List AV) (u : V) (us : List V) (E : XK) (Q : VK),Sim T ι h H -> RV T ι H x u -> RVs T ι H xs us -> Post T ι H E (RV T) (f x xs h) Q -> r u us H Q
def ChkS (T : Tb) (chk : AV -> AH -> Bool) (n : String) : Prop:=∀ (ι : Ix) (h : AH) (H : Hp) (x : AV) (u : V),Sim T ι h H -> RV T ι H x u -> chk x h = true -> tyV T.K n u H
theorem zaq : ChkS T ybb "list" := λι h H x u S r e=>by
 obtain ⟨xs,e1⟩:=Option.isSome_iff_exists.mp e
 obtain ⟨a,us,rfl,sq,rs⟩:=ybn S r e1
 exact .inl ⟨rfl,us,sq⟩
theorem zar : ChkS T ya0 "str" := λι h H x u S r e=>by
 unfold ya0 at e
 split at e
 ·obtain ⟨rfl,_⟩:=yaS r; rfl
 ·cases e
variable {o : Expr} {so : SE} {name : Str} {apos : Pos} {chk : AV -> AH -> Bool} {f : FM} {tn id : String}
theorem r_bm (hK : X.K = T.K) (pa : PlainAttrs tn) (slot : Slot tn name id) (hty : typeOf (.builtin id) = pure (.type "method_descriptor")) (hm : ∃ r,MtR X id r /\ MtS T f r) (hc : ChkS T chk tn) (ho : PEA T E X o so) (ha : PAA T E X (e :: es) as)
  (hbase : attributeBase o name X.env (eval o X.env) = eval o X.env:=by rfl)
  (hfew : ((backTo pos (starEach (e :: es) X.env)).all (λx=>!x.1) && (backToKw pos (keywordEach [] X.env)).all (λx=>x.1.isSome)
   && decide ((e :: es).length + ([] : List Keyword).length + (if ([] : List Keyword).isEmpty then 0 else 1) < 30)) = true:=by rfl)
  (hline : (apos.endLine == pos.line) = true:=by rfl) (hs : starEach (e :: es) X.env = (false,eval e X.env) :: starEach es X.env:=by rfl) (hplain : (backTo pos (starEach es X.env)).any (·.1) = false:=by rfl) :
  PEA T E X (.Call (.Attribute o name apos) (e :: es) [] pos) (sBM chk f so as):=by
 obtain ⟨r,h1,h2⟩:=hm
 refine yaB (yhW pa slot hty h1 ho ha hbase hfew hline hs hplain) λσ H Q ⟨ι,h,en,S,er,q⟩=>⟨ι,h,en,S,er,q.bind λx h1 ι1 H1 u g1 S1 r1 q1=>?_⟩
 by_cases hx : chk x h1 = true
 ·rw [if_pos hx] at q1
  exact ⟨hK ▸ hc ι1 h1 H1 x u S1 r1 hx,ι1,h1,en,S1,er.mono g1,q1.bind λxs h2' ι2 H2 us g2 S2 r2 q2=>h2 ι2 h2' H2 x xs u us _ Q S2 (r1.mono g2) r2 q2⟩
 ·rw [if_neg hx] at q1; exact q1.elim
theorem zam : ∃ r,MtR X "list.append" r /\ MtS T yaK r:=by
 refine ⟨_,zc8,λι h H x xs u us E Q S rx rs q=>?_⟩
 unfold yaK at q
 split at q
 ·rename_i n y
  split at q
  ·rename_i ys hn
   split at q
   ·rename_i hl
    cases rx with
    | @ref _ ad hr =>
     cases rs with
     | @cons _ uu _ _ r r' =>
      cases r'
      obtain ⟨o,e1,ws,rfl,rw_⟩:=S.obj n _ ad hn hr
      have g:=S.growSet (u:=.lst (ws++[uu])) hr
      exact ⟨ad,ws,_,rfl,rfl,e1,by rw [<- rw_.length]; exact hl,q ι _ _ g (S.set hr ⟨_,rfl,(rw_.mono g).append (.cons (r.mono g) .nil)⟩) .non⟩
   ·exact q.elim
  ·exact q.elim
 ·exact q.elim
theorem zhh : ∃ r,MtR X "str.count" r /\ MtS T yeg r:=by
 refine ⟨_,zdJ,λι h H x xs u us E Q S rx rs q=>?_⟩
 unfold yeg at q
 split at q
 ·cases rs with
  | cons r r' =>
   cases r'
   obtain ⟨rfl,_⟩:=yaS rx
   obtain ⟨rfl,_⟩:=yaS r
   exact ⟨_,_,rfl,rfl,q.now S (.int _)⟩
 ·exact q.elim
theorem zcS {ι : Ix} {H : Hp} : ∀ {xs : List AV} {us : List V} {zs : List Str},RVs T ι H xs us -> ycC xs = some zs -> us = zs.map V.str /\ ∀ z ∈ zs,z.cps.all (· < 0x110000) = true
 | _,_,_,.nil,e=>by cases e; exact ⟨rfl,by simp⟩
 | _,_,zs,.cons (x:=x) r rs,e=>by
  unfold ycC at e
  split at e
  ·rename_i hh; cases hh
  ·rename_i b r' hh
   cases hh
   obtain ⟨zs',e1,rfl⟩:=Option.map_eq_some_iff.mp e
   obtain ⟨rfl,_,o⟩:=yaS r
   obtain ⟨h1,h2⟩:=zcS rs e1
   refine ⟨by rw [h1]; rfl,λz hz=>?_⟩
   rcases List.mem_cons.mp hz with rfl | hz
   ·exact o
   ·exact h2 z hz
  ·cases e
theorem yfn (hK : X.K = T.K) : ∃ r,MtR X "str.join" r /\ MtS T ych r:=by
 refine ⟨_,zh8,λι h H x xs u us E Q S rx rs q=>?_⟩
 unfold ych at q
 split at q
 ·rename_i z y
  split at q
  ·rename_i hz
   subst hz
   split at q
   ·rename_i ys hy
    split at q
    ·rename_i zs hzs
     split at q
     ·rename_i hl
      cases rs with
      | cons r r' =>
       cases r'
       obtain ⟨rfl,_⟩:=yaS rx
       obtain ⟨a,ws,rfl,sq,rw_⟩:=ybn S r hy
       obtain ⟨h1,h2⟩:=zcS rw_ hzs
       subst h1
       refine ⟨a,zs,rfl,rfl,hK ▸ sq,hl,λrr hrr=>?_⟩
       have e : rr = ⟨((zs.map λx : Str=>x.cps.toList).flatten).toArray⟩:=by
        cases rr
        simp only [Str.mk.injEq]
        rw [<- hrr]
       rw [e]
       refine q.now S (.str ?_ ?_)
       ·show ((zs.map λx : Str=>x.cps.toList).flatten).toArray.size <= sizeLine
        rw [List.size_toArray]
        exact Nat.le_trans hl (by decide)
       ·rw [Array.all_eq_true_iff_forall_mem]
        intro c hc
        simp only [List.mem_toArray,List.mem_flatten,List.mem_map] at hc
        obtain ⟨l,⟨zz,hz1,rfl⟩,hc2⟩:=hc
        exact Array.all_eq_true_iff_forall_mem.mp (h2 zz hz1) c (by simpa using hc2)
     ·exact q.elim
    ·exact q.elim
   ·exact q.elim
  ·exact q.elim
 ·exact q.elim
end
end Sm
namespace Sm
open PySem PySem.Spec L2
theorem Out.bind_assoc {α β γ : Type} (o : Out α) (f : α -> AH -> Out β) (g : β -> AH -> Out γ) : (o.bind f).bind g = o.bind λa h=>(f a h).bind g:=by cases o<;>rfl
section
variable {T : Tb} {E : St -> XK} {X : Cx} {pos p2 : Pos} {a b : Expr} {sa sb : SE}
def tO (T : Tb) (E : St -> XK) : Option SE -> TO
 | none=>yeI
 | some s=>yfI (tE T E s)
abbrev POA (T : Tb) (E : St -> XK) (X : Cx) (e : Option Expr) (s : Option SE) : Prop:=PO X e (tO T E s)
theorem zaK : POA T E X none none:=zhO
theorem zaL (h : PEA T E X a sa) : POA T E X (some a) (some sa):=zhP h
@[simp] def yel (s : Option SE) : En -> AH -> Out (Option Int):=λen h=>match s with
 | none=>.ok none h
 | some l=>(l en h).bind λv h2=>match v with | .int i=>.ok (some i) h2 | _=>.bad
theorem zeR {s : Option SE} {σ : St} {H : Hp} {ι : Ix} {h : AH} {en : En} {γ δ : Type} {R' : Ix -> Hp -> γ -> δ -> Prop} {Q0 : δ -> Hp -> Prop} {f : Option Int -> AH -> Out γ} {Q : Option Int -> Hp -> Prop} (S : Sim T ι h H) (er : ER T ι H en σ) (q : Post T ι H (E σ) R' ((yel s en h).bind f) Q0)
  (k : ∀ l h' ι' H',Grow ι H ι' H' -> Sim T ι' h' H' -> Post T ι' H' (E σ) R' (f l h') Q0 -> Q l H') : tO T E s σ H Q:=by
 cases s with
 | none=>exact k none h ι H S.refl S q
 | some l =>
  refine ⟨ι,h,en,S,er,?_⟩
  unfold yel at q
  dsimp only at q
  rw [Out.bind_assoc] at q
  refine q.bind λv h1 ι1 H1 u g1 S1 r1 q1=>?_
  split at q1
  ·rw [yar r1]
   exact ⟨_,rfl,k _ _ ι1 H1 g1 S1 q1⟩
  ·exact q1.elim
@[simp] def ybo (x : AV) (l u : Option Int) (h : AH) : Out AV:=match x with
 | .fl xs=>.ok (.fl (cutA xs l u)) h
 | .str z=>.ok (.str (cutS z l u)) h
 | .tup xs=>if ¬ (HT.sIx xs.length 0 l = 0 /\ HT.sIx xs.length xs.length u = xs.length) then .ok (.tup (cutA xs l u)) h else .bad
 | .ref n=>match h[n]? with
  | some (.lst xs)=>.ok (.fl (cutA xs l u)) h
  | _=>.bad
 | _=>.bad
@[simp] def sCut (a : SE) (lo hi : Option SE) : SE:=λen h=>(a en h).bind λx h1=>(yel lo en h1).bind λl h2=>(yel hi en h2).bind λu h3=>ybo x l u h3
theorem RVs.cut {ι : Ix} {H : Hp} {xs : List AV} {us : List V} {lo hi : Option Int} (r : RVs T ι H xs us) : RVs T ι H (cutA xs lo hi) (cutV us lo hi):=by
 unfold cutA cutV
 rw [<- r.length]
 exact (r.drop _).take _
theorem yg0 {ι : Ix} {H : Hp} {z : Str} {l u : Option Int} (hz : z.length <= sizeLine) (hc : z.cps.all (· < 0x110000) = true) : RV T ι H (.str (cutS z l u)) (.str (cutS z l u)):=by
 refine .str ?_ ?_
 ·refine Nat.le_trans ?_ hz
  simp [cutS,Str.length]; omega
 ·simp only [cutS,List.all_toArray,List.all_eq_true]
  intro c h
  have hm : c ∈ z.cps.toList:=List.mem_of_mem_drop (List.mem_of_mem_take h)
  exact (Array.all_eq_true_iff_forall_mem.mp hc) c (by simpa using hm)
theorem zaM {lo hi : Option Expr} {sl sh : Option SE} (hK : X.K = T.K) (ha : PEA T E X a sa) (hl : POA T E X lo sl) (hh : POA T E X hi sh) : PEA T E X (.Subscript a (.Slice lo hi none p2) pos) (sCut sa sl sh):=by
 refine yaB (zgQ (zhS.or (sl_tup.or ygP)) ha hl hh) λσ H Q ⟨ι,h,en,S,er,q⟩=>⟨ι,h,en,S,er,q.bind λx h1 ι1 H1 u g1 S1 r1 q1=>?_⟩
 refine zeR (E:=E) S1 (er.mono g1) q1 λl h2 ι2 H2 g2 S2 q2=>zeR (E:=E) S2 (er.mono (g1.trans g2)) q2 λw h3 ι3 H3 g3 S3 q3=>?_
 have r3:=r1.mono (g2.trans g3)
 unfold ybo at q3
 split at q3
 ·obtain ⟨ad,us,rfl,sq,rs⟩:=ybn S3 r3 rfl
  exact .inl ⟨ad,us,rfl,hK ▸ sq,λp n=>ydi S3 rs.cut n q3⟩
 ·obtain ⟨rfl,hz,hc⟩:=yaS r3
  exact .inr (.inr ⟨_,rfl,hz,q3.now S3 (yg0 hz hc)⟩)
 ·rename_i xs
  split at q3
  ·rename_i hz
   obtain ⟨ad,us,rfl,sq,rs⟩:=ycV r3
   exact .inr (.inl ⟨ad,us,rfl,hK ▸ sq,by rw [<- rs.length]; exact hz,λp n=>zcO S3 rs.cut n q3⟩)
  ·exact q3.elim
 ·split at q3
  ·rename_i xs hn
   obtain ⟨ad,us,rfl,sq,rs⟩:=ybn (xs:=xs) S3 r3 (by simp [ybi,hn])
   exact .inl ⟨ad,us,rfl,hK ▸ sq,λp n=>ydi S3 rs.cut n q3⟩
  ·exact q3.elim
 ·exact q3.elim
theorem r_gI {x : Str} {i : Int} {p : Pos} (hg : Gl X x) (hm : ∃ t,X.mg x = some (.int i t)) (hd : (x == ("__debug__" : Str)) = false:=by decide) : PEA T E X (.Name x p) (sLit (.int i)):=by
 obtain ⟨t,hm⟩:=hm
 exact zib hg hm hd
theorem r_gS {x z : Str} {p : Pos} (hg : Gl X x) (hm : ∃ t,X.mg x = some (.str z t)) (n : z.length <= sizeLine:=by decide +kernel) (o : z.cps.all (· < 0x110000) = true:=by decide +kernel) (hd : (x == ("__debug__" : Str)) = false:=by decide) : PEA T E X (.Name x p) (sLit (.str z)):=by
 obtain ⟨t,hm⟩:=hm
 exact zic hg hm n o hd
end
def DG (K : PySem.W.Frag) (mg : Str -> Option Value) (x : Str) (st : Stmt) (ps : List Str) : Prop:=∃ f fd,mg x = some (.ref f) /\ PySem.W.keepIn K (.ref f) = true /\ Binds K fd ps [] /\ Fun K x x st f fd
end Sm
namespace Sm
open PySem PySem.Spec L2
def yeK (N : List Str) (sc : Scope) (x₁ : Str) (jf : List (Nat × Str)) (scope : Scope) : Bool :=
 decide (x₁ :: jf.map (·.2)).Nodup && (scope.names.lookup x₁ == some .local) && jf.all (λp=>N[p.1]? == some p.2) && jf.all (λp=>scope.names.lookup p.2 == some .free) && (scope.kind == .function) &&
 scope.names.all (λy=>y.2 != .cell) && scope.names.all (λy=>y.2 != .free || sc.names.lookup y.1 == some .cell || sc.names.lookup y.1 == some .free) && scope.names.all (λy=>y.2 != .local || scope.names.lookup y.1 == some .local)
theorem zaS {X : Cx} {N : List Str} {sc scope : Scope} {x₁ : Str} {jf : List (Nat × Str)} (hN : X.N = N) (hk : ∀ x,X.env.kindOf x = sc.names.lookup x) (h : yeK N sc x₁ jf scope = true) : CompOk X x₁ jf scope:=by
 unfold yeK at h
 simp only [Bool.and_eq_true,decide_eq_true_eq,List.all_eq_true,beq_iff_eq,bne_iff_ne,Bool.or_eq_true] at h
 obtain ⟨⟨⟨⟨⟨⟨⟨h1,h2⟩,h3⟩,h4⟩,h5⟩,h6⟩,h7⟩,h8⟩:=h
 refine ⟨h1,h2,λp hp=>by rw [hN]; exact h3 p hp,h4,h5,λy hy=>h6 y hy,λy hy e=>?_,λy hy e=>?_⟩
 ·rw [hk]
  rcases h7 y hy with (z | z) | z
  ·exact absurd e z
  ·exact .inl z
  ·exact .inr z
 ·rcases h8 y hy with z | z
  ·exact absurd e z
  ·exact z
end Sm
namespace Sm
open PySem PySem.Spec L2
theorem zcT {T : Tb} {ι : Ix} {H : Hp} : ∀ ns : List Int,RVs T ι H (ns.map AV.int) (ns.map V.int)
 | []=>.nil
 | n :: ns=>.cons (.int n) (zcT ns)
theorem sim0 {T : Tb} {H : Hp} : Sim T ⟨[],[]⟩ [] H:=⟨rfl,List.nodup_nil,(λ_ z=>nomatch z),(λi o a e=>by simp at e)⟩
def spL (K : PySem.W.Frag) : Sp:=λvs H Q _=>∃ (a : Addr) (ns : List Int),vs = [.ref a] /\ SqL K H a (ns.map V.int) /\ ns.length <= 63 /\ ∀ H',Q (.bl true) H'
theorem zin {T : Tb} {F : Fn} (ht : ∀ ns : List Int,ns.length <= 63 -> ∃ h',F [.fl (ns.map AV.int)] [] = .ok (.bl true) h') : ∀ vs H Q E,spL T.K vs H Q E -> spA T F vs H Q E:=by
 rintro vs H Q E ⟨a,ns,rfl,hs,hl,q⟩
 obtain ⟨h',e⟩:=ht ns hl
 refine ⟨⟨[],[]⟩,[],[.fl (ns.map AV.int)],sim0,.cons ?_ .nil,?_⟩
 ·rcases hs with hs | hs
  ·exact .fl (by simp [Ix.all]) hs (zcT ns)
  ·exact .kfl hs (zcT ns)
 ·rw [e]
  intro ι' H' u g S r
  rw [yci r]
  exact q H'
theorem zgh {P : Program} {w : World} {outer : List Env} {H : Hp} {s s' : Shared} {e : Value} (h : CXE P w outer H s (λ_ _ _=>False) e s') : False:=by
 obtain ⟨_,_,_,_,_,_,_,_,_,_,_,_,_,_,_,_,q⟩:=h
 exact q
end Sm
namespace L2
open PySem PySem.Spec PyProof.Rows
structure RoomH (k : Nat) (A : Around) : Prop where
 dp : A.depth + 3 * k + 5 < recursionLimit
 un : A.units + 16 * k + 200 < cLine
theorem Room.h {k : Nat} {A : Around} (r : Room k A) : RoomH k A:=⟨r.dp,r.un⟩
theorem RoomH.deeper {k : Nat} {A : Around} (r : RoomH (k + 1) A) (env : Env) : RoomH k (A.deeper env) :=
 ⟨by have:=r.dp; show A.depth + 1 + 3 * k + 5 < _; omega,by have:=r.un; show A.units + 3 + 16 * k + 200 < _; omega⟩
theorem RoomH.mark {k : Nat} {A : Around} (r : RoomH k A) (h : Option Value) : RoomH k (A.mark h):=⟨r.dp,r.un⟩
theorem RoomH.depth {k : Nat} {A : Around} (r : RoomH k A) : A.depth < recursionLimit:=by have:=r.dp; omega
theorem huH {A : Around} {k : Nat} (hr : RoomH k A) : A.units + 64 < cLine:=by
 have:=hr.un
 omega
abbrev cxH (P : Program) (w : World) (K : PySem.W.Frag) (mg : Str -> Option Value) (base : Heap) (N : List Str) (qual : Str) (scope : Scope) (f : Addr) (cd : Value) (A : Around) (outer : List Env) (s : Shared) (H : Hp) : Cx:={ cxOf CX0 P w K mg base N qual scope f cd A outer s H E0 with calm:=false,xe:=λ_ _=>False }
structure FnOkH (P : Program) (w : World) (K : PySem.W.Frag) (mg : Str -> Option Value) (base : Heap) (k : Nat) (f : Addr) (fd : FuncData) (ps : List Str) (sp : Sp) : Prop where
 len : ∀ vs H Q E,sp vs H Q E -> vs.length = ps.length
 run : ∀ (A : Around) (outer : List Env) (s : Shared) (H : Hp) (args : Args) (us : List Value) (vs : List V) (Q : VK) (E : XK),RoomH k A -> Env0 P w K mg base A outer s H -> BindsTo s fd args (ps.zip us) -> Vals vs us -> sp vs H Q E ->
  codeAny (model P w) A (.call (.ref f) args) (CR CX0 outer P w H s Q E) s
theorem zfq {P : Program} {w : World} {K : PySem.W.Frag} {mg : Str -> Option Value} {base : Heap} {N ps : List Str} {qual : Str} {scope : Scope} {f : Addr} {cd : Value} {A : Around} {outer : List Env} {s s1 : Shared} {H : Hp} {us : List Value} {vs : List V}
  (S : FnScope N ps scope) (e0 : Env0 P w K mg base A outer s H) (hl : vs.length = ps.length) (r : Vals vs us)
  (x : InCallC s s.heap.objs.size (bindL (envOfC qual scope s.heap.objs.size f cd).kindOf (ps.zip us) λ_=>none) (cellsFrom (s.heap.objs.size + 1) scope.names []) (bindC (envOfC qual scope s.heap.objs.size f cd).kindOf (ps.zip us) λ_=>none) s1) :
  Inv (cxH P w K mg base N qual scope f cd A outer s H) [] (L2.start N vs) H s1:=by
 have hpl : ps.length <= N.length:=by have:=congrArg List.length S.pre; rw [List.length_take] at this; omega
 obtain ⟨h1,tk,rfl,hk⟩:=x.done
 have noA : ∀ b : Addr,b ∉ (cxH P w K mg base N qual scope f cd A outer s H).ex:=λb z=>absurd (show b ∈ ([] : List Addr) from z) (by simp)
 refine ⟨⟨e0.mod,S.kind,rfl,rfl,Nat.le_refl _,λy z c h1 h2=>?_,λy hy=>?_,λy c _ h=>?_,λz=>(nomatch z),Around.frames_deeper e0.frames,.inr ⟨rfl,rfl⟩,λb z=>absurd z (noA b),e0.bs,e0.bsz,λb _ _=>noA b,λb z=>absurd z (noA b),e0.funs,e0.frf⟩,
  rfl,e0.bare,Un.kept hk,⟨_,x.toInCall.ns,λi y v h1 h2 h3=>?_⟩,λy c h=>⟨_,x.cell y c h⟩,e0.hok.fresh (Nat.le_refl _),λy c h=>?_,λp hp=>absurd (show p ∈ ([] : List (Addr × Obj)) from hp) (by simp),e0.hok.kept hk,?_⟩
 ·exact name_of_addr x.apart (PySem.mem_of_lookup h1) (PySem.mem_of_lookup h2)
 ·have hy : scope.names.lookup y = some .cell \/ scope.names.lookup y = some .free:=hy
  rcases hy with hy | hy
  ·exact zbn hy
  ·exact absurd rfl (S.nofree _ (PySem.mem_of_lookup hy))
 ·exact Nat.le_of_lt (x.above y c (PySem.mem_of_lookup h))
 ·have hi : i < vs.length:=by
   unfold L2.start at h2
   by_cases hi : i < vs.length
   ·exact hi
   ·rw [List.getElem?_append_right (by simpa using hi)] at h2
    rw [List.getElem?_replicate] at h2
    split at h2<;>cases h2
  have ha : vs[i]? = some v:=by
   unfold L2.start at h2
   rw [List.getElem?_append_left (by simpa using hi),List.getElem?_map] at h2
   cases e : vs[i]? with
   | none=>rw [e] at h2; cases h2
   | some a=>rw [e] at h2; cases h2; rfl
  obtain ⟨u,hu,rv⟩:=r.get ha
  have hp : ps[i]? = some y:=by
   rw [<- S.pre,List.getElem?_take_of_lt (by omega)]; exact h1
  have ndP : ps.Nodup:=by rw [<- S.pre]; exact S.nd.sublist (List.take_sublist _ _)
  refine ⟨u,rv,?_⟩
  rcases S.par y (List.mem_of_getElem? hp) with k | k
  ·exact .inl ⟨k,zbF ndP hp hu k⟩
  ·obtain ⟨c,e⟩:=zbn (n:=s.heap.objs.size + 1) k
   refine .inr ⟨.inl k,c,e,?_⟩
   have q:=x.cell y c e
   rw [zbG ndP hp hu (by show scope.names.lookup y ≠ _; rw [k]; decide)] at q
   exact q
 ·exact e0.hok.fresh (Nat.le_of_lt (x.above y c (PySem.mem_of_lookup h)))
 ·unfold L2.start
  show _ = N.length
  rw [List.length_append,List.length_map,List.length_replicate]
  omega
theorem yg1 {P : Program} {w : World} {K : PySem.W.Frag} {mg : Str -> Option Value} {base : Heap} {k : Nat} {f : Addr} {name qual : Str} {params : Arguments} {body : List Stmt} {scope : Scope} {dV kV doc pm cdv ct oc : Value} {an od : Option Addr}
  {osl : Array (Option Value)} {N ps : List Str} {sp : Sp} (lk : K.lookup f = some ⟨oc,od,.func (PySem.W.fnOf name qual params body scope dV kV doc pm an cdv ct),osl⟩) (hcd : PySem.W.codeIn K cdv qual = true) (S : FnScope N ps scope)
  (len : ∀ vs H Q E,sp vs H Q E -> vs.length = ps.length)
  (hbody : ∀ (A : Around) (outer : List Env) (s : Shared) (H : Hp) (vs : List V) (Q : VK) (E : XK),RoomH k (A.deeper (envOfC qual scope s.heap.objs.size f cdv)) -> sp vs H Q E ->
   ∃ t,PSs (cxH P w K mg base N qual scope f cdv A outer s H) body t /\ t { nx:=λ_ H' => Q .non H',rt:=Q } (L2.start N vs) H) :
  FnOkH P w K mg base (k + 1) f (PySem.W.fnOf name qual params body scope dV kV doc pm an cdv ct) ps sp:=by
 refine ⟨len,λA outer s H args us vs Q E hr e0 hb r hsp=>?_⟩
 have hl:=len _ _ _ _ hsp
 have KX : K.In s.heap:=e0.mod.kin.keeps λb o e=>(e0.bs b o e).1
 have lim : s.heap.NoLimit:=e0.mod.nolimit.keeps λb o e=>(e0.bs b o e).1
 have hkind : ∀ y ∈ ps.zip us,scope.names.lookup y.1 = some .local \/ (scope.names.lookup y.1 = some .cell /\ ((cellsFrom (s.heap.objs.size + 1) scope.names []).lookup y.1).isSome = true):=λ⟨n,v⟩ hy=>by
  rcases S.par n (List.of_mem_zip hy).1 with q | q
  ·exact .inl q
  ·exact .inr ⟨q,PySem.W.cellsFrom_some _ _ _ (.inl q)⟩
 refine codeAny_call_function hr.depth (KX _ _ lk) rfl S.co S.gen rfl (PySem.W.codeRec_of KX hcd) (hb _ _ _ _ ?_)
 refine wpAny_newFunctionEnv_cells S.kind hkind λenv he s1 x=>?_
 subst he
 refine ⟨lim.keeps x.toInCall.keep,codeAny_func ?_⟩
 obtain ⟨t,ht,hq⟩:=hbody A outer s H vs Q E (hr.deeper _) hsp
 have I : Inv (cxH P w K mg base N qual scope f cdv A outer s H) [] (L2.start N vs) H s1:=zfq S e0 hl r x
 refine wpAny_mono (ht [] s1 (L2.start N vs) H _ I hq) (λfl s' hs=>?_) λe s' hs=>hs.elim
 have fin : ∀ {σ' : St} {H' : Hp} {v : V} {u : Value},Inv (cxH P w K mg base N qual scope f cdv A outer s H) [] σ' H' s' -> RelV v u -> Q v H' -> CE outer P w H s Q u s' :=
  λ{σ' H' v u} J rv q=>⟨v,H',J.os,J.bare,J.base,J.hok,rv,q⟩
 cases fl with
 | ret u =>
  obtain ⟨v,σ',H',J,rv,q⟩:=hs
  exact fin J rv q
 | next =>
  obtain ⟨σ',H',J,q⟩:=hs
  exact fin (v:=V.non) (u:=Value.none) J rfl q
 | brk =>
  obtain ⟨_,_,_,q⟩:=hs
  exact False.elim q
 | cont =>
  obtain ⟨_,_,_,q⟩:=hs
  exact False.elim q
theorem zio {X : Cx} {k : Nat} {f : Addr} {fd : FuncData} {ps : List Str} {sp : Sp} {pins : List (Addr × Obj)} {σ : L2.St} {H : Hp} {s : Shared} {Q : VK} {us : List Value} {vs : List V} (F : FnOkH X.prog X.w X.K X.mg X.base k f fd ps sp) (hr : RoomH k X.A) (hb : Binds X.K fd ps [])
  (I : Inv X pins σ H s) (r : Vals vs us) (h : sp vs H Q E0) : wpAny (model X.prog X.w) X.A (call (.ref f) us) (EP X pins σ Q) X.xe s:=by
 have hl : (us++[]).length = ps.length:=by rw [List.append_nil,<- r.length]; exact F.len _ _ _ _ h
 have hb' := hb s us I.kIn hl
 rw [List.append_nil] at hb'
 refine wpAny_call (codeAny_mono (F.run X.A X.stack s H ⟨us,[]⟩ us vs Q E0 hr I.env0 hb' r h) λr s' hq=>?_)
 cases r with
 | error e=>exact False.elim hq
 | ok fl =>
  cases fl with
  | ret u=>exact I.after hq
  | next=>exact False.elim hq
  | brk=>exact False.elim hq
  | cont=>exact False.elim hq
end L2
namespace Sm
open PySem PySem.Spec L2
@[simp] def noEx (F : Fn) : Fn:=λargs h=>match F args h with
 | .ok v h' => .ok v h'
 | _=>.bad
structure GFH (P : Program) (w : World) (T : Tb) (mg : Str -> Option Value) (base : Heap) (k : Nat) (x : Str) (F : Fn) : Prop where
 ex : ∃ f fd ps,mg x = some (.ref f) /\ PySem.W.keepIn T.K (.ref f) = true /\ Binds T.K fd ps [] /\ FnOkH P w T.K mg base k f fd ps (spA T (noEx F))
theorem okH {P : Program} {w : World} {K : PySem.W.Frag} {mg : Str -> Option Value} {base : Heap} {T : Tb} {x qual : Str} {st : Stmt} {f : Addr} {fd : FuncData} {N ps : List Str} {k : Nat} {b : SS} (F : Fun K x qual st f fd) (S : FnScope N ps (yae st))
  (hbody : ∀ (cdv : Value) (A : Around) (outer : List Env) (s : Shared) (H : Hp),RoomH k (A.deeper (PyProof.Rows.envOfC qual (yae st) s.heap.objs.size f cdv)) ->
   PSsA T EN (cxH P w K mg base N qual (yae st) f cdv A outer s H) (ybd st) b) : FnOkH P w K mg base (k + 1) f fd ps (spA T (noEx (mkFn ps.length N.length b))):=by
 have ar : ∀ args h,args.length ≠ ps.length -> noEx (mkFn ps.length N.length b) args h = .bad:=λargs h hl=>by
  unfold noEx
  rw [zbs _ _ _ args h hl]
 obtain ⟨oc,od,kV,doc,pm,an,cdv,ct,osl,rfl,lk,hcd⟩:=F.ex
 refine yg1 lk hcd S (λvs H Q E h=>?_) (λA outer s H vs Q E hr h=>?_)
 ·obtain ⟨ι,h,args,_,r,q⟩:=h
  by_cases hl : args.length = ps.length
  ·rw [<- hl,r.length]
  ·rw [ar args h hl] at q; exact q.elim
 ·obtain ⟨ι,h,args,Si,r,q⟩:=h
  refine ⟨_,hbody cdv A outer s H hr,ι,h,args.map some++List.replicate (N.length - ps.length) none,Si,?_,?_⟩
  ·by_cases hl : args.length = ps.length
   ·refine ⟨by simp [L2.start,r.length,<- hl],λi v e=>?_⟩
    unfold L2.start
    by_cases hi : i < args.length
    ·rw [List.getElem?_append_left (by simpa using hi),List.getElem?_map] at e
     rw [List.getElem?_append_left (by simpa [<- r.length] using hi),List.getElem?_map]
     obtain ⟨x,e1,e2⟩:=Option.map_eq_some_iff.mp e
     cases e2
     obtain ⟨u,e3,r3⟩:=r.get e1
     exact ⟨u,by rw [e3]; rfl,r3⟩
    ·rw [List.getElem?_append_right (by simpa using hi),List.getElem?_replicate] at e
     split at e
     ·cases e
     ·cases e
   ·rw [ar args h hl] at q; exact q.elim
  ·unfold noEx mkFn at q
   by_cases hl : args.length = ps.length
   ·rw [if_pos hl] at q
    cases e : b (args.map some++List.replicate (N.length - ps.length) none) h with
    | nx e1 h1=>rw [e] at q; exact λι' H' σ' g S' er=>q ι' H' _ g S' .non
    | rt v h1=>rw [e] at q; exact q
    | ex c e1 h1=>rw [e] at q; exact q.elim
    | bk e1 h1=>rw [e] at q; exact q.elim
    | ct e1 h1=>rw [e] at q; exact q.elim
    | bad=>rw [e] at q; exact q.elim
   ·rw [if_neg hl] at q; exact q.elim
theorem ziq {T : Tb} {E : L2.St -> XK} {X : Cx} {pos p : Pos} {e : Expr} {es : List Expr} {x : Str} {F : Fn} {k : Nat} {as : SL} (hK : X.K = T.K) (G : GFH X.prog X.w T X.mg X.base k x F) (hr : RoomH k X.A) (hg : Gl X x) (ha : PAA T E X (e :: es) as) (hdb : (x == ("__debug__" : Str)) = false:=by decide)
  (he : starEach (e :: es) X.env = (false,eval e X.env) :: starEach es X.env:=by rfl) (hpl : (backTo pos (starEach es X.env)).any (·.1) = false:=by rfl) : PEA T E X (.Call (.Name x p) (e :: es) [] pos) (yad (noEx F) as):=by
 obtain ⟨f,fd,ps,h1,h2,h3,h4⟩:=G.ex
 intro pins s σ H Q I ⟨ι,h,en,S,er,q⟩
 refine wpAny_Call_Name_kw (zaF I hg h1 ?_ hdb)
 have q' : tA T E as σ H (λus H1=>∃ ι1 h1 xs,Sim T ι1 h1 H1 /\ RVs T ι1 H1 xs us /\ Post T ι1 H1 (E σ) (RV T) (noEx F xs h1) Q):=⟨ι,h,en,S,er,q.bind λxs h1 ι1 H1 us g1 S1 r1 q1=>⟨ι1,h1,xs,S1,r1,q1⟩⟩
 refine PySem.W.callWith_K (h₀:=X.base) I.ok.mod.kin (hK ▸ h2) (thn (ha pos pins s σ H _ I q') λus s1 ⟨vs,H1,I1,r,ι1,h1',xs,S1,r1,q1⟩=>⟨I1.kIn,?_⟩) he hpl
 refine zio (hK ▸ h4) hr (hK ▸ h3) I1 r ⟨ι1,h1',xs,S1,r1,?_⟩
 cases e : noEx F xs h1' with
 | ok v h2=>rw [e] at q1; exact q1
 | bad=>rw [e] at q1; exact q1
 | ex c h2 =>
  unfold noEx at e
  split at e<;>cases e
end Sm
namespace Sm
open PySem PySem.Spec L2
section
variable {T : Tb} {E : L2.St -> XK} {X : Cx} {pos p np : Pos} {a : Expr} {sa : SE}
theorem excK_of {K : PySem.W.Frag} {C : Addr} (g1 : PySem.W.findIn K (.ref C) "__getattribute__" = some (some (.builtin "BaseException.__getattribute__"))) (g2 : PySem.W.findIn K (.ref C) "__getattr__" = some none) (g3 : PySem.W.findIn K (.ref C) "__class__" = some (some (.builtin "object.__class__")))
  (g4 : PySem.W.mroIn K C (.type "object") = some true) (g5 : PySem.W.mroIn K C (.type "BaseException") = some true) (g6 : PySem.W.specialIn K (.builtin "object.__class__") "__get__" = some (some (.builtin "getset_descriptor.__get__"))) (g7 : PySem.W.takesIn K (.builtin "object.__class__") = some true) : ExcK K C:=by
 refine ⟨?_,g1,g2,g3,g6,g7,g4,g5⟩
 obtain ⟨cd,hc,_⟩:=Option.bind_eq_some_iff.mp g4
 rw [hc]
 rfl
theorem ydR {t : Str} {p2 : Pos} {pr : Nat -> Bool} (hK : X.K = T.K) (hg : Gl X "isinstance") (hm : X.mg "isinstance" = none) (ha : PEA T E X a sa) (hgt : Gl X t) (hp : ∃ C,X.mg t = some (.ref C) /\ ∀ c C',T.exc c = some C' -> ExcK T.K C' /\ PySem.W.kitOne T.K (.ref C') (.ref C) = some (pr c)) (hd : (t == ("__debug__" : Str)) = false:=by decide)
  (he : starEach [a,.Name t p2] X.env = (false,eval a X.env) :: starEach [.Name t p2] X.env:=by rfl) : PEA T E X (.Call (.Name "isinstance" p) [a,.Name t p2] [] pos) (sIsX pr sa):=by
 obtain ⟨C,h1,h2⟩:=hp
 exact yfW hK hg hm ha (zbU (v:=.ref C) hgt h1 rfl hd) (ygJ C) h2 he
theorem yg2 {t : Str} {id : String} {p2 : Pos} {pr : Nat -> Bool} (hK : X.K = T.K) (hg : Gl X "isinstance") (hm : X.mg "isinstance" = none) (ha : PEA T E X a sa) (hgt : Gl X t) (hmt : X.mg t = none) (hvt : bootBuiltins t = some (.type id)) (hp : ∀ c C',T.exc c = some C' -> ExcK T.K C' /\ PySem.W.kitOne T.K (.ref C') (.type id) = some (pr c)) (hnt : t ≠ "__name__" := by decide) (hd : (t == ("__debug__" : Str)) = false:=by decide)
  (he : starEach [a,.Name t p2] X.env = (false,eval a X.env) :: starEach [.Name t p2] X.env:=by rfl) : PEA T E X (.Call (.Name "isinstance" p) [a,.Name t p2] [] pos) (sIsX pr sa) :=
 yfW hK hg hm ha (zeu (v:=.ty id) hgt hmt hvt rfl hnt hd) (yeN id) hp he
theorem yg3 {xc n : Str} {i : Nat} {body suite : List Stmt} {b0 : Stmt} {hpos : Pos} {sb hd : SS} {outer : List Env} {catches : Nat -> Bool} (hK : X.K = T.K) (hN : X.N.Nodup) (hg : Gl X xc)
  (hcat : ∃ C,X.mg xc = some (.ref C) /\ ∀ c C',catches c = true -> T.exc c = some C' -> PySem.W.exmOne T.K (.ref C') (.ref C) = some true)
  (hb : ∀ pins xe Ex,CA T Ex (tryC X pins xe) -> ybA (tryC X pins xe) Ex -> PSsA T Ex (tryC X pins xe) body sb) (hh : ∀ a,CA T EN (hdlC X a) -> PSsA T EN (hdlC X a) (b0 :: suite) hd)
  (hex : X.ex = []:=by rfl) (hst : X.stack = X.env :: outer:=by rfl) (hf : X.env.frame = some X.env.locals:=by rfl) (hi : X.N[i]? = some n:=by rfl) (hl : X.env.scope.names.lookup n = some .local:=by rfl) (hdb : (xc == ("__debug__" : Str)) = false:=by decide) :
  PSA T E X (.Try body [.ExceptHandler (some (.Name xc np)) (some n) (b0 :: suite) hpos] [] [] pos) (sTry i catches sb hd):=by
 obtain ⟨C,h1,h2⟩:=hcat
 exact yib hK hN hg h1 h2 hb hh hex hst hf hi hl hdb
end
theorem yid : bootBuiltins "ValueError" = some (.type "ValueError"):=by decide +kernel
end Sm
namespace L2
open PySem PySem.Spec PyProof.Rows
section
variable {X : Cx} {pins : List (Addr × Obj)} {σ : L2.St} {H : Hp} {s : Shared}
end
end L2
namespace Sm
open PySem PySem.Spec L2
end Sm
namespace Sm
open PySem PySem.Spec L2
@[simp] def ydH : List AV -> Option (List Int)
 | []=>some []
 | .int i :: r=>(ydH r).map (i :: ·)
 | _=>none
@[simp] def fSum : Fn:=λargs h=>match args with
 | [.fl xs]=>match ydH xs with
  | some ns=>.ok (.int ns.sum) h
  | none=>.bad
 | _=>.bad
@[simp] def ydk (a b c : SE) : SI:=λen h=>(a en h).bind λv h1=>(b en h1).bind λw h2=>(c en h2).bind λz h3=>match v,w,z with
 | .int i,.int j,.int k=>if i.natAbs < 2 ^ 40 /\ j.natAbs < 2 ^ 40 /\ 0 < k /\ k < 2 ^ 20 then .ok ((List.range (if i < j then (j - i - 1) / k + 1 else 0 : Int).toNat).map (λm : Nat=>.int (i + m * k)),none) h3 else .bad
 | _,_,_=>.bad
section
variable {T : Tb} {E : St -> XK} {X : Cx} {pos p : Pos} {e a b c : Expr} {sa sb sc : SE}
theorem zeS {ι : Ix} {H : Hp} : ∀ {xs : List AV} {us : List V} {bs : List Int},RVs T ι H xs us -> ydH xs = some bs -> us = bs.map V.int
 | _,_,_,.nil,e=>by cases e; rfl
 | _,_,bs,.cons (x:=x) r rs,e=>by
  unfold ydH at e
  split at e
  ·rename_i hh; cases hh
  ·rename_i b r' hh
   cases hh
   obtain ⟨bs',e1,rfl⟩:=Option.map_eq_some_iff.mp e
   rw [yar r,zeS rs e1]; rfl
  ·cases e
theorem b_sum (hK : X.K = T.K) (hc : X.calm = true:=by rfl) : ∃ r,CallR X (.builtin "sum") r /\ yb8 T fSum r:=by
 refine ⟨_,zhd hc,λι h H xs us E Q S r q=>?_⟩
 unfold fSum at q
 split at q
 ·split at q
  ·rename_i bs hb
   cases r with
   | cons r r' =>
    cases r'
    obtain ⟨a,us,rfl,sq,rs⟩:=ybn S r rfl
    rw [zeS rs hb] at sq
    exact ⟨a,bs,rfl,hK ▸ sq,q.now S (.int _)⟩
  ·exact q.elim
 ·exact q.elim
theorem zfr {ι : Ix} {H : Hp} {lo c : Int} {n : Nat} : ItR T (Itr3 lo c n) ι H ((List.range n).map (λm : Nat=>AV.int (lo + m * c))) none:=by
 constructor
 ·intro i ι' h' H' y g S _ e
  rw [List.getElem?_map] at e
  obtain ⟨m,e1,rfl⟩:=Option.map_eq_some_iff.mp e
  have hi : i < n:=by
   have:=(List.getElem?_eq_some_iff.mp e1).1
   simpa using this
  rw [List.getElem?_range hi] at e1
  cases e1
  refine ⟨hi,?_⟩
  rintro u H2 ⟨rfl,rfl⟩
  exact ⟨S.refl,S,.int _⟩
 ·intro i ι' h' H' g S _ hl
  have hl' : n <= i:=by simpa using hl
  exact hl'
theorem zgi {tg : Expr} {p : Pos} (hg : Gl X "range") (hm : X.mg "range" = none) (ha : PEA T E X a sa) (hb : PEA T E X b sb) (hc : PEA T E X c sc) (hs : starEach [a,b,c] X.env = [(false,eval a X.env),(false,eval b X.env),(false,eval c X.env)]:=by rfl) (hs2 : starEach [b,c] X.env = [(false,eval b X.env),(false,eval c X.env)]:=by rfl) (hs3 : starEach [c] X.env = [(false,eval c X.env)]:=by rfl) :
  PIA T X tg (.Call (.Name "range" p) [a,b,c] [] pos) (ydk sa sb sc) :=
 ydF (zgb hg hm (zaa ha (zaa hb (zaa hc yac hs3) (by rw [hs2,hs3])) (by rw [hs,hs2])) hs hs2) λσ H R ⟨ι,h,en,S,er,q⟩=>by
  unfold ydk at q
  refine ⟨ι,h,en,S,er,?_⟩
  unfold yaa
  cases e : sa en h with
  | bad=>rw [e] at q; exact q
  | ex c h1=>rw [e] at q; exact q.elim
  | ok v h1 =>
   rw [e] at q
   dsimp only [Out.bind] at q ⊢
   cases e' : sb en h1 with
   | bad=>rw [e'] at q; exact q
   | ex c h1=>rw [e'] at q; exact q.elim
   | ok v' h2 =>
    rw [e'] at q
    dsimp only at q ⊢
    cases e'' : sc en h2 with
    | bad=>rw [e''] at q; exact q
    | ex c h1=>rw [e''] at q; exact q.elim
    | ok v'' h3 =>
     rw [e''] at q
     dsimp only at q
     intro ι1 H1 u g1 S1 r1
     split at q
     ·rename_i hx
      split at hx
      ·split at hx
       ·rename_i hb
        cases hx
        cases r1 with
        | cons r r' =>
         cases r' with
         | cons r2 r3 =>
          cases r3 with
          | cons r4 r5 =>
           cases r5
           rw [yar r,yar r2,yar r4]
           exact ⟨_,_,_,rfl,hb,q ι1 H1 _ g1 S1 zfr⟩
       ·cases hx
      ·cases hx
     ·exact q.elim
theorem yg4 {sts : List Stmt} {E : St -> XK} : PSsA T E X sts (λ_ _=>.bad):=λpins s σ H D I ⟨ι,h,en,S,er,q⟩=>q.elim
theorem yiL {ι : Ix} {H : Hp} {z : Str} (hz : z.length <= sizeLine) (hc : z.cps.all (· < 0x110000) = true) : RV T ι H (.str (revS z)) (.str (revS z)):=by
 refine .str ?_ ?_
 ·refine Nat.le_trans ?_ hz
  simp [revS,Str.length]
 ·simp only [revS,List.all_toArray,List.all_eq_true,List.mem_reverse]
  intro c h
  exact (Array.all_eq_true_iff_forall_mem.mp hc) c (by simpa using h)
end
theorem el1 : ∀ {us : List Value},us.length = 1 -> ∃ a : Value,us = [a]
 | [a],_=>⟨a,rfl⟩
theorem el2 : ∀ {us : List Value},us.length = 2 -> ∃ a b : Value,us = [a,b]
 | [a,b],_=>⟨a,b,rfl⟩
theorem el3 : ∀ {us : List Value},us.length = 3 -> ∃ a b c : Value,us = [a,b,c]
 | [a,b,c],_=>⟨a,b,c,rfl⟩
theorem el5 : ∀ {us : List Value},us.length = 5 -> ∃ a b c d e : Value,us = [a,b,c,d,e]
 | [a,b,c,d,e],_=>⟨a,b,c,d,e,rfl⟩
theorem yg5 {T : Tb} {ι : Ix} {H : Hp} {z : Str} {n : Nat} (hl : z.length * n <= 1000000) (hc : z.cps.all (· < 0x110000) = true) : RV T ι H (.str (repS z n)) (.str (repS z n)):=by
 refine .str ?_ ?_
 ·refine Nat.le_trans ?_ (Nat.le_trans hl (by decide))
  simp [repS,Str.length,Nat.mul_comm]
 ·simp only [repS,List.all_toArray,List.all_eq_true,List.mem_flatten,List.mem_replicate]
  rintro c ⟨l,⟨_,rfl⟩,hm⟩
  exact (Array.all_eq_true_iff_forall_mem.mp hc) c (by simpa using hm)
end Sm
namespace Sm
open PySem PySem.Spec L2
open PySem.Builtin PySem.Builtin.Str
def ybI : FM:=λx vs h=>match x,vs with
 | .str z,[.str y]=>if (y.length == 0) = false /\ z.length <= sizeLine /\ (partsBetween z (occurrences z y 0 z.length (z.length + 1)) y.length).length <= sizeLine /\ (∀ p ∈ Txt.split z y,p.length <= sizeLine /\ p.cps.all (· < 0x110000) = true) then .ok (.fl ((Txt.split z y).map AV.str)) h else .bad
 | _,_=>.bad
section
variable {T : Tb} {E : St -> XK} {X : Cx} {pos : Pos}
theorem zdV {ι : Ix} {H : Hp} : ∀ ps : List Str,(∀ p ∈ ps,p.length <= sizeLine /\ p.cps.all (· < 0x110000) = true) -> RVs T ι H (ps.map AV.str) (ps.map V.str)
 | [],_=>.nil
 | p :: ps,h=>.cons (.str (h p (List.mem_cons_self ..)).1 (h p (List.mem_cons_self ..)).2) (zdV ps λq hq=>h q (List.mem_cons_of_mem _ hq))
theorem zcU : ∃ r,MtR X "str.split" r /\ MtS T ybI r:=by
 refine ⟨_,zdP,λι h H x xs u us E Q S rx rs q=>?_⟩
 unfold ybI at q
 split at q
 ·split at q
  ·rename_i hz
   cases rs with
   | cons r r' =>
    cases r'
    obtain ⟨rfl,_⟩:=yaS rx
    obtain ⟨rfl,_⟩:=yaS r
    exact ⟨_,_,rfl,rfl,hz.1,hz.2.1,hz.2.2.1,λp n=>ydi S (zdV _ hz.2.2.2) n q⟩
  ·exact q.elim
 ·exact q.elim
end
end Sm
namespace Sm
open PySem PySem.Spec L2
open PySem.Builtin PySem.Builtin.Str
def ybj : FM:=λx vs h=>match x,vs with
 | .str z,[y]=>match ybi y h with
  | some xs=>match ycC xs with
   | some zs=>if JoinOk z zs = true /\ (glued z zs).length <= sizeLine /\ (glued z zs).cps.all (· < 0x110000) = true then .ok (.str (glued z zs)) h else .bad
   | none=>.bad
  | none=>.bad
 | _,_=>.bad
def yd5 : F2:=λx y h=>match x,y with
 | .str z,.int n=>if (1 <= n /\ n <= 1000 /\ 1 <= z.length /\ z.length <= 1000) /\ z.length * n.toNat <= 1000000 then .ok (.str (repS z n.toNat)) h else .bad
 | _,_=>.bad
section
variable {T : Tb} {E : St -> XK} {X : Cx} {pos : Pos}
theorem zhi : MtR X "str.join" (λx vs H Q=>∃ (z : Str) (l : Addr) (xs : List Str),x = .str z /\ vs = [.ref l] /\ SqL X.K H l (xs.map V.str) /\ JoinOk z xs = true /\ Q (.str (glued z xs)) H):=by
 intro pins s σ H x vs v us Q I rx rv h
 obtain ⟨z,l,xs,rfl,rfl,hq,hok,q⟩:=h
 obtain ⟨t,rfl⟩:=rx
 obtain ⟨u,rfl,ru⟩:=ybJ rv
 cases ru
 obtain ⟨its,r,pl,_⟩:=I.list hq
 obtain ⟨ll,rfl,e2⟩:=zcN r
 exact SC.join pl.isList e2 hok λt' k=>⟨.str _,H,I.tok _,⟨_,rfl⟩,q⟩
theorem zaG (hK : X.K = T.K) : ∃ r,MtR X "str.join" r /\ MtS T ybj r:=by
 refine ⟨_,zhi,λι h H x xs u us E Q S rx rs q=>?_⟩
 unfold ybj at q
 split at q
 ·rename_i z y
  split at q
  ·rename_i ys hy
   split at q
   ·rename_i zs hzs
    split at q
    ·rename_i hl
     cases rs with
     | cons r r' =>
      cases r'
      obtain ⟨rfl,_⟩:=yaS rx
      obtain ⟨a,ws,rfl,sq,rw_⟩:=ybn S r hy
      obtain ⟨h1,h2⟩:=zcS rw_ hzs
      subst h1
      exact ⟨_,a,zs,rfl,rfl,hK ▸ sq,hl.1,q.now S (.str hl.2.1 hl.2.2)⟩
    ·exact q.elim
   ·exact q.elim
  ·exact q.elim
 ·exact q.elim
theorem yg6 : Op T X (binaryOp .Mult) yd5:=by
 refine ⟨_,zfk,λι h H x y u w E Q S rx ry p=>?_⟩
 unfold yd5 at p
 split at p
 ·rename_i z n
  split at p
  ·rename_i hz
   obtain ⟨rfl,_,hc⟩:=yaS rx
   rw [yar ry]
   refine ⟨_,_,rfl,rfl,hz.1,λr hr=>?_⟩
   have e : r = repS z n.toNat:=by
    cases r
    simp only [repS,Str.mk.injEq]
    rw [<- hr]
   rw [e]
   exact p.now S (yg5 hz.2 hc)
  ·exact p.elim
 ·exact p.elim
end
end Sm
namespace L2
open PySem PySem.Spec PyProof.Rows
section
variable {X : Cx}
theorem zgj : CallR X (.type "str") (λxs H Q=>∃ i,xs = [.int i] /\ i.natAbs.log2 < 1920 /\ Q (.str (toString i : String)) H):=by
 intro pins s σ H xs us Q I r h
 obtain ⟨i,rfl,hi,q⟩:=h
 obtain ⟨u,rfl,t,rfl⟩:=ybJ r
 exact P.str_of_int hi ⟨.str (toString i : String),H,I.tok _,⟨_,rfl⟩,q⟩
end
end L2
namespace Sm
open PySem PySem.Spec L2
def ya7 : Fn:=λargs h=>match args with
 | [.int i]=>if i.natAbs.log2 < 1920 /\ (Str.ofString (toString i)).length <= sizeLine /\ (Str.ofString (toString i)).cps.all (· < 0x110000) = true then .ok (.str (Str.ofString (toString i))) h else .bad
 | _=>.bad
theorem b_str {T : Tb} {X : Cx} : ∃ r,CallR X (.type "str") r /\ yb8 T ya7 r:=by
 refine ⟨_,zgj,λι h H xs us E Q S r q=>?_⟩
 unfold ya7 at q
 split at q
 ·split at q
  ·rename_i hz
   cases r with
   | cons r r' => cases r'; rw [yar r]; exact ⟨_,rfl,hz.1,q.now S (.str hz.2.1 hz.2.2)⟩
  ·exact q.elim
 ·exact q.elim
end Sm
namespace Sm
open PySem PySem.Spec L2
def fGet (n : Nat) (y z : AV) (h : AH) : Out AV:=match h[n]? with
 | some (.dct t kvs)=>if ycg t y then .ok ((valA kvs y).getD z) h else .bad
 | _=>.bad
def sGet (o k d : SE) : SE:=λen h=>(o en h).bind λx h1=>match x with
 | .ref n=>(match h1[n]? with
  | some (.dct _ _)=>(k en h1).bind λy h2=>(d en h2).bind λz h3=>fGet n y z h3
  | _=>.bad)
 | _=>.bad
section
variable {T : Tb} {E : St -> XK} {X : Cx} {pos apos : Pos} {a b c : Expr} {sa sb sc : SE}
theorem isD_of {ι : Ix} {h : AH} {H : Hp} {n : Nat} {t : Bool} {kvs : List (AV × AV)} {ad : Addr} (S : Sim T ι h H) (hn : h[n]? = some (.dct t kvs)) (hr : ι.refs[n]? = some ad) : IsD H ad:=by
 obtain ⟨ob,e1,r⟩:=S.obj n _ ad hn hr
 cases t with
 | false=>obtain ⟨kus,rfl,r⟩:=r; exact .inl ⟨_,.inl e1⟩
 | true=>obtain ⟨kus,rfl,r⟩:=r; exact .inr ⟨_,_,.inl e1⟩
theorem yie (hu : X.A.units + 64 < cLine) (ha : PEA T E X a sa) (hb : PEA T E X b sb) (hc : PEA T E X c sc) (hbase : attributeBase a "get" X.env (eval a X.env) = eval a X.env:=by rfl)
  (hfew : ((backTo pos (starEach [b,c] X.env)).all (λx=>!x.1) && (backToKw pos (keywordEach [] X.env)).all (λx=>x.1.isSome) && decide (([b,c] : List Expr).length + ([] : List Keyword).length + (if ([] : List Keyword).isEmpty then 0 else 1) < 30)) = true:=by rfl)
  (hline : (apos.endLine == pos.line) = true:=by rfl) (htrees : backTo pos (starEach [b,c] X.env) = [(false,eval b X.env),(false,eval c X.env)]:=by rfl) : PEA T E X (.Call (.Attribute a "get" apos) [b,c] [] pos) (sGet sa sb sc):=by
 refine yaB (zgV (Nat.lt_of_le_of_lt (Nat.add_le_add_left (by decide : 1 <= 64) _) hu) ha hb hc ⟨hbase,hfew,hline,htrees⟩) λσ H Q q=>?_
 obtain ⟨ι,h,en,S,er,q⟩:=q
 refine ⟨ι,h,en,S,er,q.bind λx h1 ι1 H1 u g1 S1 r1 q1=>?_⟩
 split at q1
 ·rename_i n
  split at q1
  ·rename_i t0 kvs0 hn0
   cases r1 with
   | @ref _ ad hr =>
    refine ⟨ad,rfl,isD_of S1 hn0 hr,ι1,h1,en,S1,er.mono g1,q1.bind λy h2 ι2 H2 v g2 S2 r2 q2=>⟨ι2,h2,en,S2,(er.mono g1).mono g2,q2.bind λz h3 ι3 H3 w g3 S3 r3 q3=>?_⟩⟩
    unfold fGet at q3
    split at q3
    ·rename_i t kvs hn
     split at q3
     ·rename_i hk
      obtain ⟨o,dg,alt⟩:=zcR S3 hn ((g2.trans g3).ext.at_ hr) (r2.mono g3) hk
      refine ⟨o,dg,?_⟩
      rcases alt with ⟨v1,rfl⟩ | ⟨v',u',v1,rfl,r4⟩
      ·rw [v1] at q3; exact q3.now S3 r3
      ·rw [v1] at q3; exact q3.now S3 r4
     ·exact q3.elim
    ·exact q3.elim
  ·exact q1.elim
 ·exact q1.elim
end
end Sm
namespace L2
open PySem PySem.Spec PyProof.Rows
theorem zir {X : Cx} : OpR X (binaryOp .Mult) (λx y H Q=>∃ l n xs,x = .ref l /\ y = .int n /\ SqL X.K H l xs /\ n.natAbs < 2 ^ 40 /\ xs.length * n.toNat <= 1000000 /\ ∀ p,H p = none -> Q (.ref p) (upd H p (.lst (List.replicate n.toNat xs).flatten))):=by
 intro pins s σ H x y v u Q I rx ry h
 obtain ⟨l,n,xs,rfl,rfl,hH,hb,hz,q⟩:=h
 cases rx
 obtain ⟨t,rfl⟩:=ry
 obtain ⟨its,r,⟨o,m,e1,e2,e3,e4⟩,z⟩:=I.list hH
 obtain ⟨oc,od,oda,osl⟩:=o
 dsimp only at e2 e3 e4
 subst e2 e3 e4
 have l1:=r.length
 have hb2 : n.natAbs < 1099511627776:=hb
 have sz : its.toArray.size * n.toNat <= 1000000:=by rw [List.size_toArray,<- l1]; exact hz
 refine wpAny_binaryOp_repeat_ref (by decide) ⟨_,e1,rfl⟩ (λs' => typeIs_int s' n t) noFill_list_mul PySem.F.fills_int_mul PySem.F.slot_int_rmul repeat_list PySem.F.slot_int_index.lookup
  (call_meets PySem.F.slot_int_rmul (typeIs_int s n t) PySem.F.entry_int_rmul (PySem.F.args_int_rmul_2 _ _) (lm_int_rmul_list_any n t l its.toArray m none osl)
   ⟨e1,rfl,⟨_,e1,rfl⟩,call_meets PySem.F.slot_list_mul ⟨_,e1,rfl⟩ PySem.F.entry_list_mul (PySem.F.args_list_mul_2 _ _) (lm_list_mul_any l its.toArray m none osl n t ?_ ?_ ?_) ⟨e1,?_⟩⟩)
 ·simp [Builtin.List.listFitsIndex]; omega
 ·intro hc; have : (2 ^ 63 - 1) / 8 = 1152921504606846975:=by decide
  omega
 ·show ¬ decide (its.toArray.size * n.toNat > sizeLine) = true
  rw [decide_eq_true_eq]
  exact Nat.not_lt.mpr (Nat.le_trans sz (by decide))
 ·rw [listMul_foldl_if]
  exact ⟨.ref s.heap.objs.size,_,I.lnew (t' := s.toks) (Vals.rep r n.toNat) (by rw [List.length_flatten,List.map_replicate,List.sum_replicate_nat,Nat.mul_comm]; exact Nat.le_trans hz (by decide)),rfl,q _ I.fresh⟩
end L2
namespace Sm
open PySem PySem.Spec L2
theorem zeT {T : Tb} {ι : Ix} {H : Hp} {xs : List AV} {us : List V} (r : RVs T ι H xs us) : ∀ n : Nat,RVs T ι H (List.replicate n xs).flatten (List.replicate n us).flatten
 | 0=>.nil
 | n + 1=>by
  rw [List.replicate_succ,List.replicate_succ,List.flatten_cons,List.flatten_cons]
  exact r.append (zeT r n)
def ydS : F2:=λx y h=>match y with
 | .int n=>(match ybi x h with
  | some xs=>if n.natAbs < 2 ^ 40 /\ xs.length * n.toNat <= 1000000 then .ok (.fl (List.replicate n.toNat xs).flatten) h else .bad
  | none=>.bad)
 | _=>.bad
theorem yg7 {T : Tb} {X : Cx} (hK : X.K = T.K) : Op T X (binaryOp .Mult) ydS:=by
 refine ⟨_,zir,λι h H x y u w E Q S rx ry p=>?_⟩
 unfold ydS at p
 split at p
 ·split at p
  ·rename_i e1
   split at p
   ·rename_i hz
    obtain ⟨a,us,rfl,q1,r1⟩:=ybn S rx e1
    rw [yar ry]
    exact ⟨a,_,us,rfl,rfl,hK ▸ q1,hz.1,by rw [<- r1.length]; exact hz.2,λl n=>ydi S (zeT r1 _) n p⟩
   ·exact p.elim
  ·exact p.elim
 ·exact p.elim
end Sm
namespace L2
open PySem PySem.Spec PyProof.Rows
def yif (K : PySem.W.Frag) (C : Addr) (tb : (St -> XK) -> TS) (th : TS) : TS:=λD σ H =>
 tb (λσ' cls _ H' => PySem.W.exmOne K cls (.ref C) = some true /\ th { nx:=D.nx,rt:=D.rt,bk:=D.bk,ct:=D.ct } σ' H') D σ H
section
variable {X : Cx} {xc : Str} {C : Addr} {body suite : List Stmt} {b0 : Stmt} {np hpos pos : Pos} {tb : (St -> XK) -> TS} {th : TS} {outer : List Env}
theorem zis (hex : X.ex = []) (hst : X.stack = X.env :: outer) (hf : X.env.frame = some X.env.locals) (hg : Gl X xc) (hm : X.mg xc = some (.ref C))
  (hb : ∀ pins xe Ex,ybY (CXE X.prog X.w) (tryC X pins xe) Ex -> ybA (tryC X pins xe) Ex -> PSs (tryC X pins xe) body (tb Ex)) (hh : ∀ a,PSs (hdlC X a) (b0 :: suite) th) (hdb : (xc == ("__debug__" : Str)) = false:=by decide) :
  PS X (.Try body [.ExceptHandler (some (.Name xc np)) none (b0 :: suite) hpos] [] [] pos) (yif X.K C tb th):=by
 intro pins s σ H D I h
 have okX:=I.ok
 let Ex : St -> XK:=λσ' cls _ H' => PySem.W.exmOne X.K cls (.ref C) = some true /\ th { nx:=D.nx,rt:=D.rt,bk:=D.bk,ct:=D.ct } σ' H'
 let xe : Value -> Shared -> Prop:=λe s' => ∃ σ' H' a cls dx,e = .ref a /\ Arr X pins σ' H' a cls dx s' /\ Ex σ' cls dx H'
 have hR : ybA (tryC X pins xe) Ex:=λpins' σ' H' s' a cls dx R q=>⟨σ',H',a,cls,dx,rfl,R.untry,q⟩
 have hP : ybY (CXE X.prog X.w) (tryC X pins xe) Ex:=λpins' σ' H' s1 e s2 I' hq=>by
  obtain ⟨a,cls,dx,H2,rfl,R,q⟩:=zci (X:=tryC X pins xe) I' hex hq
  exact ⟨σ',H2,a,cls,dx,rfl,R.untry,q⟩
 have hbody:=hb pins xe Ex hP hR [] s σ H D (I.toTry (xe:=xe)) h
 refine wpAny_Try_except (wpAny_mono hbody (λf s1 q=>?_) λe s1 q=>?_)
 ·cases f with
  | next=>obtain ⟨σ1,H1,I1,q1⟩:=q; exact wpAny_execs_nil ⟨σ1,H1,I1.untry,q1⟩
  | brk=>obtain ⟨σ1,H1,I1,q1⟩:=q; exact ⟨σ1,H1,I1.untry,q1⟩
  | cont=>obtain ⟨σ1,H1,I1,q1⟩:=q; exact ⟨σ1,H1,I1.untry,q1⟩
  | ret u=>obtain ⟨v1,σ1,H1,I1,r1,q1⟩:=q; exact ⟨v1,σ1,H1,I1.untry,r1,q1⟩
 ·obtain ⟨σ1,H1,a,cls,dx,rfl,R,hxm,q1⟩:=q
  refine R.land0 hex okX.frames hst hf λh5 B a0 fm fl sm I5=>?_
  obtain ⟨oe,vs,hoe,hoec,hoed,_⟩:=fl.first
  have I5h:=I5.hdl a
  refine wpAny_handleBy_cons (codeAny_handlers_test (zaF (X:=hdlC X a) I5h hg hm ?_ hdb)) (by intro z; cases z)
  refine (PySem.W.exm_one I5.kIn (hoec ▸ za2 hoe) hxm).here ?_
  refine codeAny_handlers_suite ?_
  refine lands_againW fl λh6 fl6 sm6=>?_
  have I6 : Inv X pins σ1 H1 { s1 with heap:=h6 }:=R.inv.flown (t' := s1.toks) hex fm fl6.1 (sm.trans sm6)
  refine wpAny_mono (hh a pins _ _ _ _ (I6.hdl a) q1) (λf s9 q9=>?_) λ_ _ z=>z.elim
  cases f with
  | next=>obtain ⟨σ2,H2,I2,q2⟩:=q9; exact ⟨σ2,H2,I2.unhdl okX,q2⟩
  | brk=>obtain ⟨σ2,H2,I2,q2⟩:=q9; exact ⟨σ2,H2,I2.unhdl okX,q2⟩
  | cont=>obtain ⟨σ2,H2,I2,q2⟩:=q9; exact ⟨σ2,H2,I2.unhdl okX,q2⟩
  | ret u=>obtain ⟨v2,σ2,H2,I2,r2,q2⟩:=q9; exact ⟨v2,σ2,H2,I2.unhdl okX,r2,q2⟩
end
end L2
namespace Sm
open PySem PySem.Spec L2
@[simp] def yeT (catches : Nat -> Bool) (b hd : SS) : SS:=λen h=>match b en h with
 | .ex c e h' => if catches c = true then
   (match hd e h' with
   | .nx e2 h2=>.nx e2 h2
   | .bk e2 h2=>.bk e2 h2
   | .ct e2 h2=>.ct e2 h2
   | .rt v h2=>.rt v h2
   | _=>.bad) else .bad
 | o=>o
section
variable {T : Tb} {E : St -> XK} {X : Cx} {pos np : Pos}
theorem yg8 {xc : Str} {body suite : List Stmt} {b0 : Stmt} {hpos : Pos} {sb hd : SS} {outer : List Env} {catches : Nat -> Bool} (hK : X.K = T.K) (hg : Gl X xc)
  (hcat : ∃ C,X.mg xc = some (.ref C) /\ ∀ c C',catches c = true -> T.exc c = some C' -> PySem.W.exmOne T.K (.ref C') (.ref C) = some true)
  (hb : ∀ pins xe Ex,CA T Ex (tryC X pins xe) -> ybA (tryC X pins xe) Ex -> PSsA T Ex (tryC X pins xe) body sb) (hh : ∀ a,CA T EN (hdlC X a) -> PSsA T EN (hdlC X a) (b0 :: suite) hd)
  (hex : X.ex = []:=by rfl) (hst : X.stack = X.env :: outer:=by rfl) (hf : X.env.frame = some X.env.locals:=by rfl) (hdb : (xc == ("__debug__" : Str)) = false:=by decide) :
  PSA T E X (.Try body [.ExceptHandler (some (.Name xc np)) none (b0 :: suite) hpos] [] [] pos) (yeT catches sb hd):=by
 obtain ⟨C,hm,hcat⟩:=hcat
 refine ybH (zis hex hst hf hg hm (λpins xe Ex h1 h2=>hb pins xe Ex ⟨hK,h1⟩ h2) (λa=>hh a (CA.never hK)) hdb) λD σ H ⟨ι,h,en,S,er,q⟩=>⟨ι,h,en,S,er,?_⟩
 unfold yeT at q
 cases e1 : sb en h with
 | nx e2 h2=>rw [e1] at q; exact q
 | rt v h2=>rw [e1] at q; exact q
 | bk e2 h2=>rw [e1] at q; exact q
 | ct e2 h2=>rw [e1] at q; exact q
 | bad=>rw [e1] at q; exact q
 | ex c e2 h2 =>
  rw [e1] at q
  dsimp only at q
  intro ι' H' σ' C' g S' er' ec
  by_cases hcc : catches c = true
  ·rw [if_pos hcc] at q
   refine ⟨hK ▸ hcat c C'.1 hcc ec.1,ι',h2,e2,S',er',?_⟩
   have q2:=PostS.shift q g
   cases e3 : hd e2 h2 with
   | nx e4 h4=>rw [e3] at q2; exact q2
   | bk e4 h4=>rw [e3] at q2; exact q2
   | ct e4 h4=>rw [e3] at q2; exact q2
   | rt v h4=>rw [e3] at q2; exact q2
   | ex c' e4 h4=>rw [e3] at q2; exact (show False from q2).elim
   | bad=>rw [e3] at q2; exact q2
  ·rw [if_neg hcc] at q; exact (show False from q).elim
end
end Sm
namespace Sm
open PySem PySem.Spec L2
def yfo : Expr -> Bool
 | .Starred _ _=>false
 | _=>true
theorem yig (a : Expr) (es : List Expr) (env : Env) (h : yfo a = true) : starEach (a :: es) env = (false,eval a env) :: starEach es env:=by
 cases a<;>first | rfl | cases h
section
variable {T : Tb} {E : St -> XK} {X : Cx} {a : Expr} {es : List Expr} {sa : SE}
theorem zax (ha : PEA T E X a sa) (hr : PAA T E X es as) (hn : yfo a = true:=by rfl) : PAA T E X (a :: es) (yaa sa as):=zaa ha hr (yig _ _ _ hn)
end
section
variable {T : Tb} {E : St -> XK} {X : Cx} {pos : Pos} {a b : Expr} {sa sb : SE} {sts : List Stmt} {s1 : SS}
end
end Sm
namespace L2
open PySem PySem.Spec PyProof.Rows
section
variable {X : Cx}
theorem zcV : MtR X "str.startswith" (λx vs H Q=>∃ z y,x = .str z /\ vs = [.str y] /\ Q (.bl (Txt.startswith z y)) H):=by
 intro pins s σ H x vs v us Q I rx rv h
 obtain ⟨z,y,rfl,rfl,q⟩:=h
 obtain ⟨t,rfl⟩:=rx
 cases rv with
 | cons r1 r2 =>
  cases r2
  obtain ⟨t1,rfl⟩:=r1
  exact PySem.SC.startswith ⟨.bl _,H,I,rfl,q⟩
end
end L2
namespace Sm
open PySem PySem.Spec L2
@[simp] def yiN : FM:=λx vs h=>match x,vs with
 | .ref n,[y]=>match h[n]?,ybi y h with
  | some (.lst xs),some ys=>if xs.length + ys.length <= sizeLine then .ok .non (h.set n (.lst (xs++ys))) else .bad
  | _,_=>.bad
 | _,_=>.bad
def yaX : FM:=λx vs h=>match x,vs with
 | .str z,[.str y]=>.ok (.bl (Txt.startswith z y)) h
 | _,_=>.bad
theorem zdj {T : Tb} {X : Cx} : ∃ r,MtR X "str.startswith" r /\ MtS T yaX r:=by
 refine ⟨_,zcV,λι h H x xs u us E Q S rx rs q=>?_⟩
 unfold yaX at q
 split at q
 ·cases rs with
  | cons r r' =>
   cases r'
   obtain ⟨rfl,_⟩:=yaS rx
   obtain ⟨rfl,_⟩:=yaS r
   exact ⟨_,_,rfl,rfl,q.now S (.bl _)⟩
 ·exact q.elim
section
variable {T : Tb} {E : L2.St -> XK} {X : Cx} {pos : Pos} {a b : Expr} {sa sb : SE}
end
end Sm
namespace L2
open PySem PySem.Spec
theorem Room.m {j k : Nat} {A : Around} (hr : Room k A) (h : Nat.ble j k = true:=by rfl) : Room j A:=hr.mono (Nat.le_of_ble_eq_true h)
end L2
namespace Sm
open PySem PySem.Spec L2
def DK (K : PySem.W.Frag) (x : Str) (st : Stmt) : Prop:=∃ f fd,PySem.W.nsIn K mainGlobals x = some (some (.ref f)) /\ Fun K x x st f fd
def DN (K : PySem.W.Frag) (C : Addr) (m q : Str) (st : Stmt) : Prop:=∃ f fd,Meth K C m f /\ Fun K m q st f fd
def DMm (K : PySem.W.Frag) (cls : Nat -> Option Addr) (c : Nat) (m q : Str) (st : Stmt) (ps : List Str) : Prop:=∃ C f fd,cls c = some C /\ Cls K C /\ Meth K C m f /\ Binds K fd ps [] /\ Fun K m q st f fd
def DI (K : PySem.W.Frag) (cls : Nat -> Option Addr) (mg : Str -> Option Value) (c : Nat) (x q : Str) (st : Stmt) (ps : List Str) : Prop:=∃ C f fd,cls c = some C /\ mg x = some (.ref C) /\ Mk K C f /\ Binds K fd ps [] /\ Fun K "__init__" q st f fd
section
variable {P : Program} {w : World} {K : PySem.W.Frag} {mg : Str -> Option Value} {base h : Heap} {T : Tb} {x m q : Str} {st : Stmt} {f C : Addr} {N ps : List Str} {k c : Nat} {b : SS} {cls : Nat -> Option Addr}
section
variable {oc : Value} {od an : Option Addr} {osl : Array (Option Value)} {kV doc pm cdv ct : Value}
theorem dk (a : PySem.W.nsIn K mainGlobals x = some (some (.ref f))) (l : K.lookup f = some ⟨oc,od,.func (PySem.W.fnOf x x (yce st) (ybd st) (yae st) .none kV doc pm an cdv ct),osl⟩)
  (c : PySem.W.codeIn K cdv x = true) (k : PySem.W.keepIn K (.ref f) = true) : DK K x st:=⟨f,_,a,yey l c k⟩
theorem dn (a : PySem.W.findIn K (.ref C) m = some (some (.ref f))) (i : PySem.W.isFn K (.ref f) = true) (l : K.lookup f = some ⟨oc,od,.func (PySem.W.fnOf m q (yce st) (ybd st) (yae st) .none kV doc pm an cdv ct),osl⟩)
  (c : PySem.W.codeIn K cdv q = true) (k : PySem.W.keepIn K (.ref f) = true) : DN K C m q st:=⟨f,_,⟨a,i,k⟩,yey l c k⟩
end
abbrev BA (x q : Str) (st : Stmt) (us : List Value) (r : List (Str × Value)) : Prop:=∀ (kV doc pm : Value) (an : Option Addr) (cdv ct : Value),bindArgs (PySem.W.fnOf x q (yce st) (ybd st) (yae st) .none kV doc pm an cdv ct) ⟨us,[]⟩ = pure r
def BL (x q : Str) (st : Stmt) (ps : List Str) : Prop:=∀ (us : List Value),us.length = ps.length -> BA x q st us (ps.zip us)
theorem bl1 {p1 : Str} (h : ∀ a,BA x q st [a] [(p1,a)]:=by exact λ_ _ _ _ _ _ _=>rfl) : BL x q st [p1]:=λus e=>by obtain ⟨_,rfl⟩:=el1 e; exact h _
theorem bl2 {p1 p2 : Str} (h : ∀ a b,BA x q st [a,b] [(p1,a),(p2,b)]:=by exact λ_ _ _ _ _ _ _ _=>rfl) : BL x q st [p1,p2]:=λus e=>by obtain ⟨_,_,rfl⟩:=el2 e; exact h _ _
theorem bl3 {p1 p2 p3 : Str} (h : ∀ a b c,BA x q st [a,b,c] [(p1,a),(p2,b),(p3,c)]:=by exact λ_ _ _ _ _ _ _ _ _=>rfl) : BL x q st [p1,p2,p3]:=λus e=>by obtain ⟨_,_,_,rfl⟩:=el3 e; exact h _ _ _
theorem bl5 {p1 p2 p3 p4 p5 : Str} (h : ∀ a b c d e,BA x q st [a,b,c,d,e] [(p1,a),(p2,b),(p3,c),(p4,d),(p5,e)]:=by exact λ_ _ _ _ _ _ _ _ _ _ _=>rfl) : BL x q st [p1,p2,p3,p4,p5]:=λus e=>by obtain ⟨_,_,_,_,_,rfl⟩:=el5 e; exact h _ _ _ _ _
theorem dg (X : K.In h) (G : h.Ns mainGlobals mg) (d : DK K x st) (hb : BL x x st ps) : DG K mg x st ps:=by
 obtain ⟨f,fd,a,F⟩:=d
 exact ⟨f,fd,PySem.W.mg_of X G a,F.kp,F.binds λ_ _ _ _ _ _ us hl=>hb us hl _ _ _ _ _ _,F⟩
theorem dm (hc : cls c = some C) (k : Cls K C) (d : DN K C m q st) (hb : BL m q st ps) : DMm K cls c m q st ps:=by
 obtain ⟨f,fd,M,F⟩:=d
 exact ⟨C,f,fd,hc,k,M,F.binds λ_ _ _ _ _ _ us hl=>hb us hl _ _ _ _ _ _,F⟩
theorem di (hc : cls c = some C) (hx : mg x = some (.ref C)) (mk : PySem.W.makesIn K C = true) (kc : PySem.W.keepIn K (.ref C) = true) (d : DN K C "__init__" q st) (hb : BL "__init__" q st ps) : DI K cls mg c x q st ps:=by
 obtain ⟨f,fd,M,F⟩:=d
 exact ⟨C,f,fd,hc,hx,⟨mk,M.at_,M.fn,kc⟩,F.binds λ_ _ _ _ _ _ us hl=>hb us hl _ _ _ _ _ _,F⟩
theorem dlaw {fa : Addr} {p : Str} (X : K.In h) (G : h.Ns mainGlobals mg) (hfa : mg x = some (.ref fa)) (d : DK K x st) (hb : BL x x st [p]) : ∃ fd : FuncData,(∀ (s : Shared) (v : Value),BindsTo s fd ⟨[v],[]⟩ [(p,v)]) /\ Fun K x x st fa fd:=by
 obtain ⟨f,fd,a,F⟩:=d
 have e:=hfa.symm.trans (PySem.W.mg_of X G a)
 cases e
 refine ⟨fd,λs v=>?_,F⟩
 obtain ⟨oc,od,kV,doc,pm,an,cdv,ct,osl,rfl,lk,hcd⟩:=F.ex
 exact .of_eq (hb [v] rfl _ _ _ _ _ _)
theorem fsk {sc : Scope} (h1 : sc.kind = .function:=by rfl) (h2 : sc.isCoroutine = false:=by rfl) (h3 : sc.isGenerator = false:=by rfl) (h4 : N.Nodup:=by decide +kernel) (h5 : N.take ps.length = ps:=by rfl)
  (h6 : ∀ x ∈ ps,sc.names.lookup x = some .local \/ sc.names.lookup x = some .cell:=by decide +kernel) (h7 : ∀ y ∈ sc.names,y.2 ≠ .free:=by decide +kernel) : FnScope N ps sc:=⟨h1,h2,h3,h4,h5,h6,h7⟩
abbrev yem (P : Program) (w : World) (mg : Str -> Option Value) (base : Heap) (T : Tb) (q : Str) (st : Stmt) (f : Addr) (N : List Str) (k : Nat) (b : SS) : Prop :=
 ∀ {cdv : Value} {A : Around} {outer : List Env} {s : Shared} {H : Hp} {E : XK},Room k (A.deeper (PyProof.Rows.envOfC q (yae st) s.heap.objs.size f cdv)) -> CA T (λ_=>E) (cxOf (CXE P w) P w T.K mg base N q (yae st) f cdv A outer s H E) ->
  (A.deeper (PyProof.Rows.envOfC q (yae st) s.heap.objs.size f cdv)).units + 64 < cLine -> N.Nodup -> PSsA T (λ_=>E) (cxOf (CXE P w) P w T.K mg base N q (yae st) f cdv A outer s H E) (ybd st) b
theorem gf (d : DG T.K mg x st ps) (S : FnScope N ps (yae st)) (hb : ∀ {f},yem P w mg base T x st f N k b) : GF P w T mg base (k + 1) x (mkFn ps.length N.length b):=by
 obtain ⟨f,fd,h1,h2,h3,h4⟩:=d
 exact ⟨f,fd,_,h1,h2,h3,okA h4 rfl S λcdv A outer s H E hr C=>hb hr C (hu64 hr) S.nd⟩
theorem gm (d : DMm T.K T.cls c m q st ps) (S : FnScope N ps (yae st)) (no : m ∉ T.fields c) (hb : ∀ {f},yem P w mg base T q st f N k b) : GM P w T mg base (k + 1) c m (mkFn ps.length N.length b):=by
 obtain ⟨C,f,fd,h0,hc,h1,h3,h4⟩:=d
 exact ⟨⟨C,f,fd,_,h0,hc,h1,h3,okA h4 rfl S λcdv A outer s H E hr C=>hb hr C (hu64 hr) S.nd⟩,no⟩
theorem gk (d : DI T.K T.cls mg c x q st ps) (S : FnScope N ps (yae st)) (hb : ∀ {f},yem P w mg base T q st f N k b) : GK P w T mg base (k + 1) c x (mkFn ps.length N.length b):=by
 obtain ⟨C,f,fd,h0,h1,h2,h3,h4⟩:=d
 exact ⟨C,f,fd,_,h0,h1,h2,h3,okA h4 rfl S λcdv A outer s H E hr C=>hb hr C (hu64 hr) S.nd⟩
theorem gh (d : DG T.K mg x st ps) (S : FnScope N ps (yae st)) (hb : ∀ {f cdv A outer s H},RoomH k (A.deeper (PyProof.Rows.envOfC x (yae st) (Shared.heap s).objs.size f cdv)) -> (A.deeper (PyProof.Rows.envOfC x (yae st) (Shared.heap s).objs.size f cdv)).units + 64 < cLine -> N.Nodup ->
   PSsA T EN (cxH P w T.K mg base N x (yae st) f cdv A outer s H) (ybd st) b) : GFH P w T mg base (k + 1) x (mkFn ps.length N.length b):=by
 obtain ⟨f,fd,h1,h2,h3,h4⟩:=d
 exact ⟨f,fd,_,h1,h2,h3,okH h4 S λcdv A outer s H hr=>hb hr (huH hr) S.nd⟩
theorem gl {f : Addr} {fd : FuncData} (h4 : Fun T.K x x st f fd) (S : FnScope N ps (yae st)) (hb : yem P w mg base T x st f N k b) : FnOk P w T.K mg base (CXE P w) (k + 1) f fd ps (spA T (mkFn ps.length N.length b)) :=
 okA h4 rfl S λcdv A outer s H E hr C=>hb hr C (hu64 hr) S.nd
def XI (K : PySem.W.Frag) (X : Addr) : Prop:=PySem.W.excIn K X [.type "ValueError",.type "Exception",.type "BaseException",.type "object"] "ValueError.__new__" = true
theorem xi {X : Addr} (h : PySem.W.excIn K X [.type "ValueError",.type "Exception",.type "BaseException",.type "object"] "ValueError.__new__" = true) : XI K X:=h
theorem gx {X : Addr} {n : Nat} {g : Heap} (KB : K.In g) (KX : K.In h) (G : h.Ns mainGlobals mg) (hc : T.exc n = some X) (e : PySem.W.nsIn K mainGlobals x = some (some (.ref X))) (hx : XI K X) : GX T mg g n x:=⟨X,hc,zhc KB (PySem.W.mg_of KX G e) hx⟩
def KO (K : PySem.W.Frag) (a b : Addr) (v : Bool) : Prop:=PySem.W.kitOne K (.ref a) (.ref b) = some v
theorem ko {a d : Addr} {v : Bool} (h : PySem.W.kitOne K (.ref a) (.ref d) = some v) : KO K a d v:=h
def XO (K : PySem.W.Frag) (a b : Addr) : Prop:=PySem.W.exmOne K (.ref a) (.ref b) = some true
theorem xo {a d : Addr} (h : PySem.W.exmOne K (.ref a) (.ref d) = some true) : XO K a d:=h
def NA (K : PySem.W.Frag) (x : Str) (v : Option Value) : Prop:=PySem.W.nsIn K mainGlobals x = some v
theorem na {v : Option Value} (h : PySem.W.nsIn K mainGlobals x = some v) : NA K x v:=h
def FA (K : PySem.W.Frag) (C : Addr) (x : Str) : Prop:=PySem.W.findIn K (.ref C) x = some none
theorem fatt (h : PySem.W.findIn K (.ref C) x = some none) : FA K C x:=h
end
end Sm
namespace L2
open PySem PySem.Spec PyProof.Rows
inductive TailN (h : Heap) (bm0 : List Value) (ns : List Str) : List Value -> Prop
 | base : TailN h bm0 ns bm0
 | own {A : Addr} {c0 : Value} {dd : Option Addr} {cd : ClassData} {sl : Array (Option Value)} {mA : Str -> Option Value} {tl : List Value} :
   h.get? A = some { cls:=c0,dict:=dd,data:=.cls cd,slots:=sl } -> h.Ns cd.ns mA -> (∀ n ∈ ns,mA n = none) -> TailN h bm0 ns tl -> TailN h bm0 ns (.ref A :: tl)
theorem TailN.up {h h' : Heap} {bm0 tl : List Value} {ns : List Str} (T : TailN h bm0 ns tl) (k : ∀ b o,h.get? b = some o -> h'.get? b = some o) : TailN h' bm0 ns tl:=by
 induction T with
 | base=>exact .base
 | own a1 a2 a3 _ ih=>exact .own (k _ _ a1) (a2.keeps k) a3 ih
theorem TailN.old {h : Heap} {bm0 tl : List Value} {ns : List Str} (T : TailN h bm0 ns tl) (hi : ("__init__" : Str) ∈ ns) : OwnTail h bm0 tl:=by
 induction T with
 | base=>exact .base
 | own a1 a2 a3 _ ih=>exact .own a1 a2 (a3 _ hi) ih
section
variable {M : Model} {A : Around} {E : Value -> Shared -> Prop} {h : Heap} {g : Array GenState} {d : Drawn} {t : Nat} {os : OsState}
theorem zhj {ns : List Str} {bm0 tl : List Value} {n : Str} {y : Option Value} {Q : Option Value -> Shared -> Prop} (hn : n ∈ ns) (T : TailN h bm0 ns tl) (hr : lookupAlong bm0 n = pure y) (hq : Q y ⟨h,g,d,t,os⟩) :
  wpAny M A (lookupAlong tl n) Q E ⟨h,g,d,t,os⟩:=by
 induction T with
 | base=>rw [hr]; exact wpAny_pure hq
 | own a1 a2 a3 _ ih=>rw [lookupAlong_cons]; refine wpAny_bind (wpAny_classOwn_cls a1 a2 ?_); rw [a3 n hn]; exact ih
variable {nm q : Str} {C N : Addr} {bs bm bm0 : List Value} {hdct : Bool} {sn : List Str} {sub : List Value} {ab : Bool} {col : Option Bool} {dd : Option Addr} {k0 k1 k2 k3 k5 : Option Value} {B newId : String} {ns : List Str}
theorem zbk {mN : Str -> Option Value} {n : Str} {y : Option Value} {Q : Option Value -> Shared -> Prop} (hn : n ∈ ns) (hC : h.get? C = some (excClassObj nm q C N bs bm hdct sn sub ab col dd k0 k1 k2 k3 k5 newId)) (hN : h.Ns N mN) (T : TailN h bm0 ns bm)
  (hbm : mroOf (.type B) = pure bm0) (hB : typeLookup (.type B) n = pure y) (hz : mN n = none) (hq : Q y ⟨h,g,d,t,os⟩) : wpAny M A (typeLookup (.ref C) n) Q E ⟨h,g,d,t,os⟩:=by
 have hr : lookupAlong bm0 n = pure y:=by rw [typeLookup_eq,hbm] at hB; exact hB
 rw [typeLookup_eq]
 refine wpAny_bind (wpAny_mroOf_exc hC ?_)
 rw [lookupAlong_cons]
 refine wpAny_bind (wpAny_classOwn_exc hC hN ?_)
 rw [hz]
 exact zhj hn T hr hq
end
section
variable {prog : Program} {w : World} {A : Around} {E : Value -> Shared -> Prop} {h : Heap} {g : Array GenState} {d : Drawn} {t : Nat} {os : OsState}
variable {nm q : Str} {C N : Addr} {bs bm bm0 : List Value} {hdct : Bool} {sn : List Str} {sub : List Value} {ab : Bool} {col : Option Bool} {dd : Option Addr} {k0 k1 k2 k3 k5 : Option Value} {B newId initId : String}
abbrev newX (h : Heap) (C : Addr) (rest : List Value) : Heap:=(h.push { cls:=.type "tuple",data:=.seq rest.toArray }).push { cls:=.ref C,data:=.fields #[.ref h.objs.size,.none,.none,.none,.bool false,.none] }
theorem zgk (F : ExcBaseFacts B newId initId bm0) (T : OwnTail h bm0 bm) {mN : Str -> Option Value} {rest : List Value} {fI : Addr} {oI : Obj} {Q : Fin -> Shared -> Prop}
  (hC : h.get? C = some (excClassObj nm q C N bs bm hdct sn sub ab col dd k0 k1 k2 k3 k5 newId)) (hn : h.Ns N mN) (hi : mN "__init__" = some (.ref fI)) (hfI : h.get? fI = some oI) (hfc : oI.cls = .type "function") (hrest : rest.length <= sizeLine)
  (hq : ∀ h' e,Heap.MadeExcOf h h' e (.ref C) rest -> wpAny (model prog w) A (call (.ref fI) (.ref e :: rest)) (λr s' => r = .none /\ Q (.done (.ret (.ref e))) s') E ⟨h',g,d,t,os⟩) :
  wpAny (model prog w) A (Builtin.«type.__call__» ⟨.ref C :: rest,[]⟩) Q E ⟨h,g,d,t,os⟩:=by
 have kp : ∀ b o,h.get? b = some o -> (newX h C rest).get? b = some o:=λb o e=>Heap.get?_push_of_some _ (Heap.get?_push_of_some _ e)
 have hget : (newX h C rest).get? (h.objs.size + 1) = some { cls:=.ref C,data:=.fields #[.ref h.objs.size,.none,.none,.none,.bool false,.none] }:=by heap_get
 have hcC : (Value.ref C :: bm).contains (.ref C) = true:=by simp
 have c1:=kp _ _ hC
 repeat (first | with_reducible refine wpAny_loadPart_at hC ?_ | with_reducible refine wpAny_madeBy_exc hC ?_ | wp_step)
 refine codeAny_call_builtin_code (Code.quiet_builtin _ F.quiet) (wpAny_check_new_subT F T hC (codeAny_exc_new_subT F T hC ?_ hrest))
 show wpAny _ _ _ _ _ _
 unfold isInstance
 repeat (first | with_reducible refine wpAny_loadPart_at hget ?_ | (with_reducible refine wpAny_isSubtype_exc c1 ?_; rw [hcC]) | wp_step)
 show wpAny _ _ (typeLookup (.ref C) _) _ _ _
 refine wpAny_typeLookup_tail c1 (hn.keeps kp) (T.keeps kp) F.mroIs F.init.lookup ?_
 rw [hi]
 refine wpAny_holding (wpAny_bind ?_)
 unfold bindSpecial
 refine wpAny_bind (wpAny_typeOf (T := "function") ⟨_,kp _ _ hfI,hfc⟩ ?_)
 rw [if_pos (by decide)]
 refine wpAny_pure (wpAny_bind (wpAny_mono (hq (newX h C rest) (h.objs.size + 1) ⟨kp,Heap.get?_none_of_le (Nat.le_succ _),h.objs.size,hget,Heap.get?_none_of_le (Nat.le_refl _),Heap.get?_push_of_some _ (Heap.get?_push_at rfl rfl)⟩) (λr s' hr=>?_) λ_ _ x=>x))
 obtain ⟨rfl,hQ⟩:=hr
 wp_walk
 exact hQ
theorem zhk (F : ExcBaseFacts B newId initId bm0) (T : OwnTail h bm0 bm) {mN : Str -> Option Value} {rest : List Value} {fI : Addr} {oI : Obj} {Q : Value -> Shared -> Prop}
  (hC : h.get? C = some (excClassObj nm q C N bs bm hdct sn sub ab col dd k0 k1 k2 k3 k5 newId)) (hn : h.Ns N mN) (hi : mN "__init__" = some (.ref fI)) (hfI : h.get? fI = some oI) (hfc : oI.cls = .type "function") (hrest : rest.length <= sizeLine)
  (hq : ∀ h' e,Heap.MadeExcOf h h' e (.ref C) rest -> wpAny (model prog w) (A.under (.builtin "type.__call__" ⟨.ref C :: rest,[]⟩)) (call (.ref fI) (.ref e :: rest)) (λr s' => r = .none /\ Q (.ref e) s') E ⟨h',g,d,t,os⟩) :
  wpAny (model prog w) A (call (.ref C) rest) Q E ⟨h,g,d,t,os⟩:=by
 have f1:=tc_lookup
 have f2:=tc_bind (.ref C)
 have hT : (⟨h,g,d,t,os⟩ : Shared).TypeIs (.ref C) "type" := ⟨_,hC,rfl⟩
 refine wpAny_call (codeAny_of_tree ?_)
 show wpAny _ _ (callAny (.ref C) _) _ _ _
 repeat (any_goals (first | assumption | with_reducible refine wpAny_loadPart_at hC ?_ | wp_step))
 exact ⟨rfl,codeAny_call_builtin_at (Code.quiet_builtin _ (by decide +kernel)) entry_typeCall (wpAny_check_type_call_sub hC (zgk F T hC hn hi hfI hfc hrest λh' e hm=>hq h' e hm))⟩
end
section
open Builtin Builtin.ObjectAttr
variable {prog : Program} {w : World} {A : Around} {E : Value -> Shared -> Prop} {h : Heap} {g : Array GenState} {d : Drawn} {t : Nat} {os : OsState}
variable {nm q : Str} {C N x : Addr} {bs bm bm0 : List Value} {sn : List Str} {sub : List Value} {ab : Bool} {col : Option Bool} {dd : Option Addr} {k0 k1 k2 k3 k5 : Option Value} {B newId sa owner : String} {mN : Str -> Option Value} {name : Str} {v : Value} {ns : List Str} {o : Obj} {vs : Array Value}
theorem zit {bm1 : List Value} (self : Value) (T : TailN h bm1 ns bm) (what : Str) (hp : refuseLoop self what bm1 = pure ()) : refuseLoop self what bm = pure ():=by
 induction T with
 | base=>exact hp
 | own _ _ _ _ ih=>rw [refuseLoop_ref]; exact ih
theorem zgl {tk : Tok} {Q : Fin -> Shared -> Prop} (SF : StoreFacts B bm0 sa owner) (hC : h.get? C = some (excClassObj nm q C N bs bm true sn sub ab col dd k0 k1 k2 k3 k5 newId)) (hn : h.Ns N mN) (T : TailN h bm0 ns bm) (hm : name ∈ ns) (hna : mN name = none)
  (hB : typeLookup (.type B) name = pure none) (hx : h.get? x = some o) (hc : o.cls = .ref C) (hd : o.data = .fields vs) (hdn : o.dict = none)
  (hq : ∀ h' tk' dx,h.objs.size <= dx -> dx ≠ x -> h'.get? x = some { o with dict:=some dx } -> h'.Ns1 dx (λy=>if y = name then some v else none) -> (∀ b ob,b ≠ x -> h.get? b = some ob -> h'.get? b = some ob) -> Q (.done (.ret .none)) ⟨h',g,d,tk',os⟩) :
  wpAny (model prog w) A (Builtin.«object.__setattr__» ⟨[.ref x,.str name tk,v],[]⟩) Q E ⟨h,g,d,t,os⟩:=by
 have hpass:=zit (.ref x) T "__setattr__" (SF.passes (.ref x))
 unfold Builtin.«object.__setattr__»
 repeat (first | rw [refuse_eq] | (rw [refuseLoop_ref,hpass]) | (with_reducible refine wpAny_loadPart_at hx ?_; rw [hc]) | with_reducible refine wpAny_mroOf_exc hC ?_ | (with_reducible refine zbk hm hC hn T SF.mro hB hna ?_) | wp_step)
 rw [hdn,if_neg (by simp [typeHasDict])]
 split
 ·rename_i hcd; cases hcd
 split
 ·rename_i c hcd; rw [hd] at hcd; cases hcd
 have hx1 : (h.push { cls:=.type "dict",data:=.dict #[] }).get? x = some o:=Heap.get?_push_of_some _ hx
 have hxs : x ≠ h.objs.size:=Nat.ne_of_lt (Heap.lt_size hx)
 refine wpAny_bind (wpAny_alloc' (wpAny_bind (wpAny_update' hx1 (wpAny_pure ?_))))
 have hgd : ((h.push { cls:=.type "dict",data:=.dict #[] }).update x λo=>{ cls:=o.cls,dict:=some h.objs.size,data:=o.data,slots:=o.slots }).get? h.objs.size = some { cls:=.type "dict",data:=.dict #[] } :=
  (Heap.get?_update_ne _ _ _ _ hxs.symm).trans (Heap.get?_push_at rfl rfl)
 have hnd : ((h.push { cls:=.type "dict",data:=.dict #[] }).update x λo=>{ cls:=o.cls,dict:=some h.objs.size,data:=o.data,slots:=o.slots }).Ns h.objs.size (λ_=>none) :=
  ⟨_,#[],_,hgd,rfl,λe he=>absurd he (by simp),λ_=>rfl⟩
 show wpAny _ _ (storeInDict h.objs.size (.str name tk) name v) _ _ _
 unfold storeInDict newKeyGuard
 refine wpAny_bind (wpAny_pure (wpAny_bind (wpAny_nsSet1 (Heap.Ns1.of_empty hnd) λh' hn' hs=>?_)))
 obtain ⟨oD,esD,epD,hoD,hdD,hcD⟩:=hn'.count (Within.cons name v Within.nil)
 refine wpAny_bind (wpAny_lookBehind hoD (by rw [hdD]; exact pastItsLine_dict (Nat.le_trans hcD (by rw [List.length_cons,List.length_nil,sizeLine_eq]; omega))) ?_)
 wp_walk
 refine hq h' _ h.objs.size (Nat.le_refl _) hxs.symm ?_ hn' λb ob hbx hb=>(hs.2 b (Nat.ne_of_lt (Heap.lt_size hb))).trans ((Heap.get?_update_ne _ _ _ _ hbx).trans (Heap.get?_push_of_some _ hb))
 refine (hs.2 x hxs).trans (Heap.get?_update_self _ hx1 ?_)
 have hfr:=(Heap.get?_some_iff.mp hx).2
 obtain ⟨oc,od,odt,osl⟩:=o
 cases odt<;>first | rfl | exact hfr
theorem zgm {M : Model} {nv : Value} {Q : Unit -> Shared -> Prop} (SF : StoreFacts B bm0 sa owner) (hC : h.get? C = some (excClassObj nm q C N bs bm true sn sub ab col dd k0 k1 k2 k3 k5 newId)) (T : TailN h bm0 ns bm) (hi : ("__init__" : Str) ∈ ns) (hx : h.get? x = some o) (hc : o.cls = .ref C) (hq : Q () ⟨h,g,d,t,os⟩) :
  wpAny M A (checkBuiltinCall sa ⟨[.ref x,nv,v],[]⟩) Q E ⟨h,g,d,t,os⟩:=by
 have hcB : (Value.ref C :: bm).contains (.type owner) = true:=by rw [List.contains_cons,(T.old hi).hasType SF.hasOwner,Bool.or_true]
 have ha:=SF.args (.ref x) nv v
 simp only [checkBuiltinCall,SF.kind,SF.split]
 refine wpAny_bind ?_
 unfold isInstance
 repeat (first | (with_reducible refine wpAny_loadPart_at hx ?_; rw [hc]) | (with_reducible refine wpAny_isSubtype_exc hC ?_; rw [hcB]) | wp_step)
 cases hsig : Manifest.signature? sa with
 | none=>exact wpAny_pure hq
 | some sig =>
  simp only [argsOk,hsig] at ha
  show wpAny M A (Bind.checkArgs sa sig ⟨[.ref x,nv,v],[]⟩) Q E _
  rw [show Bind.checkArgs sa sig ⟨[.ref x,nv,v],[]⟩ = pure () from ha]; exact wpAny_pure hq
theorem zhl {Q : Unit -> Shared -> Prop} (SF : StoreFacts B bm0 sa owner) (hC : h.get? C = some (excClassObj nm q C N bs bm true sn sub ab col dd k0 k1 k2 k3 k5 newId)) (hn : h.Ns N mN) (T : TailN h bm0 ns bm) (hi : ("__init__" : Str) ∈ ns) (hms : ("__setattr__" : Str) ∈ ns) (hm : name ∈ ns) (hns : mN "__setattr__" = none) (hna : mN name = none)
  (hB : typeLookup (.type B) name = pure none) (hx : h.get? x = some o) (hc : o.cls = .ref C) (hd : o.data = .fields vs) (hdn : o.dict = none)
  (hq : ∀ h' tk' dx,h.objs.size <= dx -> dx ≠ x -> h'.get? x = some { o with dict:=some dx } -> h'.Ns1 dx (λy=>if y = name then some v else none) -> (∀ b ob,b ≠ x -> h.get? b = some ob -> h'.get? b = some ob) -> Q () ⟨h',g,d,tk',os⟩) :
  wpAny (model prog w) A (setAttr (.ref x) name v) Q E ⟨h,g,d,t,os⟩:=by
 have f3:=SF.slot.bind (.ref x)
 unfold setAttr callSpecial? specialOf
 repeat (any_goals (first | assumption | (with_reducible refine wpAny_loadPart_at hx ?_; rw [hc]) | (with_reducible refine zbk hms hC hn T SF.mro SF.slot.lookup hns ?_) | wp_step))
 refine codeAny_call_builtin SF.slot.plain SF.entry (zgm SF hC T hi hx hc (zgl SF hC hn T hm hna hB hx hc hd hdn λh' tk' dx z1 z2 z3 z4 z5=>?_))
 repeat (any_goals (first | assumption | wp_step))
 exact hq h' tk' dx z1 z2 z3 z4 z5
end
section
open Builtin Builtin.ObjectAttr
variable {prog : Program} {w : World} {A : Around} {E : Value -> Shared -> Prop} {h : Heap} {g : Array GenState} {d : Drawn} {t : Nat} {os : OsState}
variable {nm q : Str} {C N x dx : Addr} {bs bm bm0 : List Value} {sn : List Str} {sub : List Value} {ab : Bool} {col : Option Bool} {dd : Option Addr} {k0 k1 k2 k3 k5 : Option Value} {B newId : String} {mN mA : Str -> Option Value} {name : Str} {v : Value} {ns : List Str} {o : Obj} {vs : Array Value}
theorem zgn {tk : Tok} {Q : Fin -> Shared -> Prop} (FB : ExcAttrBase B bm0) (hC : h.get? C = some (excClassObj nm q C N bs bm true sn sub ab col dd k0 k1 k2 k3 k5 newId)) (hn : h.Ns N mN) (T : TailN h bm0 ns bm) (hm : name ∈ ns) (hna : mN name = none)
  (hB : typeLookup (.type B) name = pure none) (hx : h.get? x = some o) (hc : o.cls = .ref C) (hd : o.data = .fields vs) (hdx : o.dict = some dx) (hns : h.Ns1 dx mA) (hv : mA name = some v) (hq : Q (.done (.ret v)) ⟨h,g,d,t,os⟩) :
  wpAny (model prog w) A (Builtin.«object.__getattribute__» ⟨[.ref x,.str name tk],[]⟩) Q E ⟨h,g,d,t,os⟩:=by
 unfold Builtin.«object.__getattribute__»
 repeat (first | (with_reducible refine wpAny_loadPart_at hx ?_; rw [hc]) | (with_reducible refine zbk hm hC hn T FB.mro hB hna ?_) | wp_step)
 rw [hd]
 show wpAny _ _ (instanceDict x false) _ _ _
 unfold instanceDict
 repeat (first | (with_reducible refine wpAny_loadPart_at hx ?_; rw [hc]) | with_reducible refine wpAny_loadPart_at hC ?_ | wp_step)
 rw [hdx]
 repeat (first | (with_reducible refine wpAny_nsGet hns.ns ?_; rw [hv]) | wp_step)
 exact hq
theorem zgo {M : Model} {nv : Value} {Q : Unit -> Shared -> Prop} (FB : ExcAttrBase B bm0) (hC : h.get? C = some (excClassObj nm q C N bs bm true sn sub ab col dd k0 k1 k2 k3 k5 newId)) (T : TailN h bm0 ns bm) (hi : ("__init__" : Str) ∈ ns)
  (hx : h.get? x = some o) (hc : o.cls = .ref C) (hq : Q () ⟨h,g,d,t,os⟩) : wpAny M A (checkBuiltinCall "BaseException.__getattribute__" ⟨[.ref x,nv],[]⟩) Q E ⟨h,g,d,t,os⟩:=by
 have b1 : builtinKind "BaseException.__getattribute__" = some .slot:=by decide +kernel
 have b2 : splitId "BaseException.__getattribute__" = some ("BaseException", "__getattribute__"):=by decide +kernel
 have b3 : (Value.ref C :: bm).contains (.type "BaseException") = true:=by rw [List.contains_cons,(T.old hi).hasType FB.hasBase]; rfl
 have ha:=F.args_bexc_ga (.ref x) nv
 simp only [checkBuiltinCall,b1,b2]
 refine wpAny_bind ?_
 unfold isInstance
 repeat (first | (with_reducible refine wpAny_loadPart_at hx ?_; rw [hc]) | (with_reducible refine wpAny_isSubtype_exc hC ?_; rw [b3]) | wp_step)
 exact hq
theorem zhm {expr : Bool} {Q : Value -> Shared -> Prop} (FB : ExcAttrBase B bm0) (hC : h.get? C = some (excClassObj nm q C N bs bm true sn sub ab col dd k0 k1 k2 k3 k5 newId)) (hn : h.Ns N mN) (T : TailN h bm0 ns bm) (hi : ("__init__" : Str) ∈ ns)
  (hg : ("__getattribute__" : Str) ∈ ns) (hg2 : ("__getattr__" : Str) ∈ ns) (hm : name ∈ ns) (hz1 : mN "__getattribute__" = none) (hz2 : mN "__getattr__" = none) (hna : mN name = none)
  (hB : typeLookup (.type B) name = pure none) (hx : h.get? x = some o) (hc : o.cls = .ref C) (hd : o.data = .fields vs) (hdx : o.dict = some dx) (hns : h.Ns1 dx mA) (hv : mA name = some v) (hh : handedOut v = pure v) (hq : Q v ⟨h,g,d,t + 1,os⟩) :
  wpAny (model prog w) A (getAttr (.ref x) name expr) Q E ⟨h,g,d,t,os⟩:=by
 have f3:=FB.ga.bind (.ref x)
 have x0 : (expr && onTheHeap (Value.builtin "BaseException.__getattribute__")) = false:=by cases expr<;>rfl
 have x2 : (Value.builtin "BaseException.__getattribute__" == Value.builtin "object.__getattribute__") = false:=by decide +kernel
 have x1 : (onTheHeap (Value.ref C) && Value.builtin "BaseException.__getattribute__" == Value.builtin "object.__getattribute__") = false:=by rw [x2]; rfl
 unfold getAttr getAttrBy
 repeat (any_goals (first | assumption | (with_reducible refine wpAny_loadPart_at hx ?_; rw [hc]) | with_reducible refine zbk hg hC hn T FB.mro FB.ga.lookup hz1 ?_ | with_reducible refine zbk hg2 hC hn T FB.mro FB.noGetattr hz2 ?_ | wp_step))
 refine codeAny_call_builtin FB.ga.plain F.entry_bexc_ga (zgo FB hC T hi hx hc (zgn FB hC hn T hm hna hB hx hc hd hdx hns hv ?_))
 show wpAny _ _ (handedOut v) _ _ _
 rw [hh]
 exact wpAny_pure hq
end
end L2
namespace L2
open PySem PySem.Spec PyProof.Rows
abbrev bmVE : List Value:=[.type "ValueError",.type "Exception",.type "BaseException",.type "object"]
abbrev nmsX (f : Str) : List Str:=["__init__", "__setattr__", "__getattribute__", "__getattr__",f]
structure IniC (C fI : Addr) (f : Str) (h : Heap) : Prop where
 obj : ∃ tl N nm q bs sn sub ab col dd k0 k1 k2 k3 k5 mN,h.get? C = some (excClassObj nm q C N bs tl true sn sub ab col dd k0 k1 k2 k3 k5 "ValueError.__new__") /\ h.Ns N mN /\ mN "__init__" = some (.ref fI) /\ (∀ n ∈ nmsX f,n ≠ "__init__" -> mN n = none) /\ TailN h bmVE (nmsX f) tl
 fn : ∃ oI,h.get? fI = some oI /\ oI.cls = .type "function"
 nof : typeLookup (.type "ValueError") f = pure none
 fne : f ≠ "__init__"
theorem IniC.up {C fI : Addr} {f : Str} {h h' : Heap} (Z : IniC C fI f h) (k : ∀ b o,h.get? b = some o -> h'.get? b = some o) : IniC C fI f h' := by
 obtain ⟨tl,N,nm,q,bs,sn,sub,ab,col,dd,k0,k1,k2,k3,k5,mN,a1,a2,a3,a4,a5⟩:=Z.obj
 obtain ⟨oI,b1,b2⟩:=Z.fn
 exact ⟨⟨tl,N,nm,q,bs,sn,sub,ab,col,dd,k0,k1,k2,k3,k5,mN,k _ _ a1,a2.keeps k,a3,a4,a5.up k⟩,⟨oI,k _ _ b1,b2⟩,Z.nof,Z.fne⟩
def excN (a : Addr) (cls : Value) : HO:=.ext λh=>∃ ob vs a0,h.get? a = some ob /\ ob.cls = cls /\ ob.dict = none /\ ob.data = .fields vs /\ vs[0]? = some a0 /\ vs[1]? = some .none
def excD (a : Addr) (cls : Value) (dx : Addr) : HO:=.ext λh=>∃ ob vs a0,h.get? a = some ob /\ ob.cls = cls /\ ob.dict = some dx /\ ob.data = .fields vs /\ vs[0]? = some a0 /\ vs[1]? = some .none
abbrev HpD (H : Hp) (a : Addr) (cls : Value) (dx : Addr) (f : Str) (v : V) : Hp:=upd (upd H dx (.xd [(f,v)])) a (excD a cls dx)
section
variable {X : Cx} {pins : List (Addr × Obj)} {σ : St} {H H' : Hp} {s : Shared}
theorem Inv.forget (I : Inv X pins σ H' s) (hH : ∀ b,H b = H' b \/ (H b = none /\ ((∃ φ,H' b = some (.ext φ)) \/ ∃ fs,H' b = some (.xd fs)))) : Inv X pins σ H s:=by
 have non : ∀ b,H' b = none -> H b = none:=λb e=>(hH b).elim (λz=>z.trans e) λz=>z.1
 refine ⟨I.ok,I.os,I.bare,⟨I.base.keep,I.base.slot,λb o e n hx=>non b (I.base.free b o e n hx),I.base.there,λb xs e=>?_,λb o u e=>?_,λb ps e=>?_⟩,I.loc,I.cell,non _ I.free,λx c e=>non _ (I.freeC x c e),λp hp=>?_,λb u e=>?_,I.len⟩
 ·have q:=I.base.tups b xs e
  rcases hH b with z | ⟨_,⟨φ,z⟩ | ⟨fs,z⟩⟩
  ·rw [z,q]
  ·rw [q] at z; cases z
  ·rw [q] at z; cases z
 ·have q:=I.base.frzs b o u e
  rcases hH b with z | ⟨_,⟨φ,z⟩ | ⟨fs,z⟩⟩
  ·rw [z,q]
  ·rw [q] at z; cases z
  ·rw [q] at z; cases z
 ·obtain ⟨more,q⟩:=I.base.tbls b ps e
  rcases hH b with z | ⟨_,⟨φ,z⟩ | ⟨fs,z⟩⟩
  ·exact ⟨more,by rw [z,q]⟩
  ·rw [q] at z; cases z
  ·rw [q] at z; cases z
 ·obtain ⟨e,n,r⟩:=I.pin p hp
  exact ⟨e,non _ n,r⟩
 ·have q : H' b = some u:=by
   rcases hH b with z | z
   ·rw [<- z,e]
   ·rw [e] at z; cases z.1
  refine (I.hok b u q).stay (λc v _ z=>z) (λc z=>?_) λc xs z=>?_
  ·rcases hH c with y | ⟨_,⟨φ,y⟩ | ⟨fs,y⟩⟩
   ·rw [y,z]
   ·rw [z] at y; cases y
   ·rw [z] at y; cases y
  ·rcases hH c with y | ⟨_,⟨φ,y⟩ | ⟨fs,y⟩⟩
   ·rw [y,z]
   ·rw [z] at y; cases y
   ·rw [z] at y; cases y
theorem Inv.putX {h' : Heap} {a dx : Addr} {cls : Value} {f : Str} {y : V} {u : Value} {t' : Nat} {o : Obj} {vs : Array Value} {a0 : Value} (I : Inv X pins σ H s) (e : H a = some (excN a cls)) (ry : RelV y u) (hc : o.cls = cls) (hd : o.data = .fields vs) (h0 : vs[0]? = some a0) (h1 : vs[1]? = some .none)
  (z1 : s.heap.objs.size <= dx) (z2 : dx ≠ a) (z3 : h'.get? a = some { o with dict:=some dx }) (z4 : h'.Ns1 dx (λg=>if g = f then some u else none)) (z5 : ∀ b ob,b ≠ a -> s.heap.get? b = some ob -> h'.get? b = some ob) : Inv X pins σ (HpD H a cls dx f y) { s with heap:=h',toks:=t' }:=by
 have fr : H dx = none:=I.hok.fresh z1
 have lt : ∀ b o,s.heap.get? b = some o -> b ≠ dx:=λb o q z=>absurd (Heap.lt_size q) (by rw [z]; exact Nat.not_lt_of_le z1)
 have ne : ∀ b,H b = none -> b ≠ a:=λb q z=>by rw [z,e] at q; cases q
 have at_ : ∀ b u,H b = some u -> b ≠ a -> HpD H a cls dx f y b = some u:=λb u q n=>by
  show upd (upd H dx _) a _ b = _
  rw [yak n,yak (zag q fr)]; exact q
 refine I.un (h' := h') (t' := t') ⟨λb o q n _ _=>z5 b o (ne b n) q,λb o q n _ _=>⟨o.slots,z5 b o (ne b n) q⟩,λb o q n _=>?_,λb o q _=>?_,λb xs q=>?_,λb o u q=>?_,λb ps q=>⟨#[],?_⟩⟩ λb w q=>?_
 ·show upd (upd H dx _) a _ b = _
  rw [yak (ne b n),yak (lt b o q)]; exact n
 ·by_cases hb : b = a
  ·exact ⟨_,by rw [hb]; exact z3⟩
  ·exact ⟨o,z5 b o hb q⟩
 ·exact at_ b _ q λz=>by rw [z,e] at q; cases q
 ·exact at_ b _ q λz=>by rw [z,e] at q; cases q
 ·rw [Array.append_empty]; exact at_ b _ q λz=>by rw [z,e] at q; cases q
 ·have q' : upd (upd H dx (.xd [(f,y)])) a (excD a cls dx) b = some w:=q
  by_cases hb : b = a
  ·subst hb
   rw [zac] at q'; cases q'
   exact ⟨⟨_,vs,a0,z3,hc,rfl,hd,h0,h1⟩,⟨_,z3⟩,λg1 g2 ⟨ob,ws,b0,y1,y2⟩ k=>⟨ob,ws,b0,k ob y1,y2⟩⟩
  ·rw [yak hb] at q'
   by_cases hb2 : b = dx
   ·subst hb2
    rw [zac] at q'; cases q'
    refine ⟨_,z4,λg=>?_⟩
    show RelO (List.lookup g [(f,y)]) (if g = f then some u else none)
    by_cases hg : g = f
    ·subst hg; rw [if_pos rfl,List.lookup_cons_self]; exact ry
    ·rw [if_neg hg,List.lookup_cons,show (g == f) = false from beq_eq_false_iff_ne.mpr hg]; exact trivial
   ·rw [yak hb2] at q'
    refine (I.hok b w q').stay (λc v hc2 z=>?_) (λc z=>at_ c _ z λz' => by rw [z',e] at z; cases z) λc xs z=>at_ c _ z λz' => by rw [z',e] at z; cases z
    refine z5 c v (λz' => ?_) z
    rcases hc2 with z6 | z6
    ·exact hb (z6.symm.trans z')
    ·rw [z',e] at z6; cases z6
end
section
variable {X : Cx} {o value : Expr} {f : Str} {pos pos' : Pos} {ta tv : TE} {C fI : Addr}
def yih (C : Addr) (f : Str) (ta tv : TE) : TS:=λD σ H=>tv σ H λy H1=>ta σ H1 λx H2=>∃ a,x = .ref a /\ H2 a = some (excN a (.ref C)) /\ ∀ dx,H2 dx = none -> dx ≠ a -> D.nx σ (HpD H2 a (.ref C) dx f y)
theorem ziu (Z : IniC C fI f X.base) (ha : PE X o ta) (hv : PE X value tv) (hs : swapsWith value (some (.Attribute o f pos')) pos.line X.env = pure false) : PS X (.Assign [.Attribute o f pos'] value pos) (yih C f ta tv):=by
 intro pins s σ H D I h
 refine plainObj_wpAny_Assign_Attribute (thn (hv pins s σ H _ I h) λu s1 ⟨y,H1,I1,ry,q⟩=>thn (ha pins s1 σ H1 _ I1 q) λov s2 ⟨x,H2,I2,rx,a,ex,ea,q2⟩=>?_) hs
 subst ex
 obtain rfl : ov = Value.ref a:=rx
 obtain ⟨⟨ob,vs,a0,e1,e2,e3,e4,e5,e6⟩,_,_⟩:=I2.hok a _ ea
 obtain ⟨tl,N,nm,q',bs,sn,sub,ab,col,dd,k0,k1,k2,k3,k5,mN,a1,a2,a3,a4,a5⟩:=(Z.up I2.bk).obj
 obtain ⟨hp,g,d,t,os⟩:=s2
 have m1 : ("__init__" : Str) ∈ nmsX f:=.head _
 have m2 : ("__setattr__" : Str) ∈ nmsX f:=.tail _ (.head _)
 have m3 : f ∈ nmsX f:=.tail _ (.tail _ (.tail _ (.tail _ (.head _))))
 refine zhl PySem.F.store_ValueError a1 a2 a5 m1 m2 m3 (a4 _ m2 (by decide)) (a4 _ m3 Z.fne) Z.nof e1 e2 e4 e3 λh' tk' dx z1 z2 z3 z4 z5=>?_
 exact ⟨σ,_,I2.putX ea ry e2 e4 e5 e6 z1 z2 z3 z4 z5,q2 dx (I2.hok.fresh z1) z2⟩
def yen (C : Addr) (f : Str) : Sp:=λvs H Q _=>∃ a v,vs = [.ref a,v] /\ H a = some (excN a (.ref C)) /\ ∀ dx,H dx = none -> dx ≠ a -> Q .non (HpD H a (.ref C) dx f v)
theorem yg9 {P : Program} {w : World} {K : PySem.W.Frag} {mg : Str -> Option Value} {base : Heap} {st : Stmt} {qual r : Str} {fd : FuncData} {p1 p2 p3 p4 : Pos} (F : Fun K "__init__" qual st fI fd) (S : FnScope ["self",r] ["self",r] (yae st)) (hb : ybd st = [.Assign [.Attribute (.Name "self" p1) f p2] (.Name r p3) p4])
  (hv0 : Vis (yae st) "self") (hv1 : Vis (yae st) r) (hs : ∀ env,swapsWith (.Name r p3) (some (.Attribute (.Name "self" p1) f p2)) p4.line env = pure false) (hr : (r == ("__debug__" : Str)) = false) (hr2 : (r == ("__classdict__" : Str)) = false) (Z : IniC C fI f base) : FnOk P w K mg base (CXE P w) 1 fI fd ["self",r] (yen C f) :=
 F.okE S (λvs H Q E ⟨_,_,e,_⟩=>by rw [e]; rfl) λcdv A outer s H vs Q E _ ⟨a,v,e,ea,q⟩=>⟨_,by rw [hb]; exact zev (ziu (C:=C) (fI:=fI) Z (pv 0 rfl hv0) (pv 1 rfl hv1 hr hr2) (hs _)),by subst e; exact ⟨_,rfl,_,rfl,a,rfl,ea,q⟩⟩
end
section
variable {X : Cx} {e : Expr} {f x r : Str} {p pos : Pos} {t : TA} {C fI : Addr} {k : Nat} {fd : FuncData}
theorem zhn {T : V -> Addr -> Hp -> Prop} {pins : List (Addr × Obj)} {σ : St} {H : Hp} {s : Shared} (Z : IniC C fI f X.base) (G : FnOk X.prog X.w X.K X.mg X.base (CXE X.prog X.w) k fI fd ["self",r] (yen C f)) (hb : Binds X.K fd ["self",r] []) (hr : Room (k + 1) X.A) (hg : Gl X x) (hm : X.mg x = some (.ref C))
  (hk : PySem.W.keepIn X.K (.ref C) = true) (hex : X.ex = []) (ha : PA X [e] t) (I : Inv X pins σ H s) (h : t σ H λvs H1=>∃ v,vs = [v] /\ ∀ dx,H1 dx = none -> T v dx (upd H1 dx (.xd [(f,v)]))) (hdb : (x == ("__debug__" : Str)) = false) (he : starEach [e] X.env = (false,eval e X.env) :: starEach [] X.env) :
  wpAny (model X.prog X.w) X.A (eval (.Call (.Name x p) [e] [] pos) X.env) (λr s' => ∃ a v u dx H1,r = .ref a /\ Arr X pins σ H1 a (.ref C) (some dx) s' /\ RelV v u /\ (∃ ob vs,s'.heap.get? a = some ob /\ ob.cls = .ref C /\ ob.data = .fields vs /\ vs[1]? = some .none /\ ob.dict = some dx) /\ (∃ mA,s'.heap.Ns1 dx mA /\ mA f = some u) /\ T v dx H1) X.xe s:=by
 refine wpAny_Call_Name_kw (zaF I hg hm ?_ hdb)
 refine PySem.W.callWith_K (h₀:=X.base) I.ok.mod.kin hk (thn (ha pos pins s σ H _ I h) λus s1 ⟨vs,H1,I1,rv,v,ev,q⟩=>⟨I1.kIn,?_⟩) he rfl
 subst ev
 obtain ⟨u,rfl,ru⟩ : ∃ u,us = [u] /\ RelV v u:=by
  cases rv with
  | cons a b=>cases b; exact ⟨_,rfl,a⟩
 have Z1:=Z.up I1.bk
 obtain ⟨tl,N,nm,q',bs,sn,sub,ab,col,dd,k0,k1,k2,k3,k5,mN,a1,a2,a3,a4,a5⟩:=Z1.obj
 obtain ⟨oI,b1,b2⟩:=Z1.fn
 obtain ⟨hp,g,d,tk,os⟩:=s1
 refine zhk PySem.F.excBase_ValueError (a5.old (.head _)) a1 a2 a3 b1 b2 (by rw [sizeLine_eq]; simp) λh' a hx=>?_
 have R:=zdN (t' := tk) I1 hex hx
 obtain ⟨t0,t1,t2,t3⟩:=hx.there
 have I2 : Inv X pins σ (upd H1 a (excN a (.ref C))) ⟨h',g,d,tk,os⟩:=R.inv.adopt0 R.un R.new R.nl R.nc R.np ⟨⟨_,_,_,t1,rfl,rfl,rfl,rfl,rfl⟩,⟨_,t1⟩,λg1 g2 ⟨ob,ws,b0,y1,y2⟩ k=>⟨ob,ws,b0,k ob y1,y2⟩⟩
 have r2 : Vals [V.ref a,v] [Value.ref a,u]:=.cons rfl (.cons ru .nil)
 refine wpAny_call (codeAny_mono (G.run _ X.stack _ _ ⟨[Value.ref a,u],[]⟩ [Value.ref a,u] _ (λz H3=>z = .non /\ ∃ dx,upd H1 a (excN a (.ref C)) dx = none /\ dx ≠ a /\ H3 = HpD (upd H1 a (excN a (.ref C))) a (.ref C) dx f v) E0 (hr.make C [u] []) (I2.env0.make C [u] [])
  (by have:=hb ⟨h',g,d,tk,os⟩ [Value.ref a,u] I2.kIn rfl; exact this) r2 ⟨a,v,rfl,zac,λdx z1 z2=>⟨rfl,dx,z1,z2,rfl⟩⟩) λr s' hq=>?_)
 cases r with
 | error e=>exact ygK (X:=X) pins σ _ _ e s' I2 hq
 | ok fl =>
  cases fl with
  | next=>exact False.elim hq
  | brk=>exact False.elim hq
  | cont=>exact False.elim hq
  | ret w =>
   obtain ⟨z,H3,I3,rz,ez,dx,n1,n2,e3⟩:=I2.after hq
   subst ez
   obtain rfl : w = Value.none:=rz
   have ndx : H1 dx = none:=by rwa [yak n2] at n1
   have x1 : H3 a = some (excD a (.ref C) dx):=by rw [e3]; exact zac
   have x2 : H3 dx = some (.xd [(f,v)]):=by rw [e3]; show upd (upd _ dx _) a _ dx = _; rw [yak n2,zac]
   have una : upd H1 dx (.xd [(f,v)]) a = none:=by rw [yak (Ne.symm n2)]; exact R.un
   have I4 : Inv X pins σ (upd H1 dx (.xd [(f,v)])) s' := I3.forget λb=>by
    by_cases h1 : b = a
    ·subst h1; exact .inr ⟨una,.inl ⟨_,x1⟩⟩
    ·left; rw [e3]; show _ = upd (upd (upd H1 a _) dx _) a _ b
     rw [yak h1]
     by_cases h2 : b = dx
     ·subst h2; rw [zac,zac]
     ·rw [yak h2,yak h2,yak h1]
   obtain ⟨⟨ob,vs,a0,o1,o2,o3,o4,o5,o6⟩,_,_⟩:=I3.hok a _ x1
   obtain ⟨mA,m1,m2⟩:=I3.hok dx _ x2
   obtain ⟨u',e4,ru'⟩:=RelO.some_of (v:=v) (o:=mA f) (by have:=m2 f; rwa [List.lookup_cons_self] at this)
   refine ⟨rfl,a,v,u',dx,_,rfl,⟨I4,una,R.new,R.nl,R.nc,R.np,⟨ob,o1,o3⟩,PySem.W.hideAll s'.heap (a :: frs X.stack),a0,λb o q nb alt=>PySem.W.hideAll_get _ q (λz=>?_),λb o q=>PySem.W.of_hideAll _ q,?_,?_,.inl ⟨ob,vs,o1,o2,o4,o5,o6⟩⟩,ru',⟨ob,vs,o1,o2,o4,o6,o3⟩,⟨mA,m1,e4⟩,q dx ndx⟩
   ·rcases List.mem_cons.mp z with z | z
    ·subst z
     rcases alt with ⟨u,q'⟩ | ⟨o',q'⟩ | ⟨p,hp,z⟩
     ·rw [una] at q'; cases q'
     ·rw [R.new] at q'; cases q'
     ·exact R.np p hp z
    ·exact nb z
   ·exact PySem.W.hideAll_none _ (List.mem_cons_self)
   ·exact PySem.W.funFrames_hide I4.stack λenv henv b hb=>List.mem_cons_of_mem _ (List.mem_filterMap.mpr ⟨env,henv,hb⟩)
section
variable {M : Model} {A : Around} {E : Value -> Shared -> Prop} {env : Env} {nm q : Str} {N : Addr} {bs bm : List Value} {hdct : Bool} {sn : List Str} {sub : List Value} {ab : Bool} {col : Option Bool} {dd : Option Addr} {k0 k1 k2 k3 k5 : Option Value} {newId : String}
theorem zfs {s : Shared} {y : Sem Value} {Q : Flow -> Shared -> Prop} (hh : A.handled = none)
  (h : wpAny M A y (λv s₁=>∃ a ob bm,v = .ref a /\ bm.contains (.type "BaseException") = true /\ (∃ nm q N bs hdct sn sub ab col dd k0 k1 k2 k3 k5 newId,s₁.heap.get? C = some (excClassObj nm q C N bs bm hdct sn sub ab col dd k0 k1 k2 k3 k5 newId)) /\ s₁.heap.get? a = some ob /\ ob.cls = .ref C /\ (∃ vs,ob.data = .fields vs /\ vs[1]? = some .none) /\ E (.ref a) s₁) E s) :
  wpAny M A (raiseStmt env (some y) none) Q E s:=by
 unfold raiseStmt
 refine wpAny_bind (wpAny_mono h (λv s₁ h₁=>?_) λ_ _ x=>x)
 obtain ⟨a,ob,bm,rfl,hbase,⟨nm,q,N,bs,hdct,sn,sub,ab,col,dd,k0,k1,k2,k3,k5,newId,hC⟩,he,hc,⟨vs,hd,hv1⟩,hE⟩:=h₁
 have hcB : (Value.ref C :: bm).contains (.type "BaseException") = true:=by rw [List.contains_cons,hbase,Bool.or_true]
 obtain ⟨hp,g,d,tk,os⟩:=s₁
 repeat (first | (with_reducible refine wpAny_loadPart_at he ?_; rw [hc]) | with_reducible refine wpAny_loadPart_at hC ?_ | (with_reducible refine wpAny_isSubtype_exc hC ?_; rw [hcB]) | rw [hd] | rw [hv1] | wp_step)
 exact wpAny_raiseNew_none hh hE
end
def yf9 (cls : Value) (f : Str) (Ex : St -> XK) (t : TA) : TS:=λ_ σ H=>t σ H λvs H1=>∃ v,vs = [v] /\ ∀ dx,H1 dx = none -> Ex σ cls (some dx) (upd H1 dx (.xd [(f,v)]))
theorem zgp {np : Pos} {Ex : St -> XK} (Z : IniC C fI f X.base) (G : FnOk X.prog X.w X.K X.mg X.base (CXE X.prog X.w) k fI fd ["self",r] (yen C f)) (hb : Binds X.K fd ["self",r] []) (hr : Room (k + 1) X.A) (hg : Gl X x) (hm : X.mg x = some (.ref C))
  (hk : PySem.W.keepIn X.K (.ref C) = true) (hc : X.calm = true) (hex : X.ex = []) (hx : ybA X Ex) (ha : PA X [e] t) (hdb : (x == ("__debug__" : Str)) = false:=by decide) (he : starEach [e] X.env = (false,eval e X.env) :: starEach [] X.env:=by rfl) :
  PS X (.Raise (some (.Call (.Name x np) [e] [] p)) none pos) (yf9 (.ref C) f Ex t):=by
 intro pins s σ H D I h
 rw [arm_exec_Raise]
 have go:=zhn (p:=np) (pos:=p) (T:=λ_ dx H1=>Ex σ (.ref C) (some dx) H1) Z G hb hr hg hm hk hex ha I h hdb he
 refine wpAny_bind (wpAny_standAt (zfs (C:=C) (I.ok.hd hc) ?_))
 refine wpAny_bind (wpAny_mono go (λv s₃ h₃=>wpAny_bind (wpAny_standAt (wpAny_pure ?_))) λ_ _ z=>z)
 obtain ⟨a,v',u,dx,H1,e1,R,_,⟨ob,vs,o1,o2,o3,o5,_⟩,_,q⟩:=h₃
 have Z3:=Z.up R.inv.bk
 obtain ⟨tl,N,nm,q',bs,sn,sub,ab,col,dd,k0,k1,k2,k3,k5,mN,a1,a2,a3,a4,a5⟩:=Z3.obj
 exact ⟨a,ob,tl,e1,(a5.old (.head _)).hasType PySem.F.excBase_ValueError.hasBase,⟨nm,q',N,bs,true,sn,sub,ab,col,dd,k0,k1,k2,k3,k5,_,a1⟩,o1,o2,⟨vs,o3,o5⟩,hx pins σ H1 s₃ a _ _ R q⟩
theorem yha {o : Expr} {te : TE} (Z : IniC C fI f X.base) (he : PE X o te) (hB : attributeBase o f X.env (eval o X.env) = eval o X.env:=by rfl) :
  PE X (.Attribute o f pos) (λσ H Q=>te σ H λx H1=>∃ a d v,x = .ref a /\ H1 a = some (excO a (.ref C) (some d)) /\ H1 d = some (.xd [(f,v)]) /\ Q v H1):=by
 intro pins s σ H Q I h
 refine zeA hB (thn (he pins s σ H _ I h) λov s2 ⟨x,H1,I1,rx,a,d,v,ex,ea,ed,q⟩=>?_)
 subst ex
 obtain rfl : ov = Value.ref a:=rx
 obtain ⟨⟨ob,vs,o1,o2,o3,o4⟩,_,_⟩:=I1.hok a _ ea
 obtain ⟨mA,m1,m2⟩:=I1.hok d _ ed
 obtain ⟨u,e4,ru⟩:=RelO.some_of (v:=v) (o:=mA f) (by have:=m2 f; rwa [List.lookup_cons_self] at this)
 obtain ⟨tl,N,nm,q',bs,sn,sub,ab,col,dd,k0,k1,k2,k3,k5,mN,a1,a2,a3,a4,a5⟩:=(Z.up I1.bk).obj
 have I5:=I1.tok (s2.toks + 1)
 obtain ⟨hp,g,d',tk,os⟩:=s2
 have n1 : ("__getattribute__" : Str) ∈ nmsX f:=.tail _ (.tail _ (.head _))
 have n2 : ("__getattr__" : Str) ∈ nmsX f:=.tail _ (.tail _ (.tail _ (.head _)))
 have n3 : f ∈ nmsX f:=.tail _ (.tail _ (.tail _ (.tail _ (.head _))))
 exact zhm PySem.F.attrBase_ValueError a1 a2 a5 (.head _) n1 n2 n3 (a4 _ n1 (by decide)) (a4 _ n2 (by decide)) (a4 _ n3 Z.fne) Z.nof o1 o2 o3 o4 m1 e4 (PySem.W.handedOut_of (zc5 ru)) ⟨v,H1,I5,ru,q⟩
end
def yeo (K : PySem.W.Frag) (N : Addr) (ns : List Str) : Bool:=PySem.W.nsOkIn K N && ns.all λn=>PySem.W.nsIn K N n == some none
theorem yfp {K : PySem.W.Frag} {h : Heap} {N : Addr} {ns : List Str} (X : K.In h) (e : yeo K N ns = true) : ∀ n ∈ ns,h.nsMap N n = none:=by
 unfold yeo at e
 obtain ⟨e1,e2⟩:=Bool.and_eq_true_iff.mp e
 exact λn hn=>PySem.W.nsMap_none_of_in X e1 (beq_iff_eq.mp (List.all_eq_true.mp e2 n hn))
def tlIn (K : PySem.W.Frag) (ns : List Str) : List Value -> Bool
 | []=>false
 | v :: r=>(v :: r) == bmVE || match v with
  | .ref A=>(match K.lookup A with
   | some ⟨_,_,.cls cd,_⟩=>yeo K cd.ns ns && tlIn K ns r
   | _=>false)
  | _=>false
theorem yfX {K : PySem.W.Frag} {h : Heap} {ns : List Str} (X : K.In h) : ∀ {l : List Value},tlIn K ns l = true -> TailN h bmVE ns l
 | [],e=>by cases e
 | v :: r,e=>by
  unfold tlIn at e
  rcases Bool.or_eq_true_iff.mp e with q | q
  ·rw [beq_iff_eq.mp q]; exact .base
  ·split at q
   ·split at q
    ·rename_i ho
     obtain ⟨q1,q2⟩:=Bool.and_eq_true_iff.mp q
     exact .own (X _ _ ho) (.of_isNs (PySem.W.isNs_of_in X (Bool.and_eq_true_iff.mp q1).1)) (yfp X q1) (yfX X q2)
    ·cases q
   ·cases q
theorem yhb {K : PySem.W.Frag} {h : Heap} {N : Addr} {m : Str -> Option Value} {n : Str} {v : Value} (X : K.In h) (G : h.Ns N m) (e : PySem.W.nsIn K N n = some (some v)) : m n = some v:=by
 obtain ⟨o,es,ep,ho,hd,_,hf⟩:=G
 unfold PySem.W.nsIn at e
 split at e
 ·rename_i q
  have z:=X _ _ q
  rw [ho] at z; cases z; cases hd
  split at e
  ·rename_i en he
   cases e
   rw [<- hf]; unfold nsFind findBy
   rw [<- Array.find?_toList,he]; rfl
  ·split at e<;>cases e
 ·cases e
def yep (K : PySem.W.Frag) (C fI : Addr) (f : Str) : Bool:=match K.lookup C with
 | some ⟨.type "type",_,.cls cd,sl⟩=>(match cd.mro,sl.toList with
  | .ref C' :: bm,[_,_,_,_,some (.builtin n),_]=>C' == C && n == "ValueError.__new__" && !cd.hasDel && cd.hasDict && tlIn K (nmsX f) bm && yeo K cd.ns ((nmsX f).drop 1) && PySem.W.nsIn K cd.ns "__init__" == some (some (.ref fI)) && (K.lookup fI).any λo=>o.cls == .type "function"
  | _,_=>false)
 | _=>false
theorem zho {K : PySem.W.Frag} {hp : Heap} {C fI : Addr} {f : Str} (Z : K.In hp) (ok : yep K C fI f = true) (nof : typeLookup (.type "ValueError") f = pure none) (fne : f ≠ "__init__") : IniC C fI f hp:=by
 unfold yep at ok
 split at ok
 ·rename_i dA cA sA hA
  split at ok
  ·rename_i D' tl w0 w1 w2 w3 bn w5 eM eS
   simp only [Bool.and_eq_true,beq_iff_eq,Bool.not_eq_true'] at ok
   obtain ⟨⟨⟨⟨⟨⟨⟨rfl,rfl⟩,e1⟩,e2⟩,e3⟩,e4⟩,e5⟩,e6⟩:=ok
   obtain ⟨f1,f2,f3,f4,f5,f6,f7,f8,f9,f10,f11⟩:=cA
   dsimp only at eM e1 e2 e3 e4 e5
   subst eM e1 e2
   have eA : sA = #[w0,w1,w2,w3,some (.builtin "ValueError.__new__"),w5]:=by
    obtain ⟨ll⟩:=sA
    simp only at eS
    rw [eS]
   subst eA
   refine ⟨⟨tl,f4,f1,f5,f2,f7,f8,f9,f10,dA,w0,w1,w2,w3,w5,_,Z _ _ hA,.of_isNs (PySem.W.isNs_of_in Z (Bool.and_eq_true_iff.mp e4).1),?_,λn hn ne=>?_,yfX Z e3⟩,?_,nof,fne⟩
   ·exact yhb Z (.of_isNs (PySem.W.isNs_of_in Z (Bool.and_eq_true_iff.mp e4).1)) e5
   ·rcases List.mem_cons.mp hn with z | z
    ·exact absurd z ne
    ·exact yfp Z e4 n z
   ·cases q : K.lookup fI with
    | none=>rw [q] at e6; cases e6
    | some oI=>rw [q] at e6; exact ⟨oI,Z _ _ q,beq_iff_eq.mp e6⟩
  ·cases ok
 ·cases ok
end L2
namespace Sm
open PySem PySem.Spec L2
structure GI (P : Program) (w : World) (T : Tb) (mg : Str -> Option Value) (base : Heap) (c : Nat) (x f : Str) : Prop where
 ex : ∃ C fI fd r,T.exc c = some C /\ mg x = some (.ref C) /\ PySem.W.keepIn T.K (.ref C) = true /\ IniC C fI f base /\ Binds T.K fd ["self",r] [] /\ FnOk P w T.K mg base (CXE P w) 1 fI fd ["self",r] (yen C f)
section
variable {T : Tb} {E : St -> XK} {X : Cx} {pos np cpos : Pos} {e : Expr} {x f : Str} {c : Nat} {as : SL}
end
section
variable {P : Program} {w : World} {K : PySem.W.Frag} {mg : Str -> Option Value} {h : Heap} {T : Tb} {x q f r : Str} {st : Stmt} {C : Addr}
def XJ (K : PySem.W.Frag) (C : Addr) (q : Str) (st : Stmt) (f : Str) : Prop:=∃ fI fd,Fun K "__init__" q st fI fd /\ yep K C fI f = true
theorem xj {fI : Addr} {oc : Value} {od an : Option Addr} {osl : Array (Option Value)} {kV doc pm cdv ct : Value} (a : PySem.W.findIn K (.ref C) "__init__" = some (some (.ref fI))) (l : K.lookup fI = some ⟨oc,od,.func (PySem.W.fnOf "__init__" q (yce st) (ybd st) (yae st) .none kV doc pm an cdv ct),osl⟩)
  (c : PySem.W.codeIn K cdv q = true) (k : PySem.W.keepIn K (.ref fI) = true) (j : yep K C fI f = true) : XJ K C q st f:=⟨fI,_,yey l c k,j⟩
theorem gi {n : Nat} {g : Heap} {p1 p2 p3 p4 : Pos} (KB : T.K.In g) (KX : T.K.In h) (G : h.Ns mainGlobals mg) (hc : T.exc n = some C) (e : PySem.W.nsIn T.K mainGlobals x = some (some (.ref C))) (kp : PySem.W.keepIn T.K (.ref C) = true) (J : XJ T.K C q st f) (hb : BL "__init__" q st ["self",r])
  (S : FnScope ["self",r] ["self",r] (yae st)) (bd : ybd st = [.Assign [.Attribute (.Name "self" p1) f p2] (.Name r p3) p4]) (hv0 : Vis (yae st) "self") (hv1 : Vis (yae st) r) (hs : ∀ env,swapsWith (.Name r p3) (some (.Attribute (.Name "self" p1) f p2)) p4.line env = pure false)
  (d1 : (r == ("__debug__" : Str)) = false) (d2 : (r == ("__classdict__" : Str)) = false) (nof : typeLookup (.type "ValueError") f = pure none) (fne : f ≠ "__init__") : GI P w T mg g n x f:=by
 obtain ⟨fI,fd,F,j⟩:=J
 have Z:=zho KB j nof fne
 exact ⟨C,fI,fd,r,hc,PySem.W.mg_of KX G e,kp,Z,F.binds λ_ _ _ _ _ _ us hl=>hb us hl _ _ _ _ _ _,yg9 F S bd hv0 hv1 hs d1 d2 Z⟩
end
end Sm
namespace L2
open PySem PySem.Spec PyProof.Rows
section
variable {X : Cx} {CX : CXT} {k : Nat} {f : Addr} {fd : FuncData} {ps : List Str} {sp : Sp} {Ex : St -> XK} {x : Str} {p pos : Pos} {e : Expr} {es : List Expr} {t : TA}
end
end L2
namespace Sm
open PySem PySem.Spec L2
section
variable {P : Program} {w : World} {T : Tb} {mg : Str -> Option Value} {base : Heap} {x : Str} {st : Stmt} {N ps : List Str} {k : Nat} {b : SS}
end
section
variable {T : Tb} {E : St -> XK} {X : Cx} {pos p : Pos} {e a b c d : Expr} {es : List Expr} {x : Str} {F : Fn} {k : Nat} {as : SL} {sa sb sc sd : SE}
def ycY (k1 v1 k2 v2 : Str) : SE:=λ_ h=>if k1 ≠ k2 /\ v1.length <= sizeLine /\ v1.cps.all (· < 0x110000) = true /\ v2.length <= sizeLine /\ v2.cps.all (· < 0x110000) = true then .ok (.ref h.length) (h++[.dct false [(.str k1,.str v1),(.str k2,.str v2)]]) else .bad
theorem ziv {k1 v1 k2 v2 : Str} {n1 n2 n3 n4 : Nat} {p1 p2 p3 p4 : Pos} : PEA T E X (.Dict [some (.Constant (.str k1) n1 p1),some (.Constant (.str k2) n2 p2)] [.Constant (.str v1) n3 p3,.Constant (.str v2) n4 p4] pos) (ycY k1 v1 k2 v2):=by
 refine yaB (zhY (zdH ydC ydC (zdH ydC ydC zhX)) rfl rfl (by simp) (by simp)) λσ H Q ⟨ι,h,en,S,er,q⟩ p n=>?_
 unfold ycY at q
 split at q
 ·rename_i hc
  obtain ⟨c1,c2,c3,c4,c5⟩:=hc
  have mk : ycT [] [((Sum.inr k1 : Key),V.str v1),(Sum.inr k2,V.str v2)] = [(Sum.inr k1,V.str v1),(Sum.inr k2,V.str v2)]:=by
   have : ¬ ((Sum.inr k1 : Key) = Sum.inr k2):=λz=>c1 (Sum.inr.inj z)
   simp [ycT,putK,this]
  refine ⟨zac,[(Sum.inr k1,.str v1),(Sum.inr k2,.str v2)],rfl,by simp,?_⟩
  rw [mk,zhC]
  exact q (ι.add p) _ _ (S.growAdd n) (S.add n ⟨[(Sum.inr k1,.str v1),(Sum.inr k2,.str v2)],rfl,.cons ⟨rfl,.str c2 c3⟩ (.cons ⟨rfl,.str c4 c5⟩ .nil)⟩) (.ref S.addAt)
 ·exact q.elim
end
end Sm
namespace Sm
open PySem PySem.Spec L2
def yeL (c : SB) (b : SS) : Nat -> SS
 | 0=>λ_ _=>.bad
 | n + 1=>λen h=>match c en h with
  | .ok true h1=>(match b en h1 with
   | .nx e2 h2=>yeL c b n e2 h2
   | .ct e2 h2=>yeL c b n e2 h2
   | .bk e2 h2=>.nx e2 h2
   | .rt v h2=>.rt v h2
   | .ex k e2 h2=>.ex k e2 h2
   | .bad=>.bad)
  | .ok false h1=>.nx en h1
  | .ex k h1=>.ex k en h1
  | .bad=>.bad
def ya3 (w : Option Nat) (all : List AV) (t : Tg) (b : SS) : List AV -> SS
 | []=>λen h=>if yaZ w all h = true then .nx en h else .bad
 | x :: xs=>λen h=>if yaZ w all h = true then
   (match setT t x en with
   | some e1=>(match b e1 h with
    | .nx e2 h2=>ya3 w all t b xs e2 h2
    | .ct e2 h2=>ya3 w all t b xs e2 h2
    | .bk e2 h2=>.nx e2 h2
    | .rt v h2=>.rt v h2
    | .ex k e2 h2=>.ex k e2 h2
    | .bad=>.bad)
   | none=>.bad) else .bad
@[simp] def ydT (it : SI) (t : Tg) (b : SS) : SS:=λen h=>match it en h with
 | .ok (xs,w) h1=>ya3 w xs t b xs en h1
 | _=>.bad
section
variable {P : Program} {w : World} {K : PySem.W.Frag} {mg : Str -> Option Value} {base : Heap} {N : List Str} {qual : Str} {scope : Scope} {f : Addr} {cd : Value} {A : Around} {outer : List Env} {s0 : Shared} {H0 : Hp} {E : XK}
theorem ziw : PassesOwn (model (cxOf (CXE P w) P w K mg base N qual scope f cd A outer s0 H0 E).prog (cxOf (CXE P w) P w K mg base N qual scope f cd A outer s0 H0 E).w) (cxOf (CXE P w) P w K mg base N qual scope f cd A outer s0 H0 E).A (cxOf (CXE P w) P w K mg base N qual scope f cd A outer s0 H0 E).env (cxOf (CXE P w) P w K mg base N qual scope f cd A outer s0 H0 E).xe:=PassesOwn.leaving
end
section
variable {T : Tb} {E : St -> XK} {X : Cx} {pos : Pos} {a b : Expr} {sa sb : SE} {ca : SB} {st : Stmt} {sts ss1 ss2 : List Stmt} {s1 s2 : SS}
theorem yhc {tg iter : Expr} {it : SI} {t : Tg} (hp : PassesOwn (model X.prog X.w) X.A X.env X.xe) (hc : X.calm = true) (hi : PIA T X tg iter it) (hg : PGA T X tg t) (hb : PSsA T E X sts s1) (hs : ∀ x,foldedSetIterable iter X.env x = pure x:=by intro _; rfl) :
  PSA T E X (.For tg iter sts [] pos) (ydT it t s1):=by
 obtain ⟨g,hg1,hg2⟩:=hg
 refine ybH (ye4 hp hc hi hg1 hb hs) λD σ H ⟨ι,h,en,S,er,q⟩=>⟨ι,h,en,S,er,?_⟩
 unfold ydT at q
 cases e : it en h with
 | bad=>rw [e] at q; exact q
 | ex c h1=>rw [e] at q; exact q
 | ok p h1 =>
  obtain ⟨xs,w⟩:=p
  rw [e] at q
  intro ι1 H1 J g1 S1 IR
  refine ⟨λi m σ H=>m = xs.length - i /\ i <= xs.length /\ ∃ ι' h' en',Grow ι1 H1 ι' H /\ Sim T ι' h' H /\ ER T ι' H en' σ /\ PostS T ι' H E (ya3 w xs t s1 (xs.drop i) en' h') D,
   ⟨xs.length,by simp,Nat.zero_le _,ι1,h1,en,S1.refl,S1,er.mono g1,PostS.shift q g1⟩,?_⟩
  rintro i m σ H ⟨rfl,hi,ι',h',en',g',S',er',q'⟩
  by_cases hl : i < xs.length
  ·rw [zbJ hl] at q'
   unfold ya3 at q'
   split at q'
   ·rename_i hlive
    obtain ⟨go,yld⟩:=IR.go i ι' h' H xs[i] g'.ext S' hlive (by simp [hl])
    refine .inr ⟨go,λσ H=>∃ ι' h' en',Grow ι1 H1 ι' H /\ Sim T ι' h' H /\ ER T ι' H en' σ /\ PostS T ι' H E (ya3 w xs t s1 (xs.drop (i + 1)) en' h') D,
     λσ' H' w' => ⟨xs.length - (i + 1),by omega,rfl,hl,w'⟩,λx H' y=>?_⟩
    obtain ⟨g2,S2,r2⟩:=yld x H' y
    split at q'
    ·rename_i e1 he1
     refine hg2 S2 (er'.mono g2) r2 he1 λσ' er2=>⟨ι',h',e1,S2,er2,?_⟩
     have q2:=PostS.shift q' g2
     cases e2 : s1 e1 h' with
     | nx e3 h3=>rw [e2] at q2; exact λι3 H3 σ3 g3 S3 er3=>⟨ι3,h3,e3,g'.trans (g2.trans g3),S3,er3,q2.shift g3⟩
     | ct e3 h3=>rw [e2] at q2; exact λι3 H3 σ3 g3 S3 er3=>⟨ι3,h3,e3,g'.trans (g2.trans g3),S3,er3,q2.shift g3⟩
     | bk e3 h3=>rw [e2] at q2; exact q2
     | rt v h3=>rw [e2] at q2; exact q2
     | ex c e3 h3=>rw [e2] at q2; exact q2
     | bad=>rw [e2] at q2; exact q2
    ·exact (show False from q').elim
   ·exact (show False from q').elim
  ·have ei : i = xs.length:=by omega
   subst ei
   rw [List.drop_length] at q'
   unfold ya3 at q'
   split at q'
   ·rename_i hlive
    exact .inl ⟨IR.stop _ ι' h' H g'.ext S' hlive (Nat.le_refl _),q' ι' H σ S'.refl S' er'⟩
   ·exact (show False from q').elim
end
end Sm
namespace Sm
open PySem PySem.Spec L2
def getG (D : List (Str × Str)) (x : Str) : Option Str:=(D.find? λp=>decide (p.1 = x)).map (·.2)
def yeq (D : List (Str × Str)) (a : SE) : SE:=λen h=>(a en h).bind λv h1=>match v with
 | .str x=>(match getG D x with
  | some y=>.ok (.str y) h1
  | none=>.ok .non h1)
 | _=>.bad
def tabG (D : List (Str × Str)) : List (PyData × PyData):=D.map λp=>(PyData.str p.1,PyData.str p.2)
theorem yhd (x : Str) (D : List (Str × Str)) : PySem.Spec.lookup (.str x) (tabG D) = (getG D x).map PyData.str:=by
 have h:=PyProof.V.lookup_enc (enc:=PyData.str) PyProof.V.same_str x (D.map λp=>(p.1,PyData.str p.2))
 rw [List.map_map] at h
 unfold tabG getG
 refine h.trans ?_
 rw [List.find?_map,Option.map_map,Option.map_map]
 rfl
structure KG (P : Program) (w : World) (K : PySem.W.Frag) (mg : Str -> Option Value) (t : Str) (D : List (Str × Str)) : Prop where
 ex : ∃ a,mg t = some (.ref a) /\ ∀ h,K.In h -> PyProof.Rows.StrTab P w h a (tabG D)
 ok : ∀ p ∈ D,p.2.length <= sizeLine /\ p.2.cps.all (· < 0x110000) = true
theorem yii {P : Program} {w : World} {K : PySem.W.Frag} {mg : Str -> Option Value} {t : Str} {a : Addr} {D : List (Str × Str)} (hm : mg t = some (.ref a)) (ht : PyProof.Rows.KTD.tabLook PyProof.Rows.KTD.flatLooks (λb=>K.lookup b) a (D.map λp=>(p.1,PyData.str p.2)) = true)
  (hq : PyProof.Rows.KTD.hashesOf (λb=>K.lookup b) a = D.map λp=>(PySem.strKind P w).hash p.1) (hn : (D.map (·.1)).Nodup) (ok : ∀ p ∈ D,p.2.length <= sizeLine /\ p.2.cps.all (· < 0x110000) = true) : KG P w K mg t D :=
 ⟨⟨a,hm,λh x=>by
  have:=PySem.W.kt_tab_in P w x ht (by rw [List.map_map]; exact hn) (by rw [List.map_map]; exact hq)
  rw [List.map_map] at this
  exact this⟩,ok⟩
section
variable {T : Tb} {E : St -> XK} {X : Cx} {b : Expr} {sb : SE} {p apos cpos : Pos} {t : Str}
def vG (D : List (Str × Str)) (x : Str) : V:=match getG D x with
 | some y=>.str y
 | none=>.non
theorem zix {D : List (Str × Str)} {ta : TA} (hg : Gl X t) (hk : KG X.prog X.w X.K X.mg t D) (ha : PA X [b] ta) (hd : (t == ("__debug__" : Str)) = false:=by decide)
  (hbase : attributeBase (.Name t p) "get" X.env (eval (.Name t p) X.env) = eval (.Name t p) X.env:=by rfl)
  (hfew : ((backTo cpos (starEach [b] X.env)).all (λx=>!x.1) && (backToKw cpos (keywordEach [] X.env)).all (λx=>x.1.isSome)
   && decide ([b].length + ([] : List Keyword).length + (if ([] : List Keyword).isEmpty then 0 else 1) < 30)) = true:=by rfl)
  (hline : (apos.endLine == cpos.line) = true:=by rfl) (hs : starEach [b] X.env = (false,eval b X.env) :: starEach [] X.env:=by rfl) (hplain : (backTo cpos (starEach [] X.env)).any (·.1) = false:=by rfl) :
  PE X (.Call (.Attribute (.Name t p) "get" apos) [b] [] cpos) (λσ H Q=>ta σ H λvs H1=>∃ x,vs = [.str x] /\ Q (vG D x) H1):=by
 obtain ⟨⟨a,hm,tb⟩,ok⟩:=hk
 intro pins s σ H Q I h
 have ho : PE X (.Name t p) (tC (.ref a)):=zbU hg hm rfl hd
 refine wpAny_Call_method_late hbase hfew hline rfl (thn (ho pins s σ H (λx H1=>x = .ref a /\ ta σ H1 λvs H1=>∃ x,vs = [.str x] /\ Q (vG D x) H1) I ⟨rfl,h⟩) λv s1 ⟨x,H1,I1,r1,ex,q1⟩=>?_)
 subst ex
 have r1' : v = .ref a:=r1
 subst r1'
 obtain ⟨_,kvs,hd1,_⟩:=tb s1.heap (λb o q=>I1.kIn b o q)
 refine ⟨"dict", "dict.get",PySem.F.plainAttrs_dict,PySem.F.slot_dict_get,PySem.F.type_dict_get,hd1.typeIs,hd1.mapOf.noDict,?_⟩
 have hA:=ha cpos pins s1 σ H1 _ I1 q1
 rw [hs] at hA ⊢
 refine Calls.callWith_builtin (by show (false || (backTo cpos (starEach [] X.env)).any (·.1)) = false; rw [hplain]<;>rfl) (Calls.evalArgs_plain ?_)
 refine thn hA λus s2 ⟨vs,H2,I2,r2,x,ex,q2⟩=>?_
 subst ex
 obtain ⟨u,rfl,t',rfl⟩:=ybJ r2
 refine PyProof.Rows.call_get1_strTab (tb s2.heap (λb o q=>I2.kIn b o q)) λv hv=>?_
 rw [yhd] at hv
 unfold vG at q2
 cases e : getG D x with
 | none =>
  rw [e] at hv q2
  obtain rfl:=PyProof.V.Flat.none_inv hv
  exact ⟨.non,H2,I2.tok _,rfl,q2⟩
 | some y =>
  rw [e] at hv q2
  obtain ⟨t2,rfl⟩:=PyProof.V.Flat.str_inv hv
  exact ⟨.str y,H2,I2.tok _,⟨_,rfl⟩,q2⟩
theorem yhe {D : List (Str × Str)} (hg : Gl X t) (hk : KG X.prog X.w X.K X.mg t D) (hb : PEA T E X b sb) (hd : (t == ("__debug__" : Str)) = false:=by decide)
  (hbase : attributeBase (.Name t p) "get" X.env (eval (.Name t p) X.env) = eval (.Name t p) X.env:=by rfl)
  (hfew : ((backTo cpos (starEach [b] X.env)).all (λx=>!x.1) && (backToKw cpos (keywordEach [] X.env)).all (λx=>x.1.isSome)
   && decide ([b].length + ([] : List Keyword).length + (if ([] : List Keyword).isEmpty then 0 else 1) < 30)) = true:=by rfl)
  (hline : (apos.endLine == cpos.line) = true:=by rfl) (hs : starEach [b] X.env = (false,eval b X.env) :: starEach [] X.env:=by rfl) (hplain : (backTo cpos (starEach [] X.env)).any (·.1) = false:=by rfl) :
  PEA T E X (.Call (.Attribute (.Name t p) "get" apos) [b] [] cpos) (yeq D sb):=by
 refine yaB (zix hg hk (zaY hb ydX hs) hd hbase hfew hline hs hplain) λσ H Q ⟨ι,h,en,S,er,q⟩=>⟨ι,h,en,S,er,q.bind λv hh1 ι1 H1 u g1 S1 r1 q1=>?_⟩
 split at q1
 ·rename_i x
  cases r1
  refine ⟨x,rfl,?_⟩
  unfold vG
  cases e : getG D x with
  | none=>rw [e] at q1; exact q1.now S1 .non
  | some y =>
   rw [e] at q1
   obtain ⟨pr,f,rfl⟩:=Option.map_eq_some_iff.mp e
   have:=hk.ok pr (List.mem_of_find?_eq_some f)
   exact q1.now S1 (.str this.1 this.2)
 ·exact q1.elim
end
end Sm
namespace Sm
open PySem PySem.Spec L2
def yd6 : Fn:=λargs h=>match args with
 | [.str x]=>if x.length <= 640 then (match PySem.intText? x with
  | some n=>.ok (.int n) h
  | none=>.bad) else .bad
 | _=>.bad
section
variable {T : Tb} {E : St -> XK} {X : Cx}
theorem zgq : CallR X (.type "int") (λxs H Q=>∃ x n,xs = [.str x] /\ x.length <= 640 /\ PySem.intText? x = some n /\ Q (.int n) H):=by
 intro pins s σ H xs us Q I r ⟨x,n,e,hl,hn,q⟩
 subst e
 obtain ⟨u,rfl,t,rfl⟩:=ybJ r
 exact PySem.W.KIN.call_text hn hl ⟨.int n,H,I.tok _,⟨_,rfl⟩,q⟩
theorem yhf : ∃ r,CallR X (.type "int") r /\ yb8 T yd6 r:=by
 refine ⟨_,zgq,λι h H xs us E Q S r q=>?_⟩
 unfold yd6 at q
 split at q
 ·split at q
  ·rename_i x hl
   split at q
   ·rename_i n hn
    cases r with
    | cons r r' => cases r'; cases r; exact ⟨x,n,rfl,hl,hn,q.now S (.int _)⟩
   ·exact q.elim
  ·exact q.elim
 ·exact q.elim
end
end Sm
namespace Sm
open PySem PySem.Spec L2
def yeh (c : Nat) (as : SL) : SS:=λen h=>(as en h).go en λxs h1=>match xs with
 | [.int i]=>if 0 <= i then .ex (c + 64 * (i.toNat + 1)) en h1 else .bad
 | _=>.bad
def sRow (c : Nat) (a : SE) : SE:=λen h=>(a en h).bind λv h1=>match v with
 | .exc k=>if k % 64 = c /\ 64 <= k then .ok (.int (yek k)) h1 else .bad
 | _=>.bad
section
variable {T : Tb} {E : St -> XK} {X : Cx} {pos np cpos : Pos} {e o : Expr} {x : Str} {c : Nat} {as : SL} {so : SE}
theorem zdW {c n : Nat} (h6 : c < 64) : yek (c + 64 * (n + 1)) = n:=by
 unfold yek
 rw [show (c + 64 * (n + 1)) / 64 = n + 1 by omega]
 simp
theorem zhp (hK : X.K = T.K) (G : GI X.prog X.w T X.mg X.base c x "row") (G6 : ∀ c,T.exc c = T.exc (c % 64)) (hr : ybA X E) (hm : Room 2 X.A) (hg : Gl X x) (ha : PAA T E X [e] as) (h6 : c < 64:=by decide) (hc : X.calm = true:=by rfl) (hex : X.ex = []:=by rfl)
  (hdb : (x == ("__debug__" : Str)) = false:=by decide) (he : starEach [e] X.env = (false,eval e X.env) :: starEach [] X.env:=by rfl) : PSA T E X (.Raise (some (.Call (.Name x np) [e] [] cpos)) none pos) (yeh c as):=by
 obtain ⟨C,fI,fd,r,h1,h2,h3,Z,hb,F⟩:=G.ex
 rw [<- hK] at h3 hb F
 refine ybH (zgp Z F hb hm hg h2 h3 hc hex hr ha hdb he) λD σ H ⟨ι,h,en,S,er,q⟩=>⟨ι,h,en,S,er,q.go er λxs h1' ι1 H1 us g1 S1 r1 q1=>?_⟩
 split at q1
 ·rename_i i
  split at q1
  ·rename_i hi
   cases r1 with
   | cons r2 r3 =>
    cases r3
    cases r2
    refine ⟨_,rfl,λdx hn=>q1 ι1 _ σ (C,some dx) (S1.growNew hn) (S1.new hn) (er.mono (g1.trans (S1.growNew hn))) ⟨?_,λ_=>⟨dx,rfl,S1.fresh hn,?_⟩⟩⟩
    ·rw [G6,show (c + 64 * (i.toNat + 1)) % 64 = c by omega]; exact h1
    ·rw [zac,zdW h6,Int.toNat_of_nonneg hi]
  ·exact (show False from q1).elim
 ·exact (show False from q1).elim
theorem yfY {P : Program} {w : World} (G : GI P w T X.mg X.base c x "row") (G6 : ∀ c,T.exc c = T.exc (c % 64)) (ho : PEA T E X o so) (hB : attributeBase o "row" X.env (eval o X.env) = eval o X.env:=by rfl) : PEA T E X (.Attribute o "row" pos) (sRow c so):=by
 obtain ⟨C,fI,fd,r,h1,h2,h3,Z,hb,F⟩:=G.ex
 refine yaB (yha Z ho hB) λσ H Q ⟨ι,h,en,S,er,q⟩=>⟨ι,h,en,S,er,q.bind λv hh ι1 H1 u g1 S1 r1 q1=>?_⟩
 split at q1
 ·rename_i k
  split at q1
  ·rename_i hk
   cases r1 with
   | @exc _ C' ad n ec hq =>
    obtain ⟨d,e1,n2,e2⟩:=ec.2 hk.2
    have e3 : C'.1 = C:=by
     have:=ec.1
     rw [G6,hk.1,h1] at this
     cases this; rfl
    rw [e3,e1] at hq
    exact ⟨ad,d,_,rfl,hq,e2,q1.now S1 (.int _)⟩
  ·exact q1.elim
 ·exact q1.elim
end
end Sm
namespace Sk
open PySem PySem.Spec L2 Sm
def D_MARKED : List (Str × Str):=[("n", "\n"),("\\", "\\")]
abbrev yga : Nat:=0
abbrev yiH : Nat:=1
abbrev yeU : Nat:=2
abbrev yfF : Nat:=3
abbrev yeV : Nat:=4
abbrev yeW : Nat:=5
abbrev yiJ : Nat:=6
abbrev yiI : Nat:=7
def ydt (c : Nat) : Bool:=[false,false,false,true,false,false,false,false].getD (c % 64) false
def ycJ (c : Nat) : Bool:=[false,false,true,false,false,false,false,false].getD (c % 64) false
def yc8 (c : Nat) : Bool:=[false,true,false,false,false,false,false,false].getD (c % 64) false
def ycK (c : Nat) : Bool:=[false,false,false,false,false,true,false,false].getD (c % 64) false
def ydU (c : Nat) : Bool:=[false,false,false,false,false,false,true,false].getD (c % 64) false
def ycL (c : Nat) : Bool:=[false,false,false,false,true,false,false,false].getD (c % 64) false
def yb9 (c : Nat) : Bool:=[true,true,true,true,true,true,true,true].getD (c % 64) false
def ybe (c : Nat) : Bool:=[true,true,true,true,true,true,true,true].getD (c % 64) false
def ya2 : Fn:=mkFn 1 1
  (sSeq (ybZ 0 0 (sVar 0) (yb7 sNil))
  (sSeq (ybZ 0 1 (sVar 0) (yfL true))
  (sSeq (ybZ 0 2 (sVar 0) (yb7 (yaa (sLit (.int 0)) sNil)))
  (sSeq (ybZ 0 3 (sVar 0) (yb7 (yaa (sLit (.int 0)) sNil)))
  (sSeq (ybZ 0 4 (sVar 0) (yb7 (yaa (sLit (.int 0)) sNil)))
  (sSeq (ybZ 0 5 (sVar 0) (yb7 (yaa (sOp1 fNeg (sLit (.int 1))) sNil)))
  (sSeq (ybZ 0 6 (sVar 0) (yb7 (yaa (sLit (.int 0)) sNil)))
  (ybZ 0 7 (sVar 0) (yb7 (yaa (sLit (.int 0)) sNil))))))))))
def ycx : Fn:=mkFn 2 3
  (sSeq (sSet 2 (sOp2 fMod (sOp2 fMul (sOp2 fAdd (sOp2 fAdd (sOp2 fMod (sVar 0) (sLit (.int 1000000007))) (sOp2 fMul (sLit (.int 7919)) (sVar 1))) (sLit (.int 1))) (sLit (.int 48271))) (sLit (.int 2147483647))))
  (sRet (sOp2 fMod (sOp2 fMul (sOp2 fMod (sOp2 fMul (sVar 2) (sVar 2)) (sLit (.int 2147483629))) (sLit (.int 69621))) (sLit (.int 2147483647)))))
def ybr : SS :=
  (sSet 2 (sOp2 fAdd (sOp2 fMul (sVar 2) (sOp2 fPow (sLit (.int 10)) (sLit (.int 60)))) (sOp2 fMod (sOp2 fIx (sVar 0) (sVar 3)) (sOp2 fPow (sLit (.int 10)) (sLit (.int 60))))))
def ybs : SS :=
  (sSet 4 (sOp2 fAdd (sOp2 fMul (sVar 4) (sLit (.int 2147483647))) (yad ycx (yaa (sOp2 fAdd (sOp2 fAdd (sVar 2) (sOp2 fMul (sLit (.int 1009)) (sVar 1))) (yad fLen (yaa (sVar 0) sNil))) (yaa (sVar 3) sNil)))))
def yaM : Fn:=mkFn 2 5
  (sSeq (sSet 2 (sLit (.int 0)))
  (sSeq (sFor (ydk (sVar 1) (yad fLen (yaa (sVar 0) sNil)) (sLit (.int 5))) (.nm 3) ybr)
  (sSeq (sIf (yaz (sOp2 fGe (sVar 2) (sOp2 fPow (sLit (.int 10)) (sLit (.int 18))))) (sRet (yb7 (yaa (sVar 2) sNil))) yaL)
  (sSeq (sSet 2 (sOp2 fAdd (sVar 2) (yad fSum (yaa (ybl [] (iVal (sVar 0)) sYes (sOp2 fMod (sVar 0) (sOp2 fPow (sLit (.int 10)) (sLit (.int 18))))) sNil))))
  (sSeq (sSet 4 (sLit (.int 0)))
  (sSeq (sFor (ybk (sLit (.int 30))) (.nm 3) ybs)
  (sRet (yb7 (yaa (sOp2 fDiv (sVar 4) (sLit (.int 64))) sNil)))))))))
def yai : Fn:=mkFn 2 3
  (sSeq (sSet 2 (sOp2 fMod (sOp2 fIx (sVar 0) (sLit (.int 0))) (sVar 1)))
  (sSeq (yd1 (sVar 0) (sLit (.int 0)) (sOp2 fDiv (sOp2 fIx (sVar 0) (sLit (.int 0))) (sVar 1)))
  (sRet (sVar 2))))
def ybO : Fn:=mkFn 1 3
  (sSeq (sSet 1 (sLit (.str "abcdefghijklmnopqrstuvwxyzABCDEFGHIJKLMNOPQRSTUVWXYZ0123456789")))
  (sSeq (sSet 1 (sOp2 fAdd (sVar 1) (sLit (.str " !\"#$&'()*+,-./:;<=>?\x40[\\]^_`{|}~\n"))))
  (sSeq (sSet 2 (sLst (yaa (sLit (.str "ab")) (yaa (sLit (.str "aab\n")) (yaa (sLit (.str "a\n")) (yaa (sVar 1) (yaa (sLit (.str "n\\\n")) sNil)))))))
  (sRet (sOp2 fIx (sVar 2) (yad yai (yaa (sVar 0) (yaa (sLit (.int 5)) sNil))))))))
def ybM : Fn:=mkFn 1 1
  (sRet (ydo (sIsB "int" (sVar 0)) (yeP (sIsB "bool" (sVar 0)))))
def yaY : Fn:=mkFn 2 2
  (sRet (ydo (yad ybM (yaa (sVar 1) sNil)) (ybS fLe fLe (sLit (.int 1)) (sVar 1) (yad fLen (yaa (Sm.sFld 0 0 (sVar 0)) sNil)))))
def yau : Fn:=mkFn 2 2
  (sIf (sNot (ybK (ya6 0 yaY (sVar 0) (yaa (sVar 1) sNil)))) (ycU 2 (yaa (sLit (.str "no piece of the shelf has this number")) sNil)) yaL)
def yas : Fn:=mkFn 3 4
  (sSeq (yaV (ya6 0 yau (sVar 0) (yaa (sVar 1) sNil)))
  (sSeq (yaV (ya6 0 yau (sVar 0) (yaa (sVar 2) sNil)))
  (sSeq (sSet 3 (sOp2 fAdd (sOp2 fIx (Sm.sFld 0 2 (sVar 0)) (sOp2 fIx (Sm.sFld 0 7 (sVar 0)) (sVar 1))) (sOp2 fIx (Sm.sFld 0 2 (sVar 0)) (sOp2 fIx (Sm.sFld 0 6 (sVar 0)) (sVar 2)))))
  (sSeq (sIf (yaz (sOp2 fLe (sVar 3) (sLit (.int 8)))) (ycU 3 (yaa (sLit (.str "the leaves where the parts meet have no more than eight signs together")) sNil)) yaL)
  (sSeq (sIf (yaz (sOp2 fGt (yad fAbs (yaa (sOp2 fSub (sOp2 fIx (Sm.sFld 0 5 (sVar 0)) (sVar 1)) (sOp2 fIx (Sm.sFld 0 5 (sVar 0)) (sVar 2))) sNil)) (sLit (.int 1)))) (ycU 4 (yaa (sLit (.str "the heights of the parts differ by more than one")) sNil)) yaL)
  (sIf (yaz (sOp2 fGt (sOp2 fAdd (sOp2 fIx (Sm.sFld 0 2 (sVar 0)) (sVar 1)) (sOp2 fIx (Sm.sFld 0 2 (sVar 0)) (sVar 2))) (sLit (.int 1000000000000000000)))) (ycU 5 (yaa (sLit (.str "the fork would have more than 10 ** 18 signs")) sNil)) yaL))))))
def yb5 : Fn:=mkFn 2 3
  (sSeq (yaV (sBM ybb yaK (Sm.sFld 0 0 (sVar 0)) (yaa (sVar 1) sNil)))
  (sSeq (sSet 2 (yad fLen (yaa (Sm.sFld 0 0 (sVar 0)) sNil)))
  (sSeq (yd1 (Sm.sFld 0 1 (sVar 0)) (sVar 1) (sVar 2))
  (sRet (sVar 2)))))
def ybu : Fn:=mkFn 2 4
  (sSeq (yaV (ya6 0 yb5 (sVar 0) (yaa (sVar 1) sNil)))
  (sSeq (sSet 2 (sOp2 fIx (sVar 1) (sLit (.int 1))))
  (sSeq (sSet 3 (sOp2 fIx (sVar 1) (sLit (.int 2))))
  (sSeq (yaV (sBM ybb yaK (Sm.sFld 0 2 (sVar 0)) (yaa (sOp2 fAdd (sOp2 fIx (Sm.sFld 0 2 (sVar 0)) (sVar 2)) (sOp2 fIx (Sm.sFld 0 2 (sVar 0)) (sVar 3))) sNil)))
  (sSeq (yaV (sBM ybb yaK (Sm.sFld 0 3 (sVar 0)) (yaa (sOp2 fAdd (sOp2 fIx (Sm.sFld 0 3 (sVar 0)) (sVar 2)) (sOp2 fIx (Sm.sFld 0 3 (sVar 0)) (sVar 3))) sNil)))
  (sSeq (yaV (sBM ybb yaK (Sm.sFld 0 4 (sVar 0)) (yaa (sOp2 fAdd (sOp2 fIx (Sm.sFld 0 4 (sVar 0)) (sVar 2)) (sOp2 fIx (Sm.sFld 0 4 (sVar 0)) (sVar 3))) sNil)))
  (sSeq (yaV (sBM ybb yaK (Sm.sFld 0 5 (sVar 0)) (yaa (sOp2 fAdd (yad ydO (yaa (sOp2 fIx (Sm.sFld 0 5 (sVar 0)) (sVar 2)) (yaa (sOp2 fIx (Sm.sFld 0 5 (sVar 0)) (sVar 3)) sNil))) (sLit (.int 1))) sNil)))
  (sSeq (yaV (sBM ybb yaK (Sm.sFld 0 6 (sVar 0)) (yaa (sOp2 fIx (Sm.sFld 0 6 (sVar 0)) (sVar 2)) sNil)))
  (yaV (sBM ybb yaK (Sm.sFld 0 7 (sVar 0)) (yaa (sOp2 fIx (Sm.sFld 0 7 (sVar 0)) (sVar 3)) sNil)))))))))))
def yax : Fn:=mkFn 3 4
  (sSeq (yaV (ya6 0 yas (sVar 0) (yaa (sVar 1) (yaa (sVar 2) sNil))))
  (sSeq (sSet 3 (sTup (yaa (sLit (.str "fork")) (yaa (sVar 1) (yaa (sVar 2) sNil)))))
  (sSeq (sIf (yaz (sOp2 yeA (sVar 3) (Sm.sFld 0 1 (sVar 0)))) (yaV (ya6 0 ybu (sVar 0) (yaa (sVar 3) sNil))) yaL)
  (sRet (sOp2 fIx (Sm.sFld 0 1 (sVar 0)) (sVar 3))))))
def ya1 : Fn:=mkFn 1 1
  (sRet (sOrV (sOp2 fEq (sVar 0) (sLit (.str "\n"))) (ybS fLe fLe (sLit (.str " ")) (sVar 0) (sLit (.str "~")))))
def yck : Fn:=mkFn 1 1
  (sSeq (sIf (sNot (ybK (sIsB "str" (sVar 0)))) (sRet (sLit (.bl false))) yaL)
  (sRet (yad fAll (yaa (ybl [] (iVal (sVar 0)) sYes (yad ya1 (yaa (sVar 0) sNil))) sNil))))
def ybC : Fn:=mkFn 1 1
  (sRet (ydo (yad yck (yaa (sVar 0) sNil)) (ybS fLe fLe (sLit (.int 1)) (yad fLen (yaa (sVar 0) sNil)) (sLit (.int 8)))))
def yc9 : Fn:=mkFn 1 1
  (sRet (sBM ya0 yeg (sVar 0) (yaa (sLit (.str "\n")) sNil)))
def ybv : Fn:=mkFn 2 4
  (sSeq (sSet 2 (ya6 0 yb5 (sVar 0) (yaa (sVar 1) sNil)))
  (sSeq (sSet 3 (sOp2 fIx (sVar 1) (sLit (.int 1))))
  (sSeq (yaV (sBM ybb yaK (Sm.sFld 0 2 (sVar 0)) (yaa (yad fLen (yaa (sVar 3) sNil)) sNil)))
  (sSeq (yaV (sBM ybb yaK (Sm.sFld 0 3 (sVar 0)) (yaa (yad yc9 (yaa (sVar 3) sNil)) sNil)))
  (sSeq (yaV (sBM ybb yaK (Sm.sFld 0 4 (sVar 0)) (yaa (sLit (.int 1)) sNil)))
  (sSeq (yaV (sBM ybb yaK (Sm.sFld 0 5 (sVar 0)) (yaa (sLit (.int 0)) sNil)))
  (sSeq (yaV (sBM ybb yaK (Sm.sFld 0 6 (sVar 0)) (yaa (sVar 2) sNil)))
  (yaV (sBM ybb yaK (Sm.sFld 0 7 (sVar 0)) (yaa (sVar 2) sNil))))))))))
def yay : Fn:=mkFn 2 3
  (sSeq (sIf (sNot (ybK (yad ybC (yaa (sVar 1) sNil)))) (ycU 1 (yaa (sLit (.str "a leaf is a plain text of one to eight signs")) sNil)) yaL)
  (sSeq (sSet 2 (sTup (yaa (sLit (.str "leaf")) (yaa (sVar 1) sNil))))
  (sSeq (sIf (yaz (sOp2 yeA (sVar 2) (Sm.sFld 0 1 (sVar 0)))) (yaV (ya6 0 ybv (sVar 0) (yaa (sVar 2) sNil))) yaL)
  (sRet (sOp2 fIx (Sm.sFld 0 1 (sVar 0)) (sVar 2))))))
def ycl (G : Fn) : Fn:=mkFn 5 12
  (sSeq (sIf (yaz (sOp2 fEq (sVar 3) (sLit (.int 0)))) (sSeq (sSet 5 (yad ydO (yaa (sLit (.int 1)) (yaa (sOp2 fSub (sLit (.int 9)) (sVar 4)) sNil))))
  (sSeq (sSet 6 (sOp2 fAdd (sVar 5) (yad yai (yaa (sVar 1) (yaa (sOp2 fSub (sLit (.int 9)) (sVar 5)) sNil)))))
  (sSeq (sSet 7 (sBM ya0 ych (sLit (.str "")) (yaa (ybl [2,1] (ybk (sVar 6)) sYes (sOp2 fIx (sVar 1) (yad yai (yaa (sVar 2) (yaa (yad fLen (yaa (sVar 1) sNil)) sNil))))) sNil)))
  (sRet (sTup (yaa (ya6 0 yay (sVar 0) (yaa (sVar 7) sNil)) (yaa (sVar 7) (yaa (sVar 6) sNil)))))))) yaL)
  (sSeq (sSet 8 (sOp2 fMul (sOp2 fIx (sLst (yaa (sLit (.int 0)) (yaa (sLit (.int 0)) (yaa (sLit (.int 1)) sNil)))) (yad yai (yaa (sVar 1) (yaa (sLit (.int 3)) sNil)))) (yad fInt (yaa (sOp2 fGt (sVar 3) (sLit (.int 1))) sNil))))
  (sSeq (sSet 9 (yad yai (yaa (sVar 1) (yaa (sLit (.int 2)) sNil))))
  (sSeq (sSet 10 (yad G (yaa (sVar 0) (yaa (sVar 1) (yaa (sVar 2) (yaa (sOp2 fSub (sOp2 fSub (sVar 3) (sLit (.int 1))) (sOp2 fMul (sVar 8) (sVar 9))) (yaa (sVar 4) sNil)))))))
  (sSeq (sSet 11 (yad G (yaa (sVar 0) (yaa (sVar 1) (yaa (sVar 2) (yaa (sOp2 fSub (sOp2 fSub (sVar 3) (sLit (.int 1))) (sOp2 fMul (sVar 8) (sOp2 fSub (sLit (.int 1)) (sVar 9)))) (yaa (sOp2 fIx (sVar 10) (sLit (.int 2))) sNil)))))))
  (sRet (sTup (yaa (ya6 0 yax (sVar 0) (yaa (sOp2 fIx (sVar 10) (sLit (.int 0))) (yaa (sOp2 fIx (sVar 11) (sLit (.int 0))) sNil))) (yaa (sOp2 fAdd (sOp2 fIx (sVar 10) (sLit (.int 1))) (sOp2 fIx (sVar 11) (sLit (.int 1)))) (yaa (sOp2 fIx (sVar 11) (sLit (.int 2))) sNil))))))))))
def ybp : Nat -> Fn
 | 0=>mkFn 5 12 (λ_ _=>.bad)
 | d + 1=>ycl (ybp d)
def ybN : Fn:=mkFn 3 5
  (sSeq (sSet 3 (yad ybO (yaa (sVar 1) sNil)))
  (sSeq (sIf (yaz (sOp2 fEq (yad yai (yaa (sVar 1) (yaa (sLit (.int 8)) sNil))) (sLit (.int 7)))) (sRet (sTup (yaa (sLit (.int 0)) (yaa (sLit (.str "")) sNil)))) yaL)
  (sSeq (sSet 4 (yad (ybp 10) (yaa (sVar 0) (yaa (sVar 1) (yaa (sVar 3) (yaa (yad yai (yaa (sVar 1) (yaa (sOp2 fAdd (sVar 2) (sLit (.int 1))) sNil))) (yaa (sLit (.int 8)) sNil)))))))
  (sRet (sTup (yaa (sOp2 fIx (sVar 4) (sLit (.int 0))) (yaa (sOp2 fIx (sVar 4) (sLit (.int 1))) sNil)))))))
def ya8 : SS :=
  (sIf (yaz (sOp2 fLe (sOp2 fMul (sOp2 fMul (yad fLen (yaa (sVar 4) sNil)) (sVar 6)) (sLit (.int 2))) (sOp2 fPow (sLit (.int 10)) (sLit (.int 18))))) (sSeq (sSet 3 (ya6 0 yax (sVar 0) (yaa (sVar 3) (yaa (sVar 3) sNil))))
  (sSet 6 (sOp2 fMul (sVar 6) (sLit (.int 2))))) yaL)
def ycm : Fn:=mkFn 2 8
  (sSeq (sSet 2 (yad ybO (yaa (sVar 1) sNil)))
  (sSeq (yfM (.tup [3,4,5]) (yad (ybp 10) (yaa (sVar 0) (yaa (sVar 1) (yaa (sVar 2) (yaa (yad yai (yaa (sVar 1) (yaa (sLit (.int 4)) sNil))) (yaa (sLit (.int 1)) sNil)))))))
  (sSeq (sSet 6 (sLit (.int 1)))
  (sSeq (sFor (ybk (yad yai (yaa (sVar 1) (yaa (sLit (.int 60)) sNil)))) (.nm 7) ya8)
  (sRet (sTup (yaa (sVar 3) (yaa (sVar 4) (yaa (sVar 6) sNil)))))))))
def yaR : SS :=
  (yaV (yad ybN (yaa (sVar 1) (yaa (sVar 2) (yaa (sLit (.int 4)) sNil)))))
def yba : Fn:=mkFn 1 4
  (sSeq (sSet 1 (ycG 0 8 ya2 sNil))
  (sSeq (sSet 2 (yad yaM (yaa (sVar 0) (yaa (sLit (.int 0)) sNil))))
  (sSeq (sFor (ybk (yad yai (yaa (sVar 2) (yaa (sLit (.int 4)) sNil)))) (.nm 3) yaR)
  (sSeq (sIf (yaz (sOp2 fEq (yad yai (yaa (sVar 2) (yaa (sLit (.int 3)) sNil))) (sLit (.int 0)))) (yaV (yad ycm (yaa (sVar 1) (yaa (yad yaM (yaa (sVar 0) (yaa (sLit (.int 1)) sNil))) sNil)))) yaL)
  (sRet (sVar 1))))))
def ybB : Fn:=mkFn 2 2
  (sSeq (yaV (ya6 0 yau (sVar 0) (yaa (sVar 1) sNil)))
  (sRet (sOp2 fIx (Sm.sFld 0 0 (sVar 0)) (sOp2 fSub (sVar 1) (sLit (.int 1))))))
def yaN : Fn:=mkFn 1 1
  (sRet (yad fLen (yaa (Sm.sFld 0 0 (sVar 0)) sNil)))
def ya9 : SS :=
  (sSet 1 (sOp2 fAdd (sVar 1) (sGet (ycY "\n" "\\n" "\\" "\\\\") (sVar 2) (sVar 2))))
def ybP : Fn:=mkFn 1 3
  (sSeq (sSet 1 (sLit (.str "")))
  (sSeq (sFor (iVal (sVar 0)) (.nm 2) ya9)
  (sRet (sVar 1))))
def yaQ : SS :=
  (sSeq (sSet 3 (ya6 0 ybB (sVar 0) (yaa (sVar 2) sNil)))
  (sIf (yaz (sOp2 fEq (sOp2 fIx (sVar 3) (sLit (.int 0))) (sLit (.str "leaf")))) (yaV (sBM ybb yaK (sVar 1) (yaa (sOp2 fAdd (sLit (.str "leaf ")) (yad ybP (yaa (sOp2 fIx (sVar 3) (sLit (.int 1))) sNil))) sNil))) (yaV (sBM ybb yaK (sVar 1) (yaa (sOp2 fAdd (sOp2 fAdd (sOp2 fAdd (sLit (.str "fork ")) (yad ya7 (yaa (sOp2 fIx (sVar 3) (sLit (.int 1))) sNil))) (sLit (.str " "))) (yad ya7 (yaa (sOp2 fIx (sVar 3) (sLit (.int 2))) sNil))) sNil)))))
def ybf : Fn:=mkFn 1 4
  (sSeq (sSet 1 (yb7 sNil))
  (sSeq (sFor (ybq (sLit (.int 1)) (sOp2 fAdd (ya6 0 yaN (sVar 0) sNil) (sLit (.int 1)))) (.nm 2) yaQ)
  (sRet (sBM ya0 ybj (sLit (.str "\n")) (yaa (sVar 1) sNil)))))
def ybg : Fn:=mkFn 2 4
  (sSeq (sSet 2 (sLst (yaa (sLit (.str "")) (yaa (sLit (.str " ")) (yaa (sLit (.str "leaf")) (yaa (sLit (.str "leaf ")) (yaa (sLit (.str "Leaf a")) (yaa (sLit (.str "leaf\tq")) (yaa (sLit (.str "leaf abcdefghi")) (yaa (sLit (.str "leaf \\")) (yaa (sLit (.str "leaf q\\")) (yaa (sLit (.str "leaf \\x")) sNil))))))))))))
  (sSeq (sSet 2 (sOp2 fAdd (sVar 2) (sLst (yaa (sLit (.str "leaf q\tq")) (yaa (sLit (.str " leaf q")) (yaa (sLit (.str "fork")) (yaa (sLit (.str "fork 1")) (yaa (sLit (.str "fork 0 1")) (yaa (sLit (.str "fork 1 0")) (yaa (sLit (.str "fork 1 1 1")) (yaa (sLit (.str "fork 1  1")) sNil)))))))))))
  (sSeq (sSet 2 (sOp2 fAdd (sVar 2) (sLst (yaa (sLit (.str "fork 01 1")) (yaa (sLit (.str "fork +1 1")) (yaa (sLit (.str "fork -1 1")) (yaa (sLit (.str "fork a 1")) (yaa (sLit (.str "fork 1 1 ")) (yaa (sOp2 fAdd (sLit (.str "fork 1 ")) (sOp2 yd5 (sLit (.str "9")) (sLit (.int 40)))) sNil)))))))))
  (sSeq (sSet 3 (yad ya7 (yaa (sOp2 fAdd (sVar 0) (sLit (.int 1))) sNil)))
  (sRet (sOp2 fAdd (sVar 2) (sLst (yaa (sOp2 fAdd (sOp2 fAdd (sLit (.str "fork ")) (sVar 3)) (sLit (.str " 1"))) (yaa (sOp2 fAdd (sLit (.str "fork 1 ")) (sVar 3)) (yaa (sOp2 fAdd (sLit (.str "fork 1 ")) (yad ya7 (yaa (sOp2 fAdd (sVar 0) (sLit (.int 2))) sNil))) (yaa (sOp2 fAdd (sOp2 fAdd (sLit (.str "fork ")) (yad ya7 (yaa (sOp2 fAdd (sVar 1) (sLit (.int 9))) sNil))) (sLit (.str " 1"))) sNil)))))))))))
def yal : SS :=
  (sSeq (sIf (ybK (sVar 2)) (sSeq (sSet 4 (yeq D_MARKED (sVar 3)))
  (sSet 2 (sLit (.bl false)))) (sIf (yaz (sOp2 fEq (sVar 3) (sLit (.str "\\")))) (sSeq (sSet 4 (sLit (.str "")))
  (sSet 2 (sLit (.bl true)))) (sSet 4 (sIfE (sAnd (yaz (sOp2 fNe (sVar 3) (sLit (.str "\n")))) (ybK (yad ya1 (yaa (sVar 3) sNil)))) (sVar 3) (sLit .non)))))
  (sSeq (sIf (yaz (sOp2 fIsN (sVar 4) (sLit .non))) (sRet (sLit .non)) yaL)
  (yaV (sBM ybb yaK (sVar 1) (yaa (sVar 4) sNil)))))
def yat : Fn:=mkFn 1 5
  (sSeq (sSet 1 (yb7 sNil))
  (sSeq (sSet 2 (sLit (.bl false)))
  (sSeq (sFor (iVal (sVar 0)) (.nm 3) yal)
  (sRet (sIfE (ybK (sVar 2)) (sLit .non) (sBM ya0 ych (sLit (.str "")) (yaa (sVar 1) sNil)))))))
def yan : Fn:=mkFn 1 1
  (sSeq (sIf (sNot (yaz (ybS fLe fLe (sLit (.int 1)) (yad fLen (yaa (sVar 0) sNil)) (sLit (.int 30))))) (sRet (sLit .non)) yaL)
  (sSeq (sIf (sNot (ybK (yad fAll (yaa (ybl [] (iVal (sVar 0)) sYes (ybS fLe fLe (sLit (.str "0")) (sVar 0) (sLit (.str "9")))) sNil)))) (sRet (sLit .non)) yaL)
  (sSeq (sIf (sAnd (yaz (sOp2 fNe (sVar 0) (sLit (.str "0")))) (ybK (sBM ya0 yaX (sVar 0) (yaa (sLit (.str "0")) sNil)))) (sRet (sLit .non)) yaL)
  (sRet (yad yd6 (yaa (sVar 0) sNil))))))
def yaq : Fn:=mkFn 2 3
  (sSeq (sSet 2 (sBM ya0 ybI (sVar 1) (yaa (sLit (.str " ")) sNil)))
  (sSeq (sIf (ybK (sBM ya0 yaX (sVar 1) (yaa (sLit (.str "leaf ")) sNil))) (sRet (ya6 0 yay (sVar 0) (yaa (yad yat (yaa (sCut (sVar 1) (some (yad fLen (yaa (sLit (.str "leaf ")) sNil))) none) sNil)) sNil))) yaL)
  (sSeq (sIf (sAnd (yaz (sOp2 fEq (sOp2 fIx (sVar 2) (sLit (.int 0))) (sLit (.str "fork")))) (yaz (sOp2 fEq (yad fLen (yaa (sVar 2) sNil)) (sLit (.int 3))))) (sRet (ya6 0 yax (sVar 0) (yaa (yad yan (yaa (sOp2 fIx (sVar 2) (sLit (.int 1))) sNil)) (yaa (yad yan (yaa (sOp2 fIx (sVar 2) (sLit (.int 2))) sNil)) sNil)))) yaL)
  (ycU 7 (yaa (sLit (.str "a row tells a leaf or a fork")) sNil)))))
def ybD : Fn:=mkFn 2 4
  (sSeq (sSet 2 (ya6 0 yaN (sVar 0) sNil))
  (sSeq (yeT ybe (sSet 3 (yad yaq (yaa (sVar 0) (yaa (sVar 1) sNil)))) (sRet (sLit (.bl false))))
  (sRet (sOp2 fGt (sVar 3) (sVar 2)))))
def yaO : SS :=
  (sIf (sNot (ybK (yad ybD (yaa (sVar 1) (yaa (sVar 3) sNil))))) (yeh 6 (yaa (sVar 2) sNil)) yaL)
def yaU : Fn:=mkFn 1 4
  (sSeq (sSet 1 (ycG 0 8 ya2 sNil))
  (sSeq (sIf (yaz (sOp2 fEq (sVar 0) (sLit (.str "")))) (sRet (sVar 1)) yaL)
  (sSeq (ydT (Sm.iEnum (sBM ya0 ybI (sVar 0) (yaa (sLit (.str "\n")) sNil))) (.tup [2,3]) yaO)
  (sRet (sVar 1)))))
def ybQ : Fn:=mkFn 1 1
  (sRet (ydo (sIsB "int" (sVar 0)) (yeP (sIsB "bool" (sVar 0)))))
def yap : Fn:=mkFn 1 4
  (sSeq (sSet 1 (sLit .non))
  (sSeq (sTry 2 ybe (yaV (yad yaU (yaa (sVar 0) sNil))) (sSeq (sSet 1 (sOp1 fNeg (sLit (.int 1))))
  (sSeq (sSet 3 (sLst (yaa (sIsX yc8 (sVar 2)) (yaa (sIsX ycJ (sVar 2)) (yaa (sIsX ydt (sVar 2)) (yaa (sIsX ycL (sVar 2)) sNil))))))
  (sIf (sAnd (ybK (sIsX ydU (sVar 2))) (sAnd (ybK (sIsX yb9 (sVar 2))) (yaz (sOp2 fEq (sVar 3) (sOp2 ydS (sLst (yaa (sLit (.bl false)) sNil)) (sLit (.int 4))))))) (sIf (sAnd (sNot (ybK (sIsX ycK (sVar 2)))) (ybK (yad (noEx ybQ) (yaa (sRow 6 (sVar 2)) sNil)))) (sSet 1 (sRow 6 (sVar 2))) yaL) yaL))))
  (sRet (sVar 1))))
def yct : SS :=
  (sSeq (sIf (yaz (sOp2 fNe (yad yap (yaa (sBM ya0 ybj (sLit (.str "\n")) (yaa (sOp2 fAdd (sOp2 fAdd (sCut (sVar 3) none (some (sVar 6))) (sLst (yaa (sVar 7) sNil))) (sCut (sVar 3) (some (sVar 6)) none)) sNil)) sNil)) (sVar 6))) (sRet (sLit (.bl false))) yaL)
  (sIf (yaz (sOp2 fNe (yad yap (yaa (sBM ya0 ybj (sLit (.str "\n")) (yaa (sOp2 fAdd (sOp2 fAdd (sCut (sVar 3) none (some (sVar 6))) (sLst (yaa (sVar 7) (yaa (sLit (.str "fork 0 0")) sNil)))) (sCut (sVar 3) (some (sVar 6)) none)) sNil)) sNil)) (sVar 6))) (sRet (sLit (.bl false))) yaL))
def ycu : SS :=
  (sIf (yaz (sOp2 fNe (yad yap (yaa (sBM ya0 ybj (sLit (.str "\n")) (yaa (sOp2 fAdd (sVar 3) (sLst (yaa (sOp2 fIx (sVar 3) (yad yai (yaa (sVar 5) (yaa (sVar 4) sNil)))) sNil))) sNil)) sNil)) (sVar 4))) (sRet (sLit (.bl false))) yaL)
def yeX : Fn:=mkFn 1 12
  (sSeq (sSet 1 (yad yba (yaa (sVar 0) sNil)))
  (sSeq (sSet 2 (yad ybf (yaa (sVar 1) sNil)))
  (sSeq (sSet 3 (sBM ya0 ybI (sVar 2) (yaa (sLit (.str "\n")) sNil)))
  (sSeq (sSet 4 (ya6 0 yaN (sVar 1) sNil))
  (sSeq (sIf (yaz (sOp2 fEq (sVar 4) (sLit (.int 0)))) (sSet 3 (sLst sNil)) yaL)
  (sSeq (sSet 5 (yad yaM (yaa (sVar 0) (yaa (sLit (.int 3)) sNil))))
  (sSeq (sSet 6 (yad yai (yaa (sVar 5) (yaa (sOp2 fAdd (sVar 4) (sLit (.int 1))) sNil))))
  (sSeq (sIf (sOr (yaz (sOp2 yeO (yad yap (yaa (sVar 2) sNil)) (sLit .non))) (sOr (yaz (sOp2 fNe (yad yap (yaa (sLit (.str "\n")) sNil)) (sLit (.int 0)))) (yaz (sOp2 fNe (yad yap (yaa (sOp2 fAdd (sLit (.str "\n")) (sVar 2)) sNil)) (sLit (.int 0)))))) (sRet (sLit (.bl false))) yaL)
  (sSeq (sIf (sAnd (yaz (sOp2 fGt (sVar 4) (sLit (.int 0)))) (yaz (sOp2 fNe (yad yap (yaa (sOp2 fAdd (sVar 2) (sLit (.str "\n"))) sNil)) (sVar 4)))) (sRet (sLit (.bl false))) yaL)
  (sSeq (sFor (iVal (sCut (yad ybg (yaa (sVar 6) (yaa (sVar 4) sNil))) (some (yad fInt (yaa (sOp2 fEq (sVar 4) (sLit (.int 0))) sNil))) none)) (.nm 7) yct)
  (sSeq (sFor (ybk (yad yc7 (yaa (sVar 4) (yaa (sLit (.int 5)) sNil)))) (.nm 8) ycu)
  (sSeq (sSet 9 (sLst (yaa (sLit (.str "leaf abc")) (yaa (sLit (.str "leaf abcde")) (yaa (sLit (.str "fork 1 2")) sNil)))))
  (sSeq (sSet 10 (sLst (yaa (sLit (.str "leaf abcdefgh")) (yaa (sLit (.str "fork 1 1")) (yaa (sLit (.str "fork 2 2")) (yaa (sLit (.str "fork 3 1")) sNil))))))
  (sSeq (sSet 11 (sOp2 fAdd (sLst (yaa (sLit (.str "leaf abcdefgh")) sNil)) (ybl [] (ybq (sLit (.int 1)) (sLit (.int 62))) sYes (sOp2 fAdd (sOp2 fAdd (sOp2 fAdd (sLit (.str "fork ")) (yad ya7 (yaa (sVar 0) sNil))) (sLit (.str " "))) (yad ya7 (yaa (sVar 0) sNil))))))
  (sSeq (sIf (sOr (yaz (sOp2 fNe (yad yap (yaa (sBM ya0 ybj (sLit (.str "\n")) (yaa (sVar 9) sNil)) sNil)) (sLit (.int 2)))) (yaz (sOp2 fNe (yad yap (yaa (sBM ya0 ybj (sLit (.str "\n")) (yaa (sVar 10) sNil)) sNil)) (sLit (.int 3))))) (sRet (sLit (.bl false))) yaL)
  (sRet (ydo (sOp2 fIsN (yad yap (yaa (sBM ya0 ybj (sLit (.str "\n")) (yaa (sCut (sVar 11) none (some (sLit (.int 57)))) sNil)) sNil)) (sLit .non)) (sOp2 fEq (yad yap (yaa (sBM ya0 ybj (sLit (.str "\n")) (yaa (sVar 11) sNil)) sNil)) (sLit (.int 57))))))))))))))))))))
end Sk
set_option exponentiation.threshold 2000
namespace Sk
open PySem PySem.Spec L2 Sm
theorem zeU {w : Option Nat} {all : List AV} {t : Tg} {b : SS} (P : Nat -> En -> AH -> Prop) : ∀ (xs : List AV) (i : Nat) (en : En) (h : AH),P i en h ->
  (∀ i en h,P i en h -> yaZ w all h = true) ->
  (∀ (j : Nat) (x : AV) (en : En) (h : AH),xs[j]? = some x -> P (i + j) en h -> ∃ e1 e2 h2,setT t x en = some e1 /\ (b e1 h = .nx e2 h2 \/ b e1 h = .ct e2 h2) /\ P (i + j + 1) e2 h2) ->
  ∃ e' h',yaH w all t b xs en h = .nx e' h' /\ P (i + xs.length) e' h'
 | [],i,en,h,p,lv,_=>⟨en,h,by unfold yaH; rw [if_pos (lv _ _ _ p)],p⟩
 | x :: xs,i,en,h,p,lv,s=>by
  obtain ⟨e1,e2,h2,q1,q2,q3⟩:=s 0 x en h rfl p
  obtain ⟨e',h',r1,r2⟩:=zeU P xs (i + 1) e2 h2 q3 lv λj y en h e q=>by
   have:=s (j + 1) y en h (by simpa using e) (by rw [show i + (j + 1) = i + 1 + j by lia]; exact q)
   rw [show i + (j + 1) + 1 = i + 1 + j + 1 by lia] at this
   exact this
  refine ⟨e',h',?_,by rw [List.length_cons,show i + (xs.length + 1) = i + 1 + xs.length by lia]; exact r2⟩
  unfold yaH
  rw [if_pos (lv _ _ _ p)]
  simp only [q1]
  rcases q2 with q2 | q2
  ·rw [q2]; exact r1
  ·rw [q2]; exact r1
theorem zbK {α : Type} {js : List Nat} {en : En} {w : Option Nat} {all : List AV} {c : SB} {e : SE} {g f : α -> AV} {p : α -> Bool} {h : AH} (lv : yaZ w all h = true) : ∀ (cs : List α) (ys : List AV),(∀ x ∈ cs,c (some (g x) :: js.map λj=>(en[j]?).join) h = .ok (p x) h) -> (∀ x ∈ cs,p x = true -> e (some (g x) :: js.map λj=>(en[j]?).join) h = .ok (f x) h) -> ys.length + cs.length <= sizeLine ->
  yaW js en w all c e (cs.map g) ys h = .ok (ys++(cs.filter p).map f) h
 | [],ys,_,_,_=>by rw [List.map_nil]; unfold yaW; rw [if_pos lv]; simp
 | x :: xs,ys,hc,he,hl=>by
  have hl' : ys.length < sizeLine:=by simp at hl; lia
  rw [List.map_cons]
  unfold yaW
  rw [if_pos ⟨lv,hl'⟩,hc x (by simp)]
  cases hp : p x with
  | false =>
   dsimp only
   rw [zbK lv xs ys (λy hy=>hc y (by simp [hy])) (λy hy=>he y (by simp [hy])) (by simp at hl ⊢; lia)]
   simp [List.filter_cons,hp]
  | true =>
   dsimp only
   rw [he x (by simp) hp]
   dsimp only
   rw [zbK lv xs (ys++[f x]) (λy hy=>hc y (by simp [hy])) (λy hy=>he y (by simp [hy])) (by simp at hl ⊢; lia)]
   simp [List.filter_cons,hp]
theorem zdX {α : Type} {js : List Nat} {en : En} {w : Option Nat} {all : List AV} {e : SE} {g f : α -> AV} {h : AH} (lv : yaZ w all h = true) (cs : List α) (ys : List AV) (he : ∀ x ∈ cs,e (some (g x) :: js.map λj=>(en[j]?).join) h = .ok (f x) h) (hl : ys.length + cs.length <= sizeLine) :
  yaW js en w all sYes e (cs.map g) ys h = .ok (ys++cs.map f) h:=by
 rw [zbK (p:=λ_=>true) lv cs ys (λ_ _=>rfl) (λx hx _=>he x hx) hl,List.filter_eq_self.mpr (λ_ _=>rfl)]
@[simp] def thn (o : OutS) (Q : En -> AH -> Prop) : Prop:=match o with
 | .nx e h=>Q e h
 | .ct e h=>Q e h
 | _=>False
theorem yhg {o : OutS} {Q : En -> AH -> Prop} (t : thn o Q) : ∃ e h,(o = .nx e h \/ o = .ct e h) /\ Q e h:=by
 cases o with
 | nx e h=>exact ⟨e,h,.inl rfl,t⟩
 | ct e h=>exact ⟨e,h,.inr rfl,t⟩
 | _=>exact t.elim
@[simp] def yhh (o : Option En) (Q : En -> Prop) : Prop:=match o with
 | some e=>Q e
 | none=>False
theorem yda {w : Option Nat} {all : List AV} {t : Tg} {b : SS} {xs : List AV} {en : En} {h : AH} (P : Nat -> En -> AH -> Prop) (p0 : P 0 en h) (lv : ∀ i en h,P i en h -> yaZ w all h = true)
  (st : ∀ (j : Nat) (x : AV) (en : En) (h : AH),xs[j]? = some x -> P j en h -> yhh (setT t x en) λe1=>thn (b e1 h) (P (j + 1))) :
  ∃ e' h',yaH w all t b xs en h = .nx e' h' /\ P xs.length e' h' := by
 have:=zeU (w:=w) (all:=all) (t:=t) (b:=b) P xs 0 en h p0 lv λj x en h hx hp=>by
  have q:=st j x en h hx (by simpa using hp)
  cases z : setT t x en with
  | none=>rw [z] at q; exact q.elim
  | some e1 =>
   rw [z] at q
   obtain ⟨e,h2,a,c⟩:=yhg q
   exact ⟨e1,e,h2,rfl,a,by simpa using c⟩
 simpa using this
theorem zdY {js : List Nat} {en : En} {all : List AV} {e : SE} (P : List AV -> AH -> Prop) : ∀ (xs ys : List AV) (h : AH),P ys h ->
  (∀ x ∈ xs,∀ ys h,P ys h -> ∃ v h2,e (some x :: js.map λj=>(en[j]?).join) h = .ok v h2 /\ P (ys++[v]) h2) -> ys.length + xs.length <= sizeLine ->
  ∃ zs h',yaW js en none all sYes e xs ys h = .ok zs h' /\ P zs h' /\ zs.length = ys.length + xs.length
 | [],ys,h,p,_,_=>⟨ys,h,by simp [yaW],p,rfl⟩
 | x :: xs,ys,h,p,s,hl=>by
  obtain ⟨v,h2,q1,q2⟩:=s x (by simp) ys h p
  obtain ⟨zs,h',r1,r2,r3⟩:=zdY P xs (ys++[v]) h2 q2 (λy hy=>s y (by simp [hy])) (by simp at hl ⊢; lia)
  refine ⟨zs,h',?_,r2,by rw [r3]; simp; lia⟩
  unfold yaW
  rw [if_pos ⟨rfl,by simp at hl; lia⟩]
  simp only [sYes]
  rw [q1]
  exact r1
@[simp] def yij (o : Out AV) (Q : AV -> AH -> Prop) : Prop:=match o with
 | .ok v h=>Q v h
 | _=>False
theorem yhi {js : List Nat} {en : En} {all : List AV} {e : SE} {xs : List AV} {h : AH} (P : List AV -> AH -> Prop) (p0 : P [] h)
  (st : ∀ x ∈ xs,∀ ys h,P ys h -> yij (e (some x :: js.map λj=>(en[j]?).join) h) λv h2=>P (ys++[v]) h2) (hl : xs.length <= sizeLine) :
  ∃ zs h',yaW js en none all sYes e xs [] h = .ok zs h' /\ P zs h' /\ zs.length = xs.length:=by
 have:=zdY (js:=js) (en:=en) (all:=all) (e:=e) P xs [] h p0 (λx hx ys h p=>by
  have q:=st x hx ys h p
  cases z : e (some x :: js.map λj=>(en[j]?).join) h with
  | ok v h2=>rw [z] at q; exact ⟨v,h2,rfl,q⟩
  | ex _ _=>rw [z] at q; exact q.elim
  | bad=>rw [z] at q; exact q.elim) (by simpa using hl)
 simpa using this
theorem zaH : ∀ (n : Nat) (lo : Int) (i : Nat),(yaC lo n)[i]? = if i < n then some (.int (lo + i)) else none
 | 0,lo,i=>by simp [yaC]
 | n + 1,lo,0=>by simp [yaC]
 | n + 1,lo,i + 1=>by
  unfold yaC
  rw [List.getElem?_cons_succ,zaH n (lo + 1) i]
  by_cases q : i < n
  ·rw [if_pos q,if_pos (by lia)]; congr 2; lia
  ·rw [if_neg q,if_neg (by lia)]
theorem zaD : ∀ (n : Nat) (lo : Int),(yaC lo n).length = n
 | 0,_=>rfl
 | n + 1,lo=>by unfold yaC; rw [List.length_cons,zaD n]
theorem zaT {a : SE} {en : En} {h h1 : AH} {n : Nat} (e : a en h = .ok (.int n) h1) (hn : n <= 10000000) : ybk a en h = .ok (yaC 0 n,none) h1:=by
 have h1' : (n : Int).natAbs < 2 ^ 62:=by lia
 simp only [ybk,e,Out.bind]
 rw [if_pos h1']; rfl
theorem zgr {a b : SE} {en : En} {h h1 h2 : AH} {i j : Int} {m : Nat} (e : a en h = .ok (.int i) h1) (e' : b en h1 = .ok (.int j) h2) (hm : (j - i).toNat = m) (b1 : i.natAbs <= 10000000) (b3 : j.natAbs <= 10000000) : ybq a b en h = .ok (yaC i m,none) h2:=by
 have h1' : i.natAbs < 2 ^ 62 /\ j.natAbs < 2 ^ 62:=by lia
 simp only [ybq,e,e',Out.bind]
 rw [if_pos h1',hm]
theorem ybU {it : SI} {t : Tg} {b : SS} {en : En} {h h1 : AH} {xs : List AV} {w : Option Nat} (e : it en h = .ok (xs,w) h1) : sFor it t b en h = yaH w xs t b xs en h1:=by simp only [sFor,e]
theorem yd7 {i j : Int} {h : AH} (hi : i.natAbs < 2 ^ 64) : fMul (.int i) (.int j) h = .ok (.int (i * j)) h:=if_pos (.inl (.inl hi))
theorem yeC {i j : Int} {h : AH} (hj : j.natAbs < 2 ^ 64) : fMul (.int i) (.int j) h = .ok (.int (i * j)) h:=if_pos (.inl (.inr hj))
theorem zdZ {α : Type} {f : α -> AV} {l : List α} {j : Nat} {q : α} (e : l[j]? = some q) : atI (l.map f) (j : Int) = some (f q):=zcJ (by simp [e])
end Sk
set_option exponentiation.threshold 5000
namespace Sk
open PySem PySem.Spec L2 Sm
def ybV (c : Nat) : Bool:=decide (c = 10) || (decide (32 <= c) && decide (c <= 126))
theorem lt1 (a b : Nat) : ([a] < [b]) ↔ a < b:=by
 simp [List.cons_lt_cons_iff]
theorem ybw : (Str.ofString "\n") = ⟨#[10]⟩:=by decide +kernel
theorem ydl : (Str.ofString " ") = ⟨#[32]⟩:=by decide +kernel
theorem yhj : (Str.ofString "~") = ⟨#[126]⟩:=by decide +kernel
theorem yeD (c : Nat) (h : AH) : ya1 [.str ⟨#[c]⟩] h = .ok (.bl (ybV c)) h:=by
 simp [ya1,ybw,ydl,yhj,lt1,ybV]
 by_cases h1 : c = 10
 ·simp [h1]
 ·by_cases h2 : c < 32
  ·have : ¬ 32 <= c:=by lia
   simp [h1,h2,this]
  ·have h3 : 32 <= c:=by lia
   by_cases h4 : c <= 126
   ·have : ¬ 126 < c:=by lia
    simp [h1,h2,h3,h4,this]
   ·have : 126 < c:=by lia
    simp [h1,h2,h3,h4,this]
theorem zcj {α : Type} {js : List Nat} {en : En} {all : List AV} {e : SE} {g f : α -> AV} {h : AH} : ∀ (cs : List α) (ys : List AV),(∀ c ∈ cs,e (some (g c) :: js.map λj=>(en[j]?).join) h = .ok (f c) h) -> ys.length + cs.length <= sizeLine -> yaW js en none all sYes e (cs.map g) ys h = .ok (ys++cs.map f) h
 | [],ys,_,_=>by simp [yaW]
 | x :: xs,ys,he,hl=>by
  have hl' : ys.length < sizeLine:=by simp at hl; lia
  rw [List.map_cons]
  unfold yaW
  rw [if_pos ⟨rfl,hl'⟩]
  simp only [sYes]
  rw [he x (by simp)]
  dsimp only
  rw [zcj xs (ys++[f x]) (λy hy=>he y (by simp [hy])) (by simp at hl ⊢; lia)]
  simp
theorem zbL (f : Nat -> Bool) : ∀ cs : List Nat,ydh (cs.map λc=>.bl (f c)) = some (cs.map f)
 | []=>rfl
 | c :: cs=>by simp [zbL f cs]
def yaT (x : Str) : Bool:=x.cps.toList.all ybV
theorem ziy (x : Str) (h : AH) (hl : x.length <= sizeLine) : yck [.str x] h = .ok (.bl (yaT x)) h:=by
 have e:=zcj (js:=[]) (en:=[some (.str x)]) (all:=x.cps.toList.map λc=>AV.str ⟨#[c]⟩) (e:=yad ya1 (yaa (sVar 0) sNil)) (g:=λc=>AV.str ⟨#[c]⟩) (f:=λc=>AV.bl (ybV c)) (h:=h) x.cps.toList [] (by
  intro c hc
  simp [yeD]) (by simp; exact hl)
 simp only [List.nil_append] at e
 simp [yck]
 rw [e]
 simp [zbL,yaT]
def ybc (x : Str) : Bool:=yaT x && (decide (1 <= x.length) && decide (x.length <= 8))
theorem zcW (x : Str) (h : AH) (hl : x.length <= sizeLine) : ybC [.str x] h = .ok (.bl (ybc x)) h:=by
 simp [ybC,ziy x h hl,ybc]
 by_cases h1 : yaT x = true
 ·by_cases h2 : 1 <= x.length
  ·have : (1 : Int) <= x.length:=by lia
   by_cases h3 : x.length <= 8
   ·have : (x.length : Int) <= 8:=by lia
    simp [*]
   ·have : ¬ (x.length : Int) <= 8:=by lia
    simp [*]
  ·have : ¬ (1 : Int) <= x.length:=by lia
   simp [*]
 ·simp [h1]
def ycM (x : Str) : Nat:=(Builtin.Str.occurrences x ⟨#[10]⟩ 0 x.length (x.length + 1)).length
theorem yhk (x : Str) (h : AH) : yc9 [.str x] h = .ok (.int (ycM x)) h:=by
 simp [yc9,ybw,ycM]
theorem ziz (i : Int) (h : AH) : ybM [.int i] h = .ok (.bl true) h:=by
 simp [ybM]
inductive Pc where
 | leaf (x : Str)
 | fork (a b : Nat)
 deriving DecidableEq
def Pc.av : Pc -> AV
 | .leaf x=>.tup [.str "leaf",.str x]
 | .fork a b=>.tup [.str "fork",.int a,.int b]
theorem Pc.av_inj : ∀ {p q : Pc},p.av = q.av -> p = q
 | .leaf x,.leaf y,e=>by simp [Pc.av] at e; rw [e]
 | .leaf x,.fork a b,e=>by simp [Pc.av] at e
 | .fork a b,.leaf x,e=>by simp [Pc.av] at e
 | .fork a b,.fork c d,e=>by simp [Pc.av] at e; rw [Int.ofNat.inj e.1,Int.ofNat.inj e.2]
structure Ms where
 sg : Nat
 en : Nat
 lv : Nat
 ht : Int
 fl : Nat
 ll : Nat
def ms0 : Ms:=⟨0,0,0,-1,0,0⟩
def ycy (ms : List Ms) : Pc -> Ms
 | .leaf x=>⟨x.length,ycM x,1,0,ms.length,ms.length⟩
 | .fork a b=>⟨(ms.getD a ms0).sg + (ms.getD b ms0).sg,(ms.getD a ms0).en + (ms.getD b ms0).en,(ms.getD a ms0).lv + (ms.getD b ms0).lv,max (ms.getD a ms0).ht (ms.getD b ms0).ht + 1,(ms.getD a ms0).fl,(ms.getD b ms0).ll⟩
def meas (ps : List Pc) : List Ms:=ps.foldl (λms q=>ms++[ycy ms q]) [ms0]
theorem zbM (ps : List Pc) (q : Pc) : meas (ps++[q]) = meas ps++[ycy (meas ps) q]:=by simp [meas]
theorem zao : ∀ ps : List Pc,(meas ps).length = ps.length + 1:=by
 have all : ∀ (ps : List Pc) (ms : List Ms),(ps.foldl (λms q=>ms++[ycy ms q]) ms).length = ms.length + ps.length:=by
  intro ps
  induction ps with
  | nil=>intro ms; rfl
  | cons q r ih=>intro ms; rw [List.foldl_cons,ih]; simp; lia
 intro ps
 rw [meas,all]; simp; lia
def ybh (k : Nat) : List Pc -> List (AV × AV)
 | []=>[]
 | q :: r=>(q.av,.int k) :: ybh (k + 1) r
def tab (ps : List Pc) : List (AV × AV):=ybh 1 ps
theorem zaI (q : Pc) : ∀ (ps : List Pc) (k : Nat),ybh k (ps++[q]) = ybh k ps++[(q.av,.int ((k + ps.length : Nat) : Int))]
 | [],k=>by simp [ybh]
 | p :: r,k=>by
  simp only [List.cons_append,ybh,zaI q r (k + 1)]
  rw [show k + 1 + r.length = k + (p :: r).length by simp; lia]
theorem zeV : ∀ (ps : List Pc) (k : Nat),(ybh k ps).length = ps.length
 | [],_=>rfl
 | p :: r,k=>by simp [ybh,zeV r]
theorem zbu {q : Pc} : ∀ {ps : List Pc} {k : Nat},q ∉ ps -> valA (ybh k ps) q.av = none
 | [],k,_=>rfl
 | p :: r,k,h=>by
  have h1 : ¬ p.av = q.av:=λe=>h (by rw [Pc.av_inj e]; simp)
  have h2:=zbu (q:=q) (ps:=r) (k:=k + 1) λz=>h (by simp [z])
  unfold valA at h2 ⊢
  simp only [ybh,List.find?_cons,decide_eq_false h1]
  exact h2
theorem zck {q : Pc} : ∀ {ps : List Pc} {k i : Nat},ps.Nodup -> ps[i]? = some q -> valA (ybh k ps) q.av = some (.int ((k + i : Nat) : Int))
 | [],k,i,_,e=>by simp at e
 | p :: r,k,0,n,e=>by simp at e; subst e; simp [valA,ybh]
 | p :: r,k,i + 1,n,e=>by
  simp at e
  have h1 : ¬ p.av = q.av:=λz=>(List.nodup_cons.mp n).1 (by rw [Pc.av_inj z]; exact List.mem_of_getElem? e)
  have h2:=zck (q:=q) (k:=k + 1) (List.nodup_cons.mp n).2 e
  unfold valA at h2 ⊢
  simp only [ybh,List.find?_cons,decide_eq_false h1]
  rw [h2]
  congr 3
  lia
theorem ziA {q : Pc} {ps : List Pc} (h : q ∉ ps) : putA (tab ps) q.av (.int ((ps.length + 1 : Nat) : Int)) = tab (ps++[q]):=by
 unfold putA
 rw [zeO,tab,zbu h,tab,zaI]
 simp [Nat.add_comm]
structure ShelfAt (h : AH) (p : Nat) (ps : List Pc) : Prop where
 ob : h[p]? = some (.ins 0 [some (.ref (p + 1)),some (.ref (p + 2)),some (.ref (p + 3)),some (.ref (p + 4)),some (.ref (p + 5)),some (.ref (p + 6)),some (.ref (p + 7)),some (.ref (p + 8))])
 h1 : h[p + 1]? = some (.lst (ps.map Pc.av))
 h2 : h[p + 2]? = some (.dct true (tab ps))
 h3 : h[p + 3]? = some (.lst ((meas ps).map λm=>.int m.sg))
 h4 : h[p + 4]? = some (.lst ((meas ps).map λm=>.int m.en))
 h5 : h[p + 5]? = some (.lst ((meas ps).map λm=>.int m.lv))
 h6 : h[p + 6]? = some (.lst ((meas ps).map λm=>.int m.ht))
 h7 : h[p + 7]? = some (.lst ((meas ps).map λm=>.int m.fl))
 h8 : h[p + 8]? = some (.lst ((meas ps).map λm=>.int m.ll))
def ya4 (h : AH) (p : Nat) (ps : List Pc) : AH :=
 (((((((h.set (p + 1) (.lst (ps.map Pc.av))).set (p + 2) (.dct true (tab ps))).set (p + 3) (.lst ((meas ps).map λm=>.int m.sg))).set (p + 4) (.lst ((meas ps).map λm=>.int m.en))).set (p + 5) (.lst ((meas ps).map λm=>.int m.lv))).set
  (p + 6) (.lst ((meas ps).map λm=>.int m.ht))).set (p + 7) (.lst ((meas ps).map λm=>.int m.fl))).set (p + 8) (.lst ((meas ps).map λm=>.int m.ll))
theorem ybF {h : AH} {i : Nat} {o : AO} (e : h[i]? = some o) : i < h.length:=(List.getElem?_eq_some_iff.mp e).1
theorem zdk (h : AH) (p : Nat) (ps : List Pc) : (ya4 h p ps).length = h.length:=by simp [ya4]
theorem zcl {h : AH} {p q : Nat} {ps : List Pc} (hq : q <= p \/ p + 8 < q) : (ya4 h p ps)[q]? = h[q]? := by
 unfold ya4
 repeat rw [List.getElem?_set_ne (by lia)]
theorem za4 {h : AH} {p : Nat} {ps ps' : List Pc} (S : ShelfAt h p ps) : ShelfAt (ya4 h p ps') p ps' := by
 have b:=ybF S.h8
 have l1 : p + 1 < h.length:=Nat.lt_of_le_of_lt (Nat.add_le_add_left (by decide) p) b
 have l2 : p + 2 < h.length:=Nat.lt_of_le_of_lt (Nat.add_le_add_left (by decide) p) b
 have l3 : p + 3 < h.length:=Nat.lt_of_le_of_lt (Nat.add_le_add_left (by decide) p) b
 have l4 : p + 4 < h.length:=Nat.lt_of_le_of_lt (Nat.add_le_add_left (by decide) p) b
 have l5 : p + 5 < h.length:=Nat.lt_of_le_of_lt (Nat.add_le_add_left (by decide) p) b
 have l6 : p + 6 < h.length:=Nat.lt_of_le_of_lt (Nat.add_le_add_left (by decide) p) b
 have l7 : p + 7 < h.length:=Nat.lt_of_le_of_lt (Nat.add_le_add_left (by decide) p) b
 have ob:=S.ob
 constructor<;>simp [ya4,List.getElem?_set,l1,l2,l3,l4,l5,l6,l7,b,ob,-List.getElem?_eq_getElem]
theorem lenA {α : Type} (l : List α) (f : α -> AV) : (l.map f).length = l.length:=by simp
theorem ydI {h : AH} {p : Nat} {ps : List Pc} (S : ShelfAt h p ps) : yaN [.ref p] h = .ok (.int ps.length) h:=by
 simp [yaN,S.ob,S.h1]
theorem yfZ {h : AH} {p : Nat} {ps : List Pc} {i : Int} (S : ShelfAt h p ps) : yaY [.ref p,.int i] h = .ok (.bl (decide (1 <= i /\ i <= ps.length))) h:=by
 simp [yaY,ziz,S.ob,S.h1]
 by_cases h1 : 1 <= i<;>simp [h1]
theorem zbv {h : AH} {p : Nat} {ps : List Pc} {i : Int} (S : ShelfAt h p ps) (hi : 1 <= i /\ i <= ps.length) : yau [.ref p,.int i] h = .ok .non h:=by
 simp [yau,yfZ S,S.ob,hi.1,hi.2]
theorem zhq {h : AH} {p : Nat} {ps : List Pc} {i : Int} (S : ShelfAt h p ps) (hi : ¬ (1 <= i /\ i <= ps.length)) : yau [.ref p,.int i] h = .ex yeU h:=by
 simp [yau,yfZ S,S.ob,hi]
theorem zai {α : Type} {f : α -> AV} {l : List α} {j : Nat} {q : α} (e : l[j]? = some q) : atI (l.map f) (j : Int) = some (f q):=zcJ (by simp [e])
theorem ziB {h : AH} {p : Nat} {ps : List Pc} {j : Nat} {q : Pc} (S : ShelfAt h p ps) (e : ps[j]? = some q) : ybB [.ref p,.int ((j : Int) + 1)] h = .ok q.av h:=by
 have hj:=(List.getElem?_eq_some_iff.mp e).1
 have h1:=zbv S (i:=(j : Int) + 1) ⟨by lia,by lia⟩
 simp [ybB,h1,S.ob,S.h1,zai e]
theorem yf0 {h : AH} {p : Nat} {ps : List Pc} {q : Pc} (S : ShelfAt h p ps) (hq : q ∉ ps) (hl : ps.length < 16000000) :
  yb5 [.ref p,q.av] h = .ok (.int ((ps.length + 1 : Nat) : Int)) ((h.set (p + 1) (.lst ((ps++[q]).map Pc.av))).set (p + 2) (.dct true (tab (ps++[q])))):=by
 have b:=ybF S.h8
 have hs : ps.length < sizeLine:=Nat.lt_trans hl (by decide)
 have ht : (tab ps).length < sizeLine:=by rw [tab,zeV]; exact hs
 have hk : ycg true q.av = true:=by cases q<;>simp [Pc.av]
 have e1 : (h.set (p + 1) (.lst (ps.map Pc.av++[q.av])))[p]? = h[p]? := List.getElem?_set_ne (by lia)
 have e2 : (h.set (p + 1) (.lst (ps.map Pc.av++[q.av])))[p + 1]? = some (.lst (ps.map Pc.av++[q.av])):=List.getElem?_set_self (by lia)
 have e3 : (h.set (p + 1) (.lst (ps.map Pc.av++[q.av])))[p + 2]? = h[p + 2]? := List.getElem?_set_ne (by lia)
 have tp:=ziA hq
 simp [yb5,S.ob,S.h1,hs,e1,e2,e3,S.h2,hk,ht,-ycg]
 rw [show ((ps.length : Int) + 1) = ((ps.length + 1 : Nat) : Int) by simp,tp]
theorem zgs {h : AH} {p : Nat} {ps : List Pc} {x : Str} (S : ShelfAt h p ps) (hq : Pc.leaf x ∉ ps) (hl : ps.length < 16000000) :
  ybv [.ref p,(Pc.leaf x).av] h = .ok .non (ya4 h p (ps++[.leaf x])):=by
 have b:=ybF S.h8
 have hs : ps.length + 1 < sizeLine:=Nat.lt_of_lt_of_le (Nat.succ_lt_succ hl) (by decide)
 have hm : (meas ps).length < sizeLine:=by rw [zao]; exact hs
 have e:=yf0 S hq hl
 have b2 : ((meas ps).length : Int) = (ps.length : Int) + 1:=by rw [zao]; simp
 have e2 : fIx (Pc.leaf x).av (.int 1) = λh=>Out.ok (.str x) h:=by funext h; rfl
 have l1 : p + 1 < h.length:=by lia
 have l2 : p + 2 < h.length:=by lia
 have l3 : p + 3 < h.length:=by lia
 have l4 : p + 4 < h.length:=by lia
 have l5 : p + 5 < h.length:=by lia
 have l6 : p + 6 < h.length:=by lia
 have l7 : p + 7 < h.length:=by lia
 simp [ybv,e,S.ob,S.h3,S.h4,S.h5,S.h6,S.h7,S.h8,hm,yhk,List.getElem?_set,zbM,ycy,ya4,e2,zao,hs,-fIx,-List.getElem?_eq_getElem]
theorem zeW {α : Type} {l : List α} {i : Nat} {d x : α} (e : l[i]? = some x) : l.getD i d = x:=by simp [List.getD,e]
theorem zgt {h : AH} {p : Nat} {ps : List Pc} {a b : Nat} {ma mb : Ms} (S : ShelfAt h p ps) (hq : Pc.fork a b ∉ ps) (hl : ps.length < 16000000) (ha : (meas ps)[a]? = some ma) (hb : (meas ps)[b]? = some mb) :
  ybu [.ref p,(Pc.fork a b).av] h = .ok .non (ya4 h p (ps++[.fork a b])):=by
 have bb:=ybF S.h8
 have hs : ps.length + 1 < sizeLine:=Nat.lt_of_lt_of_le (Nat.succ_lt_succ hl) (by decide)
 have hm : (meas ps).length < sizeLine:=by rw [zao]; exact hs
 have e:=yf0 S hq hl
 have e2 : fIx (Pc.fork a b).av (.int 1) = λh=>Out.ok (.int a) h:=by funext h; rfl
 have e3 : fIx (Pc.fork a b).av (.int 2) = λh=>Out.ok (.int b) h:=by funext h; rfl
 have l1 : p + 1 < h.length:=by lia
 have l2 : p + 2 < h.length:=by lia
 have l3 : p + 3 < h.length:=by lia
 have l4 : p + 4 < h.length:=by lia
 have l5 : p + 5 < h.length:=by lia
 have l6 : p + 6 < h.length:=by lia
 have l7 : p + 7 < h.length:=by lia
 have fx : ∀ (n : Nat) (g : Ms -> AV) (h' : AH),h'[n]? = some (.lst ((meas ps).map g)) -> fIx (.ref n) (.int a) h' = .ok (g ma) h' /\ fIx (.ref n) (.int b) h' = .ok (g mb) h' := λn g h' e=>by
  simp [fIx,e,zai ha,zai hb]
 have f3:=λ(h' : AH) (e : h'[p + 3]? = some (.lst ((meas ps).map λm=>.int m.sg)))=>fx _ _ h' e
 have f4:=λ(h' : AH) (e : h'[p + 4]? = some (.lst ((meas ps).map λm=>.int m.en)))=>fx _ _ h' e
 have f5:=λ(h' : AH) (e : h'[p + 5]? = some (.lst ((meas ps).map λm=>.int m.lv)))=>fx _ _ h' e
 have f6:=λ(h' : AH) (e : h'[p + 6]? = some (.lst ((meas ps).map λm=>.int m.ht)))=>fx _ _ h' e
 have f7:=λ(h' : AH) (e : h'[p + 7]? = some (.lst ((meas ps).map λm=>.int m.fl)))=>fx _ _ h' e
 have f8:=λ(h' : AH) (e : h'[p + 8]? = some (.lst ((meas ps).map λm=>.int m.ll)))=>fx _ _ h' e
 have hmax : ∀ i j : Int,(if j > i then j else i) = max i j:=λi j=>by split<;>lia
 simp [ybu,e,S.ob,S.h3,S.h4,S.h5,S.h6,S.h7,S.h8,hm,List.getElem?_set,zbM,ycy,ya4,e2,e3,zao,hs,zai ha,zai hb,zeW ha,zeW hb,-fIx,-List.getElem?_eq_getElem,-List.getD_eq_getElem?_getD,f3,f4,f5,f6,f7,f8,hmax]
theorem zcE {h : AH} {p : Nat} {ps : List Pc} {x : Str} {i : Nat} (S : ShelfAt h p ps) (nd : ps.Nodup) (hx : ybc x = true) (hl : x.length <= sizeLine) (e : ps[i]? = some (.leaf x)) : yay [.ref p,.str x] h = .ok (.int ((i + 1 : Nat) : Int)) h:=by
 have t:=zck (k:=1) nd e
 have t' : valA (tab ps) (.tup [.str "leaf",.str x]) = some (.int ((i + 1 : Nat) : Int)):=by rw [Nat.add_comm]; exact t
 simp [yay,zcW x h hl,hx,S.ob,S.h2,t']
theorem zcF {h : AH} {p : Nat} {ps : List Pc} {x : Str} (S : ShelfAt h p ps) (hx : ybc x = true) (hl : x.length <= sizeLine) (hq : Pc.leaf x ∉ ps) (hz : ps.length < 16000000) : yay [.ref p,.str x] h = .ok (.int ((ps.length + 1 : Nat) : Int)) (ya4 h p (ps++[.leaf x])):=by
 have t : valA (tab ps) (.tup [.str "leaf",.str x]) = none:=zbu (q:=.leaf x) (k:=1) hq
 have S2:=za4 (ps' := ps++[.leaf x]) S
 have e:=zgs S hq hz
 have t2 : valA (tab (ps++[.leaf x])) (.tup [.str "leaf",.str x]) = some (.int ((ps.length + 1 : Nat) : Int)):=by
  unfold tab
  rw [zaI]
  unfold valA at t ⊢
  rw [List.find?_append]
  have t3 : (ybh 1 ps).find? (λp=>decide (p.1 = .tup [.str "leaf",.str x])) = none:=by simpa [tab] using t
  rw [t3]
  simp [Pc.av,Nat.add_comm]
 have e' : ybv [.ref p,.tup [.str "leaf",.str x]] h = .ok .non (ya4 h p (ps++[.leaf x])):=e
 simp [yay,zcW x h hl,hx,S.ob,S.h2,t,e',S2.ob,S2.h2,t2]
theorem zd0 {h : AH} {p : Nat} {ps : List Pc} {a b : Nat} {ma mb la fb : Ms} (S : ShelfAt h p ps) (ha : (meas ps)[a]? = some ma) (hb : (meas ps)[b]? = some mb) (pa : 1 <= a) (pb : 1 <= b) (hla : (meas ps)[ma.ll]? = some la) (hfb : (meas ps)[mb.fl]? = some fb) :
  yas [.ref p,.int a,.int b] h = if la.sg + fb.sg <= 8 then .ex yfF h else if 1 < (ma.ht - mb.ht).natAbs then .ex yeV h else if 1000000000000000000 < ma.sg + mb.sg then .ex yeW h else .ok .non h:=by
 have la_:=(List.getElem?_eq_some_iff.mp ha).1
 have lb_:=(List.getElem?_eq_some_iff.mp hb).1
 rw [zao] at la_ lb_
 have c1:=zbv S (i:=(a : Int)) ⟨by lia,by lia⟩
 have c2:=zbv S (i:=(b : Int)) ⟨by lia,by lia⟩
 by_cases d1 : la.sg + fb.sg <= 8
 ·have d1' : ((la.sg : Int) + fb.sg) <= 8:=by lia
  simp [yas,c1,c2,S.ob,S.h3,S.h5,S.h6,S.h7,S.h8,zai ha,zai hb,zai hla,zai hfb,d1,d1']
 ·have d1' : ¬ ((la.sg : Int) + fb.sg) <= 8:=by lia
  by_cases d2 : 1 < (ma.ht - mb.ht).natAbs
  ·have d2' : (1 : Int) < (if ma.ht - mb.ht < 0 then -(ma.ht - mb.ht) else ma.ht - mb.ht):=by split<;>lia
   simp [yas,c1,c2,S.ob,S.h3,S.h5,S.h6,S.h7,S.h8,zai ha,zai hb,zai hla,zai hfb,d1,d1',d2,d2',-Int.neg_sub]
  ·have d2' : ¬ (1 : Int) < (if ma.ht - mb.ht < 0 then -(ma.ht - mb.ht) else ma.ht - mb.ht):=by split<;>lia
   by_cases d3 : 1000000000000000000 < ma.sg + mb.sg
   ·have d3' : (1000000000000000000 : Int) < (ma.sg : Int) + mb.sg:=by lia
    simp [yas,c1,c2,S.ob,S.h3,S.h5,S.h6,S.h7,S.h8,zai ha,zai hb,zai hla,zai hfb,d1,d1',d2,d2',d3,d3',-Int.neg_sub]
   ·have d3' : ¬ (1000000000000000000 : Int) < (ma.sg : Int) + mb.sg:=by lia
    simp [yas,c1,c2,S.ob,S.h3,S.h5,S.h6,S.h7,S.h8,zai ha,zai hb,zai hla,zai hfb,d1,d1',d2,d2',d3,d3',-Int.neg_sub]
structure ForkOk (ps : List Pc) (a b : Nat) : Prop where
 pa : 1 <= a
 pb : 1 <= b
 ex : ∃ ma mb la fb,(meas ps)[a]? = some ma /\ (meas ps)[b]? = some mb /\ (meas ps)[ma.ll]? = some la /\ (meas ps)[mb.fl]? = some fb /\ 8 < la.sg + fb.sg /\ (ma.ht - mb.ht).natAbs <= 1 /\ ma.sg + mb.sg <= 1000000000000000000
theorem zca {h : AH} {p : Nat} {ps : List Pc} {a b : Nat} (S : ShelfAt h p ps) (F : ForkOk ps a b) : yas [.ref p,.int a,.int b] h = .ok .non h:=by
 obtain ⟨ma,mb,la,fb,h1,h2,h3,h4,h5,h6,h7⟩:=F.ex
 rw [zd0 S h1 h2 F.pa F.pb h3 h4,if_neg (by lia),if_neg (by lia),if_neg (by lia)]
theorem zcG {h : AH} {p : Nat} {ps : List Pc} {a b i : Nat} (S : ShelfAt h p ps) (nd : ps.Nodup) (F : ForkOk ps a b) (e : ps[i]? = some (.fork a b)) : yax [.ref p,.int a,.int b] h = .ok (.int ((i + 1 : Nat) : Int)) h:=by
 have t:=zck (k:=1) nd e
 have t' : valA (tab ps) (.tup [.str "fork",.int a,.int b]) = some (.int ((i + 1 : Nat) : Int)):=by rw [Nat.add_comm]; exact t
 simp [yax,zca S F,S.ob,S.h2,t']
theorem zcH {h : AH} {p : Nat} {ps : List Pc} {a b : Nat} (S : ShelfAt h p ps) (F : ForkOk ps a b) (hq : Pc.fork a b ∉ ps) (hz : ps.length < 16000000) : yax [.ref p,.int a,.int b] h = .ok (.int ((ps.length + 1 : Nat) : Int)) (ya4 h p (ps++[.fork a b])):=by
 have t : valA (tab ps) (.tup [.str "fork",.int a,.int b]) = none:=zbu (q:=.fork a b) (k:=1) hq
 have S2:=za4 (ps' := ps++[.fork a b]) S
 obtain ⟨ma,mb,la,fb,h1,h2,_⟩:=F.ex
 have e:=zgt S hq hz h1 h2
 have t2 : valA (tab (ps++[.fork a b])) (.tup [.str "fork",.int a,.int b]) = some (.int ((ps.length + 1 : Nat) : Int)):=by
  unfold tab
  rw [zaI]
  unfold valA at t ⊢
  rw [List.find?_append]
  have t3 : (ybh 1 ps).find? (λp=>decide (p.1 = .tup [.str "fork",.int a,.int b])) = none:=by simpa [tab] using t
  rw [t3]
  simp [Pc.av,Nat.add_comm]
 have e' : ybu [.ref p,.tup [.str "fork",.int a,.int b]] h = .ok .non (ya4 h p (ps++[.fork a b])):=e
 simp [yax,zca S F,S.ob,S.h2,t,e',S2.ob,S2.h2,t2]
def ycz (n : Nat) : List AO:=[.ins 0 [some (.ref (n + 1)),some (.ref (n + 2)),some (.ref (n + 3)),some (.ref (n + 4)),some (.ref (n + 5)),some (.ref (n + 6)),some (.ref (n + 7)),some (.ref (n + 8))],.lst [],.dct true [],.lst [.int 0],.lst [.int 0],.lst [.int 0],.lst [.int (-1)],.lst [.int 0],.lst [.int 0]]
theorem ziC {h : AH} {o o' : AO} {r : AH} : (h++o :: r).set h.length o' = h++o' :: r:=by
 induction h with
 | nil=>rfl
 | cons x t ih=>simp [ih]
theorem yeE (en : En) (h : AH) : ycG 0 8 ya2 sNil en h = .ok (.ref h.length) (h++ycz h.length):=by
 simp [ya2,ycz,List.getElem?_append,ziC]
theorem yfq {h r : AH} {k : Nat} : (h++r)[h.length + k]? = r[k]? := by
 rw [List.getElem?_append_right (by lia)]; simp
theorem yfr (h r : AH) : ShelfAt (h++(ycz h.length++r)) h.length []:=by
 refine ⟨?_,?_,?_,?_,?_,?_,?_,?_,?_⟩
 ·rw [show h.length = h.length + 0 from rfl,yfq]; rfl
 all_goals (rw [yfq]; rfl)
theorem zcX (x : Str) (c i : Nat) (hi : i < x.length) : Builtin.Str.subAt x ⟨#[c]⟩ i = decide (x.cps.toList[i]? = some c):=by
 have hi' : i < x.cps.size:=hi
 unfold Builtin.Str.subAt
 have e : x.cps.extract i (i + 1) = #[x.cps[i]]:=by
  apply Array.ext
  ·simp; lia
  ·intro j h1 h2
   have : j = 0:=by simp at h2; lia
   subst this
   simp
 show (x.cps.extract i (i + 1) == #[c]) = _
 rw [e]
 have : x.cps.toList[i]? = some x.cps[i]:=by simp [hi']
 rw [this]
 by_cases q : x.cps[i] = c
 ·simp [q]
 ·simp [q]
theorem yd8 (x : Str) (c : Nat) : ∀ (n i : Nat) (st : Array Nat × Nat),i + n = x.length + 1 -> st.2 <= i -> st.1.size <= i -> (forIn (List.range' i n) st (StrLaws.occBody x ⟨#[c]⟩ x.length (x.length + 1))).run.fst.size = st.1.size + (x.cps.toList.drop i).count c
 | 0,i,st,hn,_,_=>by
  rw [List.drop_of_length_le (by simp; simp only [Str.length] at hn; lia)]
  simp
 | n + 1,i,st,hn,h2,h3=>by
  rw [List.range'_succ,List.forIn_cons]
  unfold StrLaws.occBody
  by_cases hi : i < x.length
  ·have hi' : i < x.cps.size:=hi
   have hd : x.cps.toList.drop i = x.cps[i]'hi' :: x.cps.toList.drop (i + 1):=by
    rw [List.drop_eq_getElem_cons (show i < x.cps.toList.length by simpa using hi')]; simp
   have hg : x.cps.toList[i]? = some (x.cps[i]'hi'):=by
    simp [hi']
   by_cases q : x.cps[i]'hi' = c
   ·have hs : Builtin.Str.subAt x ⟨#[c]⟩ i = true:=by rw [zcX x c i hi,hg,q]; simp
    rw [if_pos ⟨⟨⟨by lia,h2⟩,hi⟩,hs⟩]
    show (forIn (List.range' (i + 1) n) (st.1.push i,i + 1) (StrLaws.occBody x ⟨#[c]⟩ x.length (x.length + 1))).run.fst.size = _
    rw [yd8 x c n (i + 1) _ (by lia) (Nat.le_refl _) (by simp; lia),hd,q]
    simp; lia
   ·have hs : Builtin.Str.subAt x ⟨#[c]⟩ i = false:=by rw [zcX x c i hi,hg]; simp [q]
    rw [if_neg (by simp [hs])]
    show (forIn (List.range' (i + 1) n) (st.1,st.2) (StrLaws.occBody x ⟨#[c]⟩ x.length (x.length + 1))).run.fst.size = _
    rw [yd8 x c n (i + 1) _ (by lia) (by show st.2 <= i + 1; lia) (by show st.1.size <= i + 1; lia),hd]
    simp [q]
  ·rw [if_neg (by rintro ⟨⟨_,z⟩,_⟩; exact hi z)]
   show (forIn (List.range' (i + 1) n) (st.1,st.2) (StrLaws.occBody x ⟨#[c]⟩ x.length (x.length + 1))).run.fst.size = _
   rw [yd8 x c n (i + 1) _ (by lia) (by show st.2 <= i + 1; lia) (by show st.1.size <= i + 1; lia)]
   rw [List.drop_of_length_le (by simp; simp only [Str.length] at hi; lia),List.drop_of_length_le (by simp; simp only [Str.length] at hi; lia)]
theorem zdl (x : Str) (c : Nat) : (Builtin.Str.occurrences x ⟨#[c]⟩ 0 x.length (x.length + 1)).length = x.cps.toList.count c:=by
 rw [StrLaws.occ_eq,Array.length_toList]
 rw [show x.length + 1 - 0 = x.length + 1 from rfl,yd8 x c (x.length + 1) 0 _ (by lia) (Nat.le_refl _) (by simp)]
 simp
theorem zbw (x : Str) : ycM x = x.cps.toList.count 10:=zdl x 10
theorem zah (x y : Str) : (x++y).cps.toList = x.cps.toList++y.cps.toList:=by
 show (x.cps++y.cps).toList = _
 simp
theorem zhr (x y : Str) : ycM (x++y) = ycM x + ycM y:=by
 rw [zbw,zbw,zbw,zah,List.count_append]
theorem zak (x : Str) : x.length = x.cps.toList.length:=by simp [Str.length]
theorem zbY (x y : Str) : (x++y).length = x.length + y.length:=by
 rw [zak,zak,zak,zah,List.length_append]
def ydu (rs : List Str) : Pc -> Str
 | .leaf x=>x
 | .fork a b=>rs.getD a "" ++ rs.getD b ""
def reads (ps : List Pc) : List Str:=ps.foldl (λrs q=>rs++[ydu rs q]) [""]
theorem zft (ps : List Pc) (q : Pc) : reads (ps++[q]) = reads ps++[ydu (reads ps) q]:=by simp [reads]
theorem zbx {α β : Type} (g : List β -> α -> β) : ∀ (qs : List α) (ms : List β),∃ r,qs.foldl (λms q=>ms++[g ms q]) ms = ms++r /\ r.length = qs.length
 | [],ms=>⟨[],by simp,rfl⟩
 | q :: qs,ms=>by
  obtain ⟨r,e,l⟩:=zbx g qs (ms++[g ms q])
  exact ⟨g ms q :: r,by rw [List.foldl_cons,e]; simp,by simp [l]⟩
theorem zbb (ps : List Pc) : (reads ps).length = ps.length + 1:=by
 obtain ⟨r,e,l⟩:=zbx ydu ps [""]
 rw [reads,e]; simp [l,Nat.add_comm]
theorem zhs (ps qs : List Pc) : ∃ r,meas (ps++qs) = meas ps++r:=by
 unfold meas
 rw [List.foldl_append]
 obtain ⟨r,e,_⟩:=zbx ycy qs (ps.foldl (λms q=>ms++[ycy ms q]) [ms0])
 exact ⟨r,e⟩
theorem zgu (ps qs : List Pc) : ∃ r,reads (ps++qs) = reads ps++r:=by
 unfold reads
 rw [List.foldl_append]
 obtain ⟨r,e,_⟩:=zbx ydu qs (ps.foldl (λms q=>ms++[ydu ms q]) [""])
 exact ⟨r,e⟩
theorem zat {ps ps' : List Pc} (h : ps <+: ps') {n : Nat} {m : Ms} (e : (meas ps)[n]? = some m) : (meas ps')[n]? = some m:=by
 obtain ⟨qs,rfl⟩:=h
 obtain ⟨r,q⟩:=zhs ps qs
 rw [q,List.getElem?_append_left (List.getElem?_eq_some_iff.mp e).1]; exact e
theorem zbc {ps ps' : List Pc} (h : ps <+: ps') {n : Nat} {m : Str} (e : (reads ps)[n]? = some m) : (reads ps')[n]? = some m:=by
 obtain ⟨qs,rfl⟩:=h
 obtain ⟨r,q⟩:=zgu ps qs
 rw [q,List.getElem?_append_left (List.getElem?_eq_some_iff.mp e).1]; exact e
theorem zht (ps : List Pc) (i : Nat) : ps.take i <+: ps:=List.take_prefix i ps
theorem zd1 {ps : List Pc} {i : Nat} {q : Pc} (e : ps[i]? = some q) : (ps.take i++[q]) <+: ps /\ (ps.take i).length = i:=by
 have hi:=(List.getElem?_eq_some_iff.mp e).1
 have : ps.take (i + 1) = ps.take i++[q]:=by
  rw [List.take_succ,e]; rfl
 exact ⟨this ▸ List.take_prefix _ _,by simp; lia⟩
theorem zeX {ps : List Pc} {i : Nat} {q : Pc} (e : ps[i]? = some q) : (meas ps)[i + 1]? = some (ycy (meas (ps.take i)) q):=by
 obtain ⟨h,l⟩:=zd1 e
 refine zat h ?_
 rw [zbM,List.getElem?_append_right (by rw [zao,l]; lia),zao,l]
 simp
theorem zd2 {ps : List Pc} {i : Nat} {q : Pc} (e : ps[i]? = some q) : (reads ps)[i + 1]? = some (ydu (reads (ps.take i)) q):=by
 obtain ⟨h,l⟩:=zd1 e
 refine zbc h ?_
 rw [zft,List.getElem?_append_right (by rw [zbb,l]; lia),zbb,l]
 simp
def PcOk (ps : List Pc) : Pc -> Prop
 | .leaf x=>ybc x = true
 | .fork a b=>ForkOk ps a b
inductive Good : List Pc -> Prop
 | nil : Good []
 | snoc {ps : List Pc} {q : Pc} : Good ps -> q ∉ ps -> PcOk ps q -> Good (ps++[q])
theorem Good.nodup {ps : List Pc} (g : Good ps) : ps.Nodup:=by
 induction g with
 | nil=>exact List.nodup_nil
 | snoc g n ok ih=>exact List.nodup_append.mpr ⟨ih,by simp,λa ha b hb=>by simp at hb; subst hb; exact λe=>n (e ▸ ha)⟩
theorem Good.get {ps : List Pc} (g : Good ps) : ∀ {i : Nat} {q : Pc},ps[i]? = some q -> PcOk (ps.take i) q:=by
 induction g with
 | nil=>intro i q e; simp at e
 | @snoc ps q' g n ok ih =>
  intro i q e
  by_cases hi : i < ps.length
  ·rw [List.getElem?_append_left hi] at e
   rw [List.take_append_of_le_length (by lia)]
   exact ih e
  ·have hi2 : i = ps.length:=by
    have:=(List.getElem?_eq_some_iff.mp e).1
    simp at this; lia
   subst hi2
   simp at e
   subst e
   simpa using ok
theorem ForkOk.pre {ps ps' : List Pc} {a b : Nat} (F : ForkOk ps a b) (h : ps <+: ps') : ForkOk ps' a b:=by
 obtain ⟨ma,mb,la,fb,h1,h2,h3,h4,h5⟩:=F.ex
 exact ⟨F.pa,F.pb,ma,mb,la,fb,zat h h1,zat h h2,zat h h3,zat h h4,h5⟩
structure Ky (ps : List Pc) (m : Ms) (x : Str) (f l : Ms) : Prop where
 fl : (meas ps)[m.fl]? = some f
 ll : (meas ps)[m.ll]? = some l
 sg : m.sg = x.length
 en : m.en = ycM x
 f1 : 1 <= f.sg
 f8 : f.sg <= 8
 l1 : 1 <= l.sg
 l8 : l.sg <= 8
 lv : 1 <= m.lv
 ht : 0 <= m.ht
 most : m.sg <= 1000000000000000000
 cnt : ∃ k,(m.lv = 2 * k + 1 /\ 9 * k + f.sg <= m.sg /\ 9 * k + l.sg <= m.sg) \/ (m.lv = 2 * k + 2 /\ 9 * k + 9 <= m.sg /\ 9 * k + f.sg + l.sg <= m.sg)
 pl : yaT x = true
structure Tx (ps : List Pc) (n : Nat) (m : Ms) (x : Str) (f l : Ms) : Prop where
 n1 : 1 <= n
 ms : (meas ps)[n]? = some m
 rd : (reads ps)[n]? = some x
 ky : Ky ps m x f l
theorem Ky.pre {ps ps' : List Pc} {m : Ms} {x : Str} {f l : Ms} (k : Ky ps m x f l) (h : ps <+: ps') : Ky ps' m x f l :=
 { k with fl:=zat h k.fl,ll:=zat h k.ll }
theorem Tx.pre {ps ps' : List Pc} {n : Nat} {m : Ms} {x : Str} {f l : Ms} (k : Tx ps n m x f l) (h : ps <+: ps') : Tx ps' n m x f l :=
 ⟨k.n1,zat h k.ms,zbc h k.rd,k.ky.pre h⟩
theorem Tx.le {ps : List Pc} {n : Nat} {m : Ms} {x : Str} {f l : Ms} (k : Tx ps n m x f l) : n <= ps.length:=by
 have:=(List.getElem?_eq_some_iff.mp k.ms).1
 rw [zao] at this; lia
def yd9 (ma mb : Ms) : Ms:=⟨ma.sg + mb.sg,ma.en + mb.en,ma.lv + mb.lv,max ma.ht mb.ht + 1,ma.fl,mb.ll⟩
theorem zgv (x y : Str) : yaT (x++y) = (yaT x && yaT y):=by unfold yaT; rw [zah,List.all_append]
theorem kf1 {n n' s s' f l f' l' : Nat} (a : ∃ k,(n = 2 * k + 1 /\ 9 * k + f <= s /\ 9 * k + l <= s) \/ (n = 2 * k + 2 /\ 9 * k + 9 <= s /\ 9 * k + f + l <= s)) (b : ∃ k,(n' = 2 * k + 1 /\ 9 * k + f' <= s' /\ 9 * k + l' <= s') \/ (n' = 2 * k + 2 /\ 9 * k + 9 <= s' /\ 9 * k + f' + l' <= s')) (hs : 8 < l + f') :
  ∃ k,(n + n' = 2 * k + 1 /\ 9 * k + f <= s + s' /\ 9 * k + l' <= s + s') \/ (n + n' = 2 * k + 2 /\ 9 * k + 9 <= s + s' /\ 9 * k + f + l' <= s + s'):=by
 obtain ⟨k,⟨rfl,a1,a2⟩ | ⟨rfl,a1,a2⟩⟩:=a<;>obtain ⟨k',⟨rfl,b1,b2⟩ | ⟨rfl,b1,b2⟩⟩:=b
 ·exact ⟨k + k',.inr ⟨by lia,by lia,by lia⟩⟩
 ·exact ⟨k + k' + 1,.inl ⟨by lia,by lia,by lia⟩⟩
 ·exact ⟨k + k' + 1,.inl ⟨by lia,by lia,by lia⟩⟩
 ·exact ⟨k + k' + 1,.inr ⟨by lia,by lia,by lia⟩⟩
theorem Ky.sg1 {ps : List Pc} {m : Ms} {x : Str} {f l : Ms} (k : Ky ps m x f l) : 1 <= m.sg:=by
 have f1:=k.f1
 obtain ⟨k,⟨_,a,_⟩ | ⟨_,a,_⟩⟩:=k.cnt
 ·exact Nat.le_trans f1 (Nat.le_trans (Nat.le_add_left _ _) a)
 ·exact Nat.le_trans (Nat.le_add_left 1 (9 * k + 8)) a
theorem Ky.fork {ps : List Pc} {ma mb fa la fb lb : Ms} {x y : Str} (A : Ky ps ma x fa la) (B : Ky ps mb y fb lb) (hs : 8 < la.sg + fb.sg) (hm : ma.sg + mb.sg <= 1000000000000000000) : Ky ps (yd9 ma mb) (x++y) fa lb:=by
 have k:=kf1 A.cnt B.cnt hs
 refine ⟨A.fl,B.ll,?_,?_,A.f1,A.f8,B.l1,B.l8,Nat.le_trans A.lv (Nat.le_add_right _ _),?_,hm,k,?_⟩
 ·show ma.sg + mb.sg = _; rw [zbY,A.sg,B.sg]
 ·show ma.en + mb.en = _; rw [zhr,A.en,B.en]
 ·have a4:=A.ht
  show 0 <= max ma.ht mb.ht + 1
  clear k hs hm; lia
 ·rw [zgv,A.pl,B.pl]; rfl
theorem zaU {x : Str} (h : ybc x = true) : 1 <= x.length /\ x.length <= 8 /\ yaT x = true:=by
 simp [ybc] at h; exact ⟨h.2.1,h.2.2,h.1⟩
theorem zbd {α : Type} {l : List α} {i : Nat} {d x : α} (e : l[i]? = some x) : l.getD i d = x:=by simp [List.getD,e]
def lfMs (x : Str) (n : Nat) : Ms:=⟨x.length,ycM x,1,0,n,n⟩
theorem zeY {ps : List Pc} (g : Good ps) {i : Nat} {x : Str} (e : ps[i]? = some (.leaf x)) : Tx ps (i + 1) (lfMs x (i + 1)) x (lfMs x (i + 1)) (lfMs x (i + 1)):=by
 have hi:=(List.getElem?_eq_some_iff.mp e).1
 have ok : ybc x = true:=g.get e
 obtain ⟨s1,s2,s3⟩:=zaU ok
 have li : (ps.take i).length = i:=by simp; lia
 have ml : (meas (ps.take i)).length = i + 1:=by rw [zao,li]
 have e1' : (meas ps)[i + 1]? = some (lfMs x (i + 1)):=by rw [zeX e]; simp only [ycy,lfMs]; rw [ml]
 exact ⟨by lia,e1',zd2 e,⟨e1',e1',rfl,rfl,s1,s2,s1,s2,Nat.le_refl 1,Int.le_refl 0,by show x.length <= _; lia,⟨0,.inl ⟨rfl,Nat.le_of_eq (Nat.zero_add _),Nat.le_of_eq (Nat.zero_add _)⟩⟩,s3⟩⟩
theorem zeZ {ps : List Pc} (g : Good ps) {i a b : Nat} {ma mb fa la fb lb : Ms} {x y : Str} (e : ps[i]? = some (.fork a b)) (A : Tx ps a ma x fa la) (B : Tx ps b mb y fb lb) : Tx ps (i + 1) (yd9 ma mb) (x++y) fa lb:=by
 have hi:=(List.getElem?_eq_some_iff.mp e).1
 have ok' : ForkOk (ps.take i) a b:=g.get e
 have li : (ps.take i).length = i:=by simp; lia
 have tp:=zht ps i
 obtain ⟨ma',mb',la',fb',q1,q2,q3,q4,q5,q6,q7⟩:=ok'.ex
 have ba:=(List.getElem?_eq_some_iff.mp q1).1
 have bb:=(List.getElem?_eq_some_iff.mp q2).1
 rw [zao,li] at ba bb
 have z1:=A.ms.symm.trans (zat tp q1); cases z1
 have z2:=B.ms.symm.trans (zat tp q2); cases z2
 have z3:=A.ky.ll.symm.trans (zat tp q3); cases z3
 have z4:=B.ky.fl.symm.trans (zat tp q4); cases z4
 have r1 : (reads (ps.take i))[a]? = some x:=by
  obtain ⟨w,ew⟩ : ∃ w,(reads (ps.take i))[a]? = some w:=⟨(reads (ps.take i))[a]'(by rw [zbb,li]; lia),by simp⟩
  have:=(zbc tp ew).symm.trans A.rd; cases this; exact ew
 have r2 : (reads (ps.take i))[b]? = some y:=by
  obtain ⟨w,ew⟩ : ∃ w,(reads (ps.take i))[b]? = some w:=⟨(reads (ps.take i))[b]'(by rw [zbb,li]; lia),by simp⟩
  have:=(zbc tp ew).symm.trans B.rd; cases this; exact ew
 refine ⟨by lia,?_,?_,A.ky.fork B.ky q5 q7⟩
 ·rw [zeX e]; simp only [ycy,zbd q1,zbd q2]; rfl
 ·rw [zd2 e]; simp only [ydu,zbd r1,zbd r2]
structure Dd (p : Nat) (h h' : AH) (ps ps' : List Pc) (k : Nat) : Prop where
 sh : ShelfAt h' p ps'
 gd : Good ps'
 pre : ps <+: ps'
 len : ps'.length <= ps.length + k
 fr : ∀ i,i <= p \/ p + 8 < i -> h'[i]? = h[i]?
 hl : h'.length = h.length
theorem zgw {h : AH} {p : Nat} {ps : List Pc} {x : Str} (S : ShelfAt h p ps) (g : Good ps) (hx : ybc x = true) (hz : ps.length < 16000000) :
  ∃ (n : Nat) (ps' : List Pc) (h' : AH),yay [.ref p,.str x] h = .ok (.int n) h' /\ Dd p h h' ps ps' 1 /\ Tx ps' n (lfMs x n) x (lfMs x n) (lfMs x n):=by
 obtain ⟨s1,s2,s3⟩:=zaU hx
 have hs : x.length <= sizeLine:=Nat.le_trans s2 (by decide)
 by_cases hq : Pc.leaf x ∈ ps
 ·obtain ⟨i,hi,e⟩:=List.getElem_of_mem hq
  have e' : ps[i]? = some (.leaf x):=by rw [List.getElem?_eq_getElem hi,e]
  exact ⟨i + 1,ps,h,zcE S g.nodup hx hs e',⟨S,g,List.prefix_refl _,by lia,λ_ _=>rfl,rfl⟩,zeY g e'⟩
 ·have g' : Good (ps++[.leaf x]):=.snoc g hq hx
  have e' : (ps++[Pc.leaf x])[ps.length]? = some (.leaf x):=by simp
  exact ⟨ps.length + 1,_,_,zcF S hx hs hq hz,⟨za4 S,g',List.prefix_append _ _,by simp,λi hi=>zcl hi,zdk _ _ _⟩,zeY g' e'⟩
theorem zdm {h : AH} {p : Nat} {ps : List Pc} {a b : Nat} {ma mb fa la fb lb : Ms} {x y : Str} (S : ShelfAt h p ps) (g : Good ps) (A : Tx ps a ma x fa la) (B : Tx ps b mb y fb lb) (hc : 8 < la.sg + fb.sg) (hv : (ma.ht - mb.ht).natAbs <= 1) (hm : ma.sg + mb.sg <= 1000000000000000000) (hz : ps.length < 16000000) :
  ∃ (n : Nat) (ps' : List Pc) (h' : AH),yax [.ref p,.int a,.int b] h = .ok (.int n) h' /\ Dd p h h' ps ps' 1 /\ Tx ps' n (yd9 ma mb) (x++y) fa lb:=by
 have F : ForkOk ps a b:=⟨A.n1,B.n1,ma,mb,la,fb,A.ms,B.ms,A.ky.ll,B.ky.fl,hc,hv,hm⟩
 by_cases hq : Pc.fork a b ∈ ps
 ·obtain ⟨i,hi,e⟩:=List.getElem_of_mem hq
  have e' : ps[i]? = some (.fork a b):=by rw [List.getElem?_eq_getElem hi,e]
  exact ⟨i + 1,ps,h,zcG S g.nodup F e',⟨S,g,List.prefix_refl _,by lia,λ_ _=>rfl,rfl⟩,zeZ g e' A B⟩
 ·have g' : Good (ps++[.fork a b]):=.snoc g hq F
  have e' : (ps++[Pc.fork a b])[ps.length]? = some (.fork a b):=by simp
  have pr : ps <+: ps++[Pc.fork a b]:=List.prefix_append _ _
  exact ⟨ps.length + 1,_,_,zcH S F hq hz,⟨za4 S,g',pr,by simp,λi hi=>zcl hi,zdk _ _ _⟩,zeZ g' e' (A.pre pr) (B.pre pr)⟩
theorem ShelfAt.keep {h h' : AH} {p : Nat} {ps : List Pc} (S : ShelfAt h p ps) (e : ∀ i,p <= i -> i <= p + 8 -> h'[i]? = h[i]?) : ShelfAt h' p ps:=by
 have k : ∀ j,j <= 8 -> h'[p + j]? = h[p + j]? := λj hj=>e _ (Nat.le_add_right p j) (Nat.add_le_add_left hj p)
 exact ⟨(k 0 (by decide)).trans S.ob,(k 1 (by decide)).trans S.h1,(k 2 (by decide)).trans S.h2,(k 3 (by decide)).trans S.h3,(k 4 (by decide)).trans S.h4,(k 5 (by decide)).trans S.h5,(k 6 (by decide)).trans S.h6,(k 7 (by decide)).trans S.h7,(k 8 (by decide)).trans S.h8⟩
theorem ShelfAt.app {h : AH} {p : Nat} {ps : List Pc} (S : ShelfAt h p ps) (r : AH) : ShelfAt (h++r) p ps:=by
 have:=ybF S.h8
 exact S.keep λi _ b=>List.getElem?_append_left (Nat.lt_of_le_of_lt b this)
theorem zcY {h : AH} {st : Nat} {n m : Int} (e : h[st]? = some (.lst [.int n])) (hm : 0 < m) (hm2 : m.natAbs < 2 ^ 200) : yai [.ref st,.int m] h = .ok (.int (n % m)) (h.set st (.lst [.int (n / m)])):=by
 have a0 : atI [AV.int n] 0 = some (.int n):=rfl
 have i0 : ixN 1 0 = some 0:=rfl
 have hm3 : m.natAbs < 1606938044258990275541962092341162602522202993782792835301376:=by simpa using hm2
 simp [yai,e,a0,hm,hm3,i0]
structure Wk (p r : Nat) (h h' : AH) (ps ps' : List Pc) (k : Nat) : Prop where
 sh : ShelfAt h' p ps'
 gd : Good ps'
 pre : ps <+: ps'
 len : ps'.length <= ps.length + k
 row : ∃ N : Int,h'[r]? = some (.lst [.int N])
 fr : ∀ i,i <= p \/ p + 8 < i -> i ≠ r -> h'[i]? = h[i]?
 hl : h'.length = h.length
theorem Wk.refl {p r : Nat} {h : AH} {ps : List Pc} (S : ShelfAt h p ps) (g : Good ps) (e : ∃ N : Int,h[r]? = some (.lst [.int N])) : Wk p r h h ps ps 0 :=
 ⟨S,g,List.prefix_refl _,by lia,e,λ_ _ _=>rfl,rfl⟩
theorem Wk.trans {p r : Nat} {h h' h'' : AH} {ps ps' ps'' : List Pc} {k k' k2 : Nat} (a : Wk p r h h' ps ps' k) (b : Wk p r h' h'' ps' ps'' k') (hk : k + k' <= k2) : Wk p r h h'' ps ps'' k2 :=
 ⟨b.sh,b.gd,a.pre.trans b.pre,by have:=a.len; have:=b.len; lia,b.row,λi hi hr=>(b.fr i hi hr).trans (a.fr i hi hr),b.hl.trans a.hl⟩
theorem Wk.deed {p r : Nat} {h h' h'' : AH} {ps ps' ps'' : List Pc} {k k' k2 : Nat} (a : Wk p r h h' ps ps' k) (b : Dd p h' h'' ps' ps'' k') (hr : r < p \/ p + 8 < r) (hk : k + k' <= k2) : Wk p r h h'' ps ps'' k2 :=
 a.trans ⟨b.sh,b.gd,b.pre,b.len,by rw [b.fr r (by lia)]; exact a.row,λi hi _=>b.fr i hi,b.hl⟩ hk
theorem Wk.set {p r : Nat} {h : AH} {ps : List Pc} (S : ShelfAt h p ps) (g : Good ps) {n : Int} (hl : r < h.length) (hr : r < p \/ p + 8 < r) : Wk p r h (h.set r (.lst [.int n])) ps ps 0 :=
 ⟨S.keep λi h1 h2=>List.getElem?_set_ne (by lia),g,List.prefix_refl _,by lia,⟨n,List.getElem?_set_self hl⟩,λi _ hi=>List.getElem?_set_ne (by lia),by simp⟩
theorem zau {p r : Nat} {h : AH} {ps : List Pc} (S : ShelfAt h p ps) (g : Good ps) (e : ∃ N : Int,h[r]? = some (.lst [.int N])) (hr : r < p \/ p + 8 < r) (m : Nat) (hm : 0 < m) (hm2 : m <= 10 ^ 50) :
  ∃ (v : Nat) (h' : AH),v < m /\ yai [.ref r,.int m] h = .ok (.int v) h' /\ Wk p r h h' ps ps 0:=by
 obtain ⟨N,e⟩:=e
 refine ⟨(N % m).toNat,_,?_,?_,Wk.set (n:=N / m) S g (ybF e) hr⟩
 ·have:=Int.emod_lt_of_pos N (show (0 : Int) < m by lia); have:=Int.emod_nonneg N (show (m : Int) ≠ 0 by lia); lia
 ·rw [zcY e (by lia) (by lia)]
  have:=Int.emod_nonneg N (show (m : Int) ≠ 0 by lia)
  rw [Int.toNat_of_nonneg this]
theorem zd3 : ∀ cs : List Nat,ycC (cs.map λc=>AV.str ⟨#[c]⟩) = some (cs.map λc=>(⟨#[c]⟩ : Str))
 | []=>rfl
 | c :: cs=>by simp [zd3 cs]
theorem yf1 : ∀ cs : List Nat,((cs.map λc=>(⟨#[c]⟩ : Str)).map λx : Str=>x.cps.toList).flatten = cs
 | []=>rfl
 | c :: cs=>by simpa using yf1 cs
theorem ziD {h : AH} {cs : List Nat} (hl : cs.length <= 1000000) : ych (.str "") [.fl (cs.map λc=>AV.str ⟨#[c]⟩)] h = .ok (.str ⟨cs.toArray⟩) h:=by
 have e : (Str.ofString "") = Str.empty:=by decide +kernel
 unfold ych
 simp only [e,if_true,ybi,zd3,yf1]
 rw [if_pos hl]
theorem ziE (c k : Int) (h : AH) : ∃ m,ycx [.int c,.int k] h = .ok (.int m) h:=by
 have b1 : 0 <= (c % 1000000007 + 7919 * k + 1) * 48271 % 2147483647:=Int.emod_nonneg _ (by decide)
 have b2 : (c % 1000000007 + 7919 * k + 1) * 48271 % 2147483647 < 2147483647:=Int.emod_lt_of_pos _ (by decide)
 refine ⟨(c % 1000000007 + 7919 * k + 1) * 48271 % 2147483647 * ((c % 1000000007 + 7919 * k + 1) * 48271 % 2147483647) % 2147483629 * 69621 % 2147483647,?_⟩
 generalize he : (c % 1000000007 + 7919 * k + 1) * 48271 % 2147483647 = v at *
 have c1 : v.natAbs < 18446744073709551616:=by lia
 simp [ycx,he,c1]
theorem yhl {i j : Int} {h : AH} (hi : i.natAbs < 2 ^ 4000) (hj : j.natAbs < 2 ^ 4000) : fMul (.int i) (.int j) h = .ok (.int (i * j)) h:=if_pos (.inr ⟨hi,hj⟩)
theorem zfu (ns : List Int) : ydH (ns.map AV.int) = some ns:=by
 induction ns with
 | nil=>rfl
 | cons n r ih=>simp [ih]
abbrev T60 : Int:=1000000000000000000000000000000000000000000000000000000000000
theorem yhm : (10 : Nat) ^ 780 < 2 ^ 4000:=by decide +kernel
theorem yik : T60.natAbs < 2 ^ 4000:=by decide +kernel
theorem zem (ns : List Int) (k : Nat) (i : Nat) (c : Nat) (o : Option AV) (h : AH) (hi : i < 13) (hc : c < 10 ^ (60 * i)) (hj : k + i * 5 < ns.length) :
  ∃ c' : Nat,c' < 10 ^ (60 * (i + 1)) /\ ybr [some (.fl (ns.map AV.int)),some (.int k),some (.int c),some (.int ((k : Int) + i * 5)),o] h = .nx [some (.fl (ns.map AV.int)),some (.int k),some (.int c'),some (.int ((k : Int) + i * 5)),o] h:=by
 obtain ⟨s,es⟩ : ∃ s,ns[k + i * 5]? = some s:=⟨ns[k + i * 5],by simp [hj]⟩
 have ix : fIx (.fl (ns.map AV.int)) (.int ((k : Int) + i * 5)) h = .ok (.int s) h:=by
  rw [show ((k : Int) + i * 5) = ((k + i * 5 : Nat) : Int) by simp]
  simp only [fIx,zdZ es]
 have p1 : (10 : Nat) ^ (60 * i) <= 10 ^ 780:=Nat.pow_le_pow_right (by decide) (by lia)
 have m1 : ((c : Int)).natAbs < 2 ^ 4000:=by
  have:=yhm
  exact Nat.lt_trans (show c < 10 ^ 780 by lia) this
 have mu : fMul (.int c) (.int T60) h = .ok (.int (c * T60)) h:=yhl m1 yik
 have r0 : 0 <= s % T60:=Int.emod_nonneg _ (by decide)
 have r1 : s % T60 < T60:=Int.emod_lt_of_pos _ (by decide)
 obtain ⟨r,er⟩ : ∃ r : Nat,s % T60 = (r : Int):=⟨(s % T60).toNat,(Int.toNat_of_nonneg r0).symm⟩
 have rl : r < 10 ^ 60:=by
  have : (r : Int) < T60:=er ▸ r1
  have e : T60 = ((10 ^ 60 : Nat) : Int):=by decide +kernel
  rw [e] at this; exact Int.ofNat_lt.mp this
 obtain ⟨c',ec,lc⟩ : ∃ c' : Nat,(c : Int) * T60 + r = (c' : Int) /\ c' < 10 ^ (60 * (i + 1)):=by
  refine ⟨c * 10 ^ 60 + r,?_,?_⟩
  ·have e : T60 = ((10 ^ 60 : Nat) : Int):=by decide +kernel
   rw [e,Int.natCast_add,Int.natCast_mul]
  ·rw [show 60 * (i + 1) = 60 * i + 60 by lia,Nat.pow_add]
   have : (c + 1) * 10 ^ 60 <= 10 ^ (60 * i) * 10 ^ 60:=Nat.mul_le_mul_right _ hc
   have e2 : (c + 1) * 10 ^ 60 = c * 10 ^ 60 + 10 ^ 60:=Nat.succ_mul _ _
   lia
 refine ⟨c',lc,?_⟩
 have pw : fPow (.int 10) (.int 60) h = .ok (.int T60) h:=by simp
 have md : fMod (.int s) (.int T60) h = .ok (.int r) h:=by simp only [fMod]; rw [if_pos (by decide),er]
 clear p1 m1 r0 r1 er rl hc lc hi
 generalize T60 = t60 at *
 simp [ybr,pw,mu,ix,md,ec,-fMul,-fPow,-fIx,-fMod]
theorem zd4 (en0 : Option AV) (ns : List Int) (k c f j : Int) (h : AH) : ∃ f',ybs [some (.fl (ns.map AV.int)),some (.int k),some (.int c),some (.int j),some (.int f)] h = .nx [some (.fl (ns.map AV.int)),some (.int k),some (.int c),some (.int j),some (.int f')] h:=by
 obtain ⟨m,hm⟩:=ziE (c + 1009 * k + ns.length) j h
 refine ⟨f * 2147483647 + m,?_⟩
 have m1 : fMul (.int f) (.int 2147483647) h = .ok (.int (f * 2147483647)) h:=yeC (by decide)
 have m2 : fMul (.int 1009) (.int k) h = .ok (.int (1009 * k)) h:=yd7 (by decide)
 simp [ybs,hm,m1,m2,-fMul]
theorem zcm (ns : List Int) (hl : ns.length <= 63) (k : Nat) (hk : k <= 10) (h : AH) : ∃ N : Int,yaM [.fl (ns.map AV.int),.int k] h = .ok (.ref h.length) (h++[.lst [.int N]]):=by
 obtain ⟨M,eM⟩ : ∃ M : Nat,M = (if (k : Int) < (ns.length : Int) then ((ns.length : Int) - k - 1) / 5 + 1 else 0).toNat:=⟨_,rfl⟩
 have hM : M <= 13 /\ ∀ i,i < M -> k + i * 5 < ns.length:=by
  rw [eM]
  split
  ·refine ⟨by lia,λi hi=>by lia⟩
  ·refine ⟨by lia,λi hi=>by simp at hi⟩
 obtain ⟨e1,h1,r1,r2⟩:=yda (w:=none) (all:=(List.range M).map (λm : Nat=>AV.int ((k : Int) + m * 5))) (t:=.nm 3) (b:=ybr) (xs:=(List.range M).map (λm : Nat=>AV.int ((k : Int) + m * 5))) (en:=[some (.fl (ns.map AV.int)),some (.int k),some (.int 0),none,none]) (h:=h)
  (λi en h' => h' = h /\ ∃ (c : Nat) (o : Option AV),c < 10 ^ (60 * i) /\ en = [some (.fl (ns.map AV.int)),some (.int k),some (.int c),o,none]) ⟨rfl,0,none,by decide,rfl⟩ (λ_ _ _ _=>rfl) (by
   rintro j x en h' hx ⟨rfl,c,o,hc,rfl⟩
   rw [List.getElem?_map] at hx
   obtain ⟨m,em,rfl⟩:=Option.map_eq_some_iff.mp hx
   have hj : j < M:=by
    have:=(List.getElem?_eq_some_iff.mp em).1; simpa using this
   rw [List.getElem?_range hj] at em
   cases em
   obtain ⟨c',l',e⟩:=zem ns k j c none h' (by have:=hM.1; lia) hc (hM.2 j hj)
   show thn (ybr [some (.fl (ns.map AV.int)),some (.int k),some (.int c),some (.int ((k : Int) + j * 5)),none] h') _
   rw [e]
   exact ⟨rfl,c',_,l',rfl⟩)
 obtain ⟨rfl,c,o,hc,rfl⟩:=r2
 have z1 : (k : Int).natAbs < 1099511627776:=by lia
 have z2 : ((ns.length : Nat) : Int).natAbs < 1099511627776:=by lia
 have it3 : ydk (sVar 1) (yad fLen (yaa (sVar 0) sNil)) (sLit (.int 5)) [some (.fl (ns.map AV.int)),some (.int k),some (.int 0),none,none] h1 = .ok ((List.range M).map (λm : Nat=>AV.int ((k : Int) + m * 5)),none) h1:=by
  simp only [ydk,sVar,yad,yaa,sNil,sLit,Out.bind,fLen,List.getElem?_cons_zero,List.getElem?_cons_succ,lenA]
  rw [if_pos ⟨z1,z2,by decide,by decide⟩,<- eM]
 have f1:=(ybU (t:=.nm 3) (b:=ybr) it3).trans r1
 clear r1 it3
 by_cases hb : (1000000000000000000 : Int) <= c
 ·exact ⟨c,by simp [yaM,f1,hb,-sFor]⟩
 ·have cm:=zdX (js:=[]) (en:=[some (.fl (ns.map AV.int)),some (.int k),some (.int c),o,none]) (w:=none) (all:=ns.map AV.int) (e:=sOp2 fMod (sVar 0) (sOp2 fPow (sLit (.int 10)) (sLit (.int 18)))) (g:=AV.int) (f:=λi=>AV.int (i % 1000000000000000000)) (h:=h1) rfl ns [] (by intro i _; simp) (by
    simp only [List.length_nil]; exact Nat.le_trans (show 0 + ns.length <= 63 by lia) (by decide))
  have im : (ns.map λi=>AV.int (i % 1000000000000000000)) = (ns.map λi=>i % 1000000000000000000).map AV.int:=by simp
  obtain ⟨S,eS⟩ : ∃ S : Int,S = (ns.map λi=>i % 1000000000000000000).sum:=⟨_,rfl⟩
  have sm : fSum [.fl (ns.map λi=>AV.int (i % 1000000000000000000))] h1 = .ok (.int S) h1:=by
   rw [im,eS]; simp only [fSum,zfu]
  obtain ⟨e2,h2,s1,s2⟩:=yda (w:=none) (all:=yaC 0 30) (t:=.nm 3) (b:=ybs) (xs:=yaC 0 30) (en:=[some (.fl (ns.map AV.int)),some (.int k),some (.int (c + S)),o,some (.int 0)]) (h:=h1)
   (λi en h' => h' = h1 /\ ∃ (f : Int) (o : Option AV),en = [some (.fl (ns.map AV.int)),some (.int k),some (.int (c + S)),o,some (.int f)]) ⟨rfl,0,o,rfl⟩ (λ_ _ _ _=>rfl) (by
    rintro j x en h' hx ⟨rfl,f,o,rfl⟩
    rw [zaH] at hx
    by_cases q : j < 30
    ·rw [if_pos q] at hx
     cases hx
     obtain ⟨f',e⟩:=zd4 none ns k (c + S) f (0 + (j : Int)) h'
     show thn (ybs [some (.fl (ns.map AV.int)),some (.int k),some (.int (c + S)),some (.int (0 + (j : Int))),some (.int f)] h') _
     rw [e]
     exact ⟨rfl,f',_,rfl⟩
    ·rw [if_neg q] at hx; cases hx)
  obtain ⟨rfl,f,o',rfl⟩:=s2
  have f2:=(ybU (t:=.nm 3) (b:=ybs) (zaT (a:=sLit (.int 30)) (en:=[some (.fl (ns.map AV.int)),some (.int k),some (.int (c + S)),o,some (.int 0)]) (h:=h2) (n:=30) rfl (by decide))).trans s1
  refine ⟨f / 64,?_⟩
  simp at cm
  simp [yaM,f1,hb,cm,sm,f2,-sFor,-fSum]
def yfs : Str:=(Str.ofString "abcdefghijklmnopqrstuvwxyzABCDEFGHIJKLMNOPQRSTUVWXYZ0123456789")++(Str.ofString " !\"#$&'()*+,-./:;<=>?\x40[\\]^_`{|}~\n")
def lettersL : List Str:=["ab", "aab\n", "a\n",yfs, "n\\\n"]
theorem zfv : ∀ x ∈ lettersL,yaT x = true /\ 1 <= x.length /\ x.length <= 100:=by decide +kernel
theorem zdn {p r : Nat} {h : AH} {ps : List Pc} (S : ShelfAt h p ps) (g : Good ps) (e : ∃ N : Int,h[r]? = some (.lst [.int N])) (hr : r < p \/ p + 8 < r) :
  ∃ (x : Str) (h' : AH),(yaT x = true /\ 1 <= x.length /\ x.length <= 100) /\ ybO [.ref r] h = .ok (.str x) h' /\ Wk p r h h' ps ps 0:=by
 obtain ⟨v,h',hv,e1,W⟩:=zau S g e hr 5 (by decide) (by decide)
 have : v = 0 \/ v = 1 \/ v = 2 \/ v = 3 \/ v = 4:=by lia
 have e1' : yai [.ref r,.int 5] h = .ok (.int v) h' := e1
 refine ⟨lettersL.getD v "",h',zfv _ ?_,?_,W⟩
 ·rcases this with rfl | rfl | rfl | rfl | rfl<;>simp [lettersL]
 ·have l1 : (Str.ofString "abcdefghijklmnopqrstuvwxyzABCDEFGHIJKLMNOPQRSTUVWXYZ0123456789").length + (Str.ofString " !\"#$&'()*+,-./:;<=>?\x40[\\]^_`{|}~\n").length <= sizeLine:=by decide +kernel
  have ad : fAdd (.str (Str.ofString "abcdefghijklmnopqrstuvwxyzABCDEFGHIJKLMNOPQRSTUVWXYZ0123456789")) (.str (Str.ofString " !\"#$&'()*+,-./:;<=>?\x40[\\]^_`{|}~\n")) h = .ok (.str yfs) h:=by simp only [fAdd,l1,if_true]; rfl
  rcases this with rfl | rfl | rfl | rfl | rfl<;>simp [ybO,ad,e1',-fAdd]<;>rfl
theorem ziF {x : Str} {v : Nat} (hv : v < x.length) (hx : yaT x = true) (h : AH) : ∃ c,ybV c = true /\ fIx (.str x) (.int v) h = .ok (.str ⟨#[c]⟩) h:=by
 have hv' : v < x.cps.toList.length:=by rw [<- zak]; exact hv
 refine ⟨x.cps.toList[v],?_,?_⟩
 ·exact List.all_eq_true.mp hx _ (List.getElem_mem hv')
 ·have e : x.cps.toList[v]? = some x.cps.toList[v]:=List.getElem?_eq_getElem hv'
  simp only [fIx,zcJ e]
theorem zgx {p r : Nat} {h : AH} {ps : List Pc} (S : ShelfAt h p ps) (g : Good ps) (e : ∃ N : Int,h[r]? = some (.lst [.int N])) (hr : r < p \/ p + 8 < r) (x : Str) (hx : yaT x = true /\ 1 <= x.length /\ x.length <= 100) (many : Nat) (hm : many <= 8) (o0 o3 o4 o5 o6 o7 o8 o9 o10 o11 : Option AV) :
  ∃ (y : Str) (h' : AH),yaT y = true /\ y.length = many /\ sBM ya0 ych (sLit (.str "")) (yaa (ybl [2,1] (ybk (sVar 6)) sYes (sOp2 fIx (sVar 1) (yad yai (yaa (sVar 2) (yaa (yad fLen (yaa (sVar 1) sNil)) sNil))))) sNil) [o0,some (.ref r),some (.str x),o3,o4,o5,some (.int many),o7,o8,o9,o10,o11] h = .ok (.str y) h' /\ Wk p r h h' ps ps 0:=by
 obtain ⟨zs,h',c1,⟨cs,c2,c3,W⟩,c4⟩:=yhi (js:=[2,1]) (en:=[o0,some (.ref r),some (.str x),o3,o4,o5,some (.int many),o7,o8,o9,o10,o11]) (all:=yaC 0 many) (e:=sOp2 fIx (sVar 1) (yad yai (yaa (sVar 2) (yaa (yad fLen (yaa (sVar 1) sNil)) sNil)))) (xs:=yaC 0 many) (h:=h)
  (λys h' => ∃ cs : List Nat,ys = cs.map (λc=>AV.str ⟨#[c]⟩) /\ (∀ c ∈ cs,ybV c = true) /\ Wk p r h h' ps ps 0) ⟨[],rfl,by simp,Wk.refl S g e⟩ (by
   rintro v hv ys h1 ⟨cs,rfl,hc,W⟩
   obtain ⟨d,h2,hd,e1,W2⟩:=zau W.sh W.gd W.row hr x.length hx.2.1 (Nat.le_trans hx.2.2 (by decide))
   obtain ⟨c,pc,ec⟩:=ziF hd hx.1 h2
   have ln : fLen [.str x] h1 = .ok (.int (x.length : Nat)) h1:=by simp
   simp [e1,ec,-fIx]
   refine ⟨cs++[c],by simp,?_,W.trans W2 (by lia)⟩
   intro c' hc'
   rcases List.mem_append.mp hc' with q | q
   ·exact hc _ q
   ·simp at q; subst q; exact pc) (by rw [zaD]; exact Nat.le_trans hm (by decide))
 have lc : cs.length = many:=by
  have:=congrArg List.length c2
  rw [c4,zaD] at this; simpa using this.symm
 refine ⟨⟨cs.toArray⟩,h',?_,?_,?_,W⟩
 ·simp only [yaT,List.all_eq_true]; intro c hc; exact c3 c (by simpa using hc)
 ·simp [Str.length,lc]
 ·have jn:=ziD (h:=h') (cs:=cs) (by lia)
  have r1:=zaT (a:=sVar 6) (en:=[o0,some (.ref r),some (.str x),o3,o4,o5,some (.int many),o7,o8,o9,o10,o11]) (h:=h) (n:=many) rfl (by lia)
  have cc : ybl [2,1] (ybk (sVar 6)) sYes (sOp2 fIx (sVar 1) (yad yai (yaa (sVar 2) (yaa (yad fLen (yaa (sVar 1) sNil)) sNil)))) [o0,some (.ref r),some (.str x),o3,o4,o5,some (.int many),o7,o8,o9,o10,o11] h = .ok (.fl zs) h' := by
   simp only [ybl,r1,c1]
  rw [c2] at cc
  simp only [sBM,sLit,Out.bind,yaa,sNil,cc,ya0,if_true,jn]
theorem ta1 {n A B N : Nat} (h : n + 2 * B < N) (q : A <= B) : n + A < N:=by lia
theorem ta2 {n n1 A B C N : Nat} (h : n + 2 * C < N) (q : A <= C) (r : B <= C) (v : n1 <= n + (A - 1)) : n1 + B < N:=by lia
theorem ta3 {l m f : Nat} (h : 9 <= m + f) (e : l = m) : 8 < l + f:=by lia
theorem ta4 {a b : Int} {x y : Nat} (ea : a = x) (eb : b = y) (h1 : x <= y + 1) (h2 : y <= x + 1) : (a - b).natAbs <= 1:=by lia
theorem ta5 {x y A B C : Nat} (hx : x <= 8 * A) (hy : y <= 8 * B) (ha : A <= C) (hb : B <= C) : x + y <= 16 * C:=by lia
theorem ta6 {n n1 n2 A B C : Nat} (v1 : n1 <= n + (A - 1)) (v2 : n2 <= n1 + (B - 1)) (a : A <= C) (b : B <= C) (h : n + 2 * C < 15000000) : n2 < 16000000:=by lia
theorem ta7 {A B C : Nat} (a : A <= C) (b : B <= C) (a1 : 1 <= A) (b1 : 1 <= B) : A - 1 + (B - 1) + 1 <= 2 * C - 1:=by lia
theorem ta8 {a b : Int} {x y H : Nat} (ea : a = x) (eb : b = y) (hx : x <= H) (hy : y <= H) (o : x = H \/ y = H) : max a b + 1 = ((H + 1 : Nat) : Int):=by lia
theorem ta9 (H lo t : Nat) (h1 : lo <= 1) (h2 : lo = 1 -> 1 <= H) (h3 : t < 2) : ∃ ha hb : Nat,((H + 1 : Nat) : Int) - 1 - (lo : Int) * (t : Int) = (ha : Int) /\ ((H + 1 : Nat) : Int) - 1 - (lo : Int) * (1 - (t : Int)) = (hb : Int) /\ ha <= H /\ hb <= H /\ (ha = H \/ hb = H) /\ ha <= hb + 1 /\ hb <= ha + 1:=by
 match lo,t,h1,h2,h3 with
 | 0,0,_,_,_=>exact ⟨H,H,by simp,by simp,Nat.le_refl _,Nat.le_refl _,.inl rfl,Nat.le_succ _,Nat.le_succ _⟩
 | 0,1,_,_,_=>exact ⟨H,H,by simp,by simp,Nat.le_refl _,Nat.le_refl _,.inl rfl,Nat.le_succ _,Nat.le_succ _⟩
 | 1,0,_,h2,_ =>
  obtain ⟨k,rfl⟩ : ∃ k,H = k + 1:=⟨H - 1,by have:=h2 rfl; lia⟩
  exact ⟨k + 1,k,by simp,by simp,Nat.le_refl _,Nat.le_succ _,.inl rfl,Nat.le_refl _,Nat.le_succ_of_le (Nat.le_succ _)⟩
 | 1,1,_,h2,_ =>
  obtain ⟨k,rfl⟩ : ∃ k,H = k + 1:=⟨H - 1,by have:=h2 rfl; lia⟩
  exact ⟨k,k + 1,by simp,by simp,Nat.le_succ _,Nat.le_refl _,.inr rfl,Nat.le_succ_of_le (Nat.le_succ _),Nat.le_refl _⟩
theorem tp2 (H : Nat) : 2 ^ (H + 2) = 2 * 2 ^ (H + 1):=by rw [Nat.pow_succ,Nat.mul_comm]
theorem tpm {a b : Nat} (h : a <= b) : 2 ^ a <= 2 ^ b:=Nat.pow_le_pow_right (by decide) h
theorem tl1 {last v : Nat} (h8 : last <= 8) (hv : v < last) : ∃ many : Nat,(9 : Int) - (last : Int) + v = (many : Int) /\ 9 <= last + many /\ many <= 8 /\ 1 <= many:=⟨9 - last + v,by lia,by lia,by lia,by lia⟩
theorem tl2 (last : Nat) : (9 : Int) - (9 - (last : Int)) = (last : Int):=Int.sub_sub_self _ _
theorem tl3 {last : Nat} (h8 : last <= 8) (h : AH) : ydO [.int 1,.int (9 - (last : Int))] h = .ok (.int (9 - (last : Int))) h:=by
 simp
 lia
theorem zgy {p r : Nat} {h : AH} {ps : List Pc} (G : Fn) (S : ShelfAt h p ps) (g : Good ps) (e : ∃ N : Int,h[r]? = some (.lst [.int N])) (hr : r < p \/ p + 8 < r) (x : Str) (hx : yaT x = true /\ 1 <= x.length /\ x.length <= 100) (last : Nat) (h1 : 1 <= last) (h8 : last <= 8) (hz : ps.length < 15000000) :
  ∃ (n : Nat) (y : Str) (many : Nat) (ps' : List Pc) (h' : AH),ycl G [.ref p,.ref r,.str x,.int 0,.int last] h = .ok (.tup [.int n,.str y,.int many]) h' /\ Wk p r h h' ps ps' 1 /\ Tx ps' n (lfMs y n) y (lfMs y n) (lfMs y n) /\ y.length = many /\ 9 <= last + many /\ many <= 8 /\ 1 <= many:=by
 obtain ⟨v,h2,hv,e1,W⟩:=zau S g e hr last h1 (Nat.le_trans h8 (by decide))
 obtain ⟨many,b3,m9,m8,m1⟩:=tl1 h8 hv
 have b2:=tl2 last
 have mx:=tl3 h8 h
 obtain ⟨y,h3,py,ly,jw,W2⟩:=zgx W.sh W.gd W.row hr x hx many m8 (some (.ref p)) (some (.int 0)) (some (.int last)) (some (.int (9 - (last : Int)))) none none none none none none
 have sy : ybc y = true:=by
  simp only [ybc,py,ly,Bool.true_and,Bool.and_eq_true,decide_eq_true_eq]; exact ⟨m1,m8⟩
 obtain ⟨n,ps',h4,e4,D,tx⟩:=zgw W2.sh W2.gd sy (Nat.lt_trans hz (by decide))
 refine ⟨n,y,many,ps',h4,?_,(W.trans W2 (Nat.le_refl _)).deed D hr (Nat.le_refl _),tx,ly,m9,m8,m1⟩
 unfold ycl
 generalize hJ : sBM ya0 ych (sLit (.str "")) (yaa (ybl [2,1] (ybk (sVar 6)) sYes (sOp2 fIx (sVar 1) (yad yai (yaa (sVar 2) (yaa (yad fLen (yaa (sVar 1) sNil)) sNil))))) sNil) = J at jw ⊢
 have ob:=W2.sh.ob
 simp [mx,b2,b3,e1,jw,ob,e4,-ydO]
theorem zgz {p r : Nat} {h : AH} {ps : List Pc} (G : Fn) (S : ShelfAt h p ps) (g : Good ps) (e : ∃ N : Int,h[r]? = some (.lst [.int N])) (hr : r < p \/ p + 8 < r) (x : Str) (H last : Nat) (hH : H <= 10) (h1 : 1 <= last) (h8 : last <= 8) (hz : ps.length + 2 ^ (H + 2) < 15000000)
  (ih : ∀ (H' last : Nat) (h : AH) (ps : List Pc),H' <= H -> ShelfAt h p ps -> Good ps -> (∃ N : Int,h[r]? = some (.lst [.int N])) -> 1 <= last -> last <= 8 -> ps.length + 2 ^ (H' + 1) < 15000000 ->
   ∃ (n : Nat) (y : Str) (many : Nat) (ps' : List Pc) (h' : AH) (m f l : Ms),G [.ref p,.ref r,.str x,.int H',.int last] h = .ok (.tup [.int n,.str y,.int many]) h' /\ Wk p r h h' ps ps' (2 ^ (H' + 1) - 1) /\ Tx ps' n m y f l /\ m.ht = H' /\ l.sg = many /\ 9 <= last + f.sg /\ y.length <= 8 * 2 ^ H' /\ 1 <= many /\ many <= 8) :
  ∃ (n : Nat) (y : Str) (many : Nat) (ps' : List Pc) (h' : AH) (m f l : Ms),ycl G [.ref p,.ref r,.str x,.int ((H + 1 : Nat) : Int),.int last] h = .ok (.tup [.int n,.str y,.int many]) h' /\ Wk p r h h' ps ps' (2 ^ (H + 2) - 1) /\ Tx ps' n m y f l /\ m.ht = ((H + 1 : Nat) : Int) /\ l.sg = many /\ 9 <= last + f.sg /\ y.length <= 8 * 2 ^ (H + 1) /\ 1 <= many /\ many <= 8:=by
 obtain ⟨v,h2,hv,e1,W1⟩:=zau S g e hr 3 (by decide) (by decide)
 obtain ⟨t,h3,ht,e2,W2⟩:=zau W1.sh W1.gd W1.row hr 2 (by decide) (by decide)
 obtain ⟨lo,hlo,e3⟩ : ∃ lo : Nat,(lo <= 1 /\ (lo = 1 -> 1 <= H)) /\ (sOp2 fMul (sOp2 fIx (sLst (yaa (sLit (.int 0)) (yaa (sLit (.int 0)) (yaa (sLit (.int 1)) sNil)))) (yad yai (yaa (sVar 1) (yaa (sLit (.int 3)) sNil)))) (yad fInt (yaa (sOp2 fGt (sVar 3) (sLit (.int 1))) sNil))) [some (.ref p),some (.ref r),some (.str x),some (.int ((H + 1 : Nat) : Int)),some (.int last),none,none,none,none,none,none,none] h = .ok (.int lo) h2:=by
  have e1' : yai [.ref r,.int 3] h = .ok (.int v) h2:=e1
  have : v = 0 \/ v = 1 \/ v = 2:=by lia
  by_cases q : 1 <= H
  ·have q' : (1 : Int) < (H : Int) + 1:=by lia
   rcases this with rfl | rfl | rfl
   ·exact ⟨0,by lia,by simp [e1',q']; rfl⟩
   ·exact ⟨0,by lia,by simp [e1',q']; rfl⟩
   ·exact ⟨1,by lia,by simp [e1',q']; rfl⟩
  ·have q' : ¬ (1 : Int) < (H : Int) + 1:=by lia
   rcases this with rfl | rfl | rfl
   ·exact ⟨0,by lia,by simp [e1',q']; rfl⟩
   ·exact ⟨0,by lia,by simp [e1',q']; rfl⟩
   ·exact ⟨0,by lia,by simp [e1',q']; rfl⟩
 obtain ⟨ha,hb,k1,k2,k3,k4,k5,k6,k7⟩:=ta9 H lo t hlo.1 hlo.2 ht
 have pa : 2 ^ (ha + 1) <= 2 ^ (H + 1):=tpm (Nat.succ_le_succ k3)
 have pb : 2 ^ (hb + 1) <= 2 ^ (H + 1):=tpm (Nat.succ_le_succ k4)
 have hz' : ps.length + 2 * 2 ^ (H + 1) < 15000000:=tp2 H ▸ hz
 obtain ⟨n1,y1,many1,ps1,h4,m1,f1,l1,g1,V1,x1,t1,c1,d1,s1,a1,b1⟩:=ih ha last h3 ps k3 W2.sh W2.gd W2.row h1 h8 (ta1 hz' pa)
 obtain ⟨n2,y2,many2,ps2,h5,m2,f2,l2,g2,V2,x2,t2,c2,d2,s2,a2,b2⟩:=ih hb many1 h4 ps1 k4 V1.sh V1.gd V1.row a1 b1 (ta2 hz' pa pb V1.len)
 have sy : y1.length + y2.length <= 16 * 2 ^ H:=ta5 s1 s2 (tpm k3) (tpm k4)
 have pH : 16 * 2 ^ H <= 16 * 2 ^ 10:=Nat.mul_le_mul_left 16 (tpm hH)
 obtain ⟨n,ps',h6,e6,D,tx⟩:=zdm V2.sh V2.gd (x1.pre V2.pre) x2 (ta3 d2 c1) (ta4 t1 t2 k6 k7) (by rw [x1.ky.sg,x2.ky.sg]; exact Nat.le_trans (Nat.le_trans sy pH) (by decide)) (ta6 V1.len V2.len pa pb hz')
 refine ⟨n,y1++y2,many2,ps',h6,_,_,_,?_,(((W1.trans W2 (Nat.le_refl _)).trans V1 (Nat.le_refl _)).trans V2 (Nat.le_refl _)).deed D hr (by rw [tp2 H]; simpa using ta7 pa pb Nat.one_le_two_pow Nat.one_le_two_pow),tx,ta8 t1 t2 k3 k4 k5,c2,d1,?_,a2,b2⟩
 ·unfold ycl
  generalize hJ : (sOp2 fMul (sOp2 fIx (sLst (yaa (sLit (.int 0)) (yaa (sLit (.int 0)) (yaa (sLit (.int 1)) sNil)))) (yad yai (yaa (sVar 1) (yaa (sLit (.int 3)) sNil)))) (yad fInt (yaa (sOp2 fGt (sVar 3) (sLit (.int 1))) sNil))) = J at e3 ⊢
  have e2' : yai [.ref r,.int 2] h2 = .ok (.int t) h3:=e2
  have z0 : ¬ ((H : Int) + 1 = 0):=by lia
  have mu1 : fMul (.int lo) (.int t) h3 = .ok (.int ((lo : Int) * t)) h3:=yd7 (by lia)
  have mu2 : fMul (.int lo) (.int (1 - (t : Int))) h4 = .ok (.int ((lo : Int) * (1 - (t : Int)))) h4:=yd7 (by lia)
  have c0 : ((H + 1 : Nat) : Int) = (H : Int) + 1:=by lia
  have i2 : fIx (.tup [.int n1,.str y1,.int many1]) (.int 2) = λh=>.ok (.int many1) h:=by funext h; rfl
  have i0 : fIx (.tup [.int n1,.str y1,.int many1]) (.int 0) = λh=>.ok (.int n1) h:=by funext h; rfl
  have i1 : fIx (.tup [.int n1,.str y1,.int many1]) (.int 1) = λh=>.ok (.str y1) h:=by funext h; rfl
  have j2 : fIx (.tup [.int n2,.str y2,.int many2]) (.int 2) = λh=>.ok (.int many2) h:=by funext h; rfl
  have j0 : fIx (.tup [.int n2,.str y2,.int many2]) (.int 0) = λh=>.ok (.int n2) h:=by funext h; rfl
  have j1 : fIx (.tup [.int n2,.str y2,.int many2]) (.int 1) = λh=>.ok (.str y2) h:=by funext h; rfl
  have sl : y1.length + y2.length <= sizeLine:=Nat.le_trans (Nat.le_trans sy pH) (by decide)
  have ob:=V2.sh.ob
  rw [c0] at e3 k1 k2 ⊢
  simp at k1 k2
  simp [e3,z0,e2',mu1,mu2,k1,k2,g1,g2,i0,i1,i2,j0,j1,j2,sl,e6,ob,-fMul,-fIx]
 ·rw [zbY,Nat.pow_succ]; exact Nat.le_trans sy (by rw [Nat.mul_comm (2 ^ H) 2,<- Nat.mul_assoc]; exact Nat.le_refl _)
theorem yeF {p r : Nat} (hr : r < p \/ p + 8 < r) (x : Str) (hx : yaT x = true /\ 1 <= x.length /\ x.length <= 100) : ∀ (d H last : Nat) (h : AH) (ps : List Pc),H < d -> H <= 10 -> ShelfAt h p ps -> Good ps -> (∃ N : Int,h[r]? = some (.lst [.int N])) -> 1 <= last -> last <= 8 -> ps.length + 2 ^ (H + 1) < 15000000 ->
   ∃ (n : Nat) (y : Str) (many : Nat) (ps' : List Pc) (h' : AH) (m f l : Ms),ybp d [.ref p,.ref r,.str x,.int H,.int last] h = .ok (.tup [.int n,.str y,.int many]) h' /\ Wk p r h h' ps ps' (2 ^ (H + 1) - 1) /\ Tx ps' n m y f l /\ m.ht = H /\ l.sg = many /\ 9 <= last + f.sg /\ y.length <= 8 * 2 ^ H /\ 1 <= many /\ many <= 8
 | 0,H,_,_,_,hd,_,_,_,_,_,_,_=>absurd hd (Nat.not_lt_zero _)
 | d + 1,0,last,h,ps,_,_,S,g,e,h1,h8,hz=>by
  obtain ⟨n,y,many,ps',h',q1,q2,q3,q4,q5,q6,q7⟩:=zgy (ybp d) S g e hr x hx last h1 h8 (by lia)
  exact ⟨n,y,many,ps',h',_,_,_,q1,q2,q3,rfl,q4,by show 9 <= last + y.length; lia,by lia,q7,q6⟩
 | d + 1,H + 1,last,h,ps,hd,hH,S,g,e,h1,h8,hz=>by
  exact zgz (ybp d) S g e hr x H last (by lia) h1 h8 (by simpa using hz) λH' last' h' ps' l S' g' e' a b z=>yeF hr x hx d H' last' h' ps' (by lia) (by lia) S' g' e' a b z
def lp : Nat -> Nat × Nat
 | 0=>(1,2)
 | n + 1=>((lp n).2,(lp n).1 + (lp n).2)
def ll (n : Nat) : Nat:=(lp n).1
def ls (n : Nat) : Nat:=9 * (ll n / 2) + ll n % 2
end Sk
namespace Sk
open PySem PySem.Spec L2 Sm
def TxZ (ps : List Pc) (n : Nat) (y : Str) : Prop:=(n = 0 /\ y = "") \/ ∃ m f l,Tx ps n m y f l
theorem TxZ.pre {ps ps' : List Pc} {n : Nat} {y : Str} (t : TxZ ps n y) (h : ps <+: ps') : TxZ ps' n y:=by
 rcases t with t | ⟨m,f,l,t⟩
 ·exact .inl t
 ·exact .inr ⟨m,f,l,t.pre h⟩
theorem yhn {p r : Nat} {h : AH} {ps : List Pc} (S : ShelfAt h p ps) (g : Good ps) (e : ∃ N : Int,h[r]? = some (.lst [.int N])) (hr : r < p \/ p + 8 < r) (most : Nat) (hm : most <= 8) (hz : ps.length < 14000000) :
  ∃ (n : Nat) (y : Str) (ps' : List Pc) (h' : AH),ybN [.ref p,.ref r,.int most] h = .ok (.tup [.int n,.str y]) h' /\ Wk p r h h' ps ps' (2 ^ (most + 1)) /\ TxZ ps' n y /\ y.length <= 8 * 2 ^ most:=by
 obtain ⟨x,h2,hx,el,W1⟩:=zdn S g e hr
 obtain ⟨v,h3,hv,ed,W2⟩:=zau W1.sh W1.gd W1.row hr 8 (by decide) (by decide)
 have ed' : yai [.ref r,.int 8] h2 = .ok (.int v) h3:=ed
 by_cases q : v = 7
 ·subst q
  refine ⟨0, "",ps,h3,?_,W1.trans W2 (Nat.zero_le _),.inl ⟨rfl,rfl⟩,Nat.zero_le _⟩
  simp [ybN,el,ed']
 ·obtain ⟨H,h4,hH,eh,W3⟩:=zau W2.sh W2.gd W2.row hr (most + 1) (Nat.succ_pos _) (Nat.le_trans (Nat.succ_le_succ hm) (by decide))
  have pw : 2 ^ (H + 1) <= 2 ^ (most + 1):=tpm hH
  have pw2 : 2 ^ (most + 1) <= 2 ^ 9:=tpm (Nat.succ_le_succ hm)
  have hH8 : H <= 8:=Nat.le_trans (Nat.le_of_lt_succ hH) hm
  have pw3 : 8 * 2 ^ H <= 8 * 2 ^ most:=Nat.mul_le_mul_left 8 (tpm (Nat.le_of_lt_succ hH))
  obtain ⟨n,y,many,ps',h5,m,f,l,et,V,T,q1,q2,q3,q4,q5,q6⟩:=yeF hr x hx 10 H 8 h4 ps (Nat.lt_of_le_of_lt hH8 (by decide)) (Nat.le_trans hH8 (by decide)) W3.sh W3.gd W3.row (by decide) (by decide) (Nat.lt_of_lt_of_le (Nat.add_lt_add_of_lt_of_le hz (Nat.le_trans pw pw2)) (by decide))
  refine ⟨n,y,ps',h5,?_,((W1.trans W2 (Nat.le_refl _)).trans W3 (Nat.le_refl _)).trans V (by simpa using Nat.le_trans (Nat.sub_le _ 1) pw),.inr ⟨m,f,l,T⟩,Nat.le_trans q4 pw3⟩
  have q' : ¬ (v : Int) = 7:=λz=>q (Int.ofNat.inj z)
  have et' : ybp 10 [.ref p,.ref r,.str x,.int H,.int 8] h4 = .ok (.tup [.int n,.str y,.int many]) h5:=et
  have eh' : yai [.ref r,.int ((most : Int) + 1)] h3 = .ok (.int H) h4:=by
   have:=eh; rw [Int.natCast_succ] at this; exact this
  have i0 : fIx (.tup [.int n,.str y,.int many]) (.int 0) = λh=>.ok (.int n) h:=by funext h; rfl
  have i1 : fIx (.tup [.int n,.str y,.int many]) (.int 1) = λh=>.ok (.str y) h:=by funext h; rfl
  simp [ybN,el,ed',q',eh',et',i0,i1,-fIx]
def Per (x y : Str) (k : Nat) : Prop:=x.length = y.length * k /\ ∀ i,i < x.length -> x.cps.toList[i]? = y.cps.toList[i % y.length]?
theorem Per.one (y : Str) : Per y y 1:=⟨by lia,λi hi=>by rw [Nat.mod_eq_of_lt hi]⟩
theorem Per.two {x y : Str} {k : Nat} (P : Per x y k) : Per (x++x) y (k * 2):=by
 refine ⟨by rw [zbY,P.1]; rw [<- Nat.mul_assoc,Nat.mul_two],λi hi=>?_⟩
 rw [zah]
 rw [zbY] at hi
 have lx : x.cps.toList.length = x.length:=(zak x).symm
 by_cases q : i < x.length
 ·rw [List.getElem?_append_left (by lia)]
  exact P.2 i q
 ·rw [List.getElem?_append_right (by lia),lx,P.2 (i - x.length) (by lia),P.1]
  congr 1
  have : i = (i - y.length * k) + y.length * k:=by have:=P.1; lia
  conv=>rhs; rw [this]
  rw [Nat.add_mul_mod_self_left]
theorem lg1 {l f : Nat} (q : 9 <= 1 + f) (h : 1 <= l) : 8 < l + f:=by lia
theorem lg2 {a c j v : Nat} (h1 : a <= c + (16 + j)) (h3 : c < 14000000) (h4 : j < v) (h5 : v < 60) : a < 16000000:=by lia
theorem yho {p r : Nat} {h : AH} {ps : List Pc} (S : ShelfAt h p ps) (g : Good ps) (e : ∃ N : Int,h[r]? = some (.lst [.int N])) (hr : r < p \/ p + 8 < r) (hz : ps.length < 14000000) :
  ∃ (n : Nat) (y : Str) (k : Nat) (ps' : List Pc) (h' : AH) (m f l : Ms) (x : Str),ycm [.ref p,.ref r] h = .ok (.tup [.int n,.str y,.int k]) h' /\ Wk p r h h' ps ps' 100 /\ Tx ps' n m x f l /\ Per x y k /\ 1 <= y.length /\ y.length <= 64 /\ 1 <= k /\ yaT y = true /\ 8 < l.sg + f.sg:=by
 obtain ⟨w,h2,hx,el,W1⟩:=zdn S g e hr
 obtain ⟨H,h3,hH,ed,W2⟩:=zau W1.sh W1.gd W1.row hr 4 (by decide) (by decide)
 have ed' : yai [.ref r,.int 4] h2 = .ok (.int H) h3:=ed
 have pw : 2 ^ (H + 1) <= 2 ^ 4:=tpm hH
 have pw3 : 8 * 2 ^ H <= 64:=Nat.mul_le_mul_left 8 (tpm (Nat.le_of_lt_succ hH))
 obtain ⟨n,y,many,ps',h4,m,f,l,et,V,T,q1,q2,q3,q4,q5,q6⟩:=yeF hr w hx 10 H 1 h3 ps (Nat.lt_trans hH (by decide)) (Nat.le_trans (Nat.le_of_lt hH) (by decide)) W2.sh W2.gd W2.row (by decide) (by decide) (Nat.lt_of_lt_of_le (Nat.add_lt_add_of_lt_of_le hz pw) (by decide))
 obtain ⟨v,h5,hv,ev,W3⟩:=zau V.sh V.gd V.row hr 60 (by decide) (by decide)
 have v1 : ps'.length <= ps.length + 16:=Nat.le_trans V.len (Nat.add_le_add_left (Nat.le_trans (Nat.sub_le _ _) pw) _)
 have ly : 1 <= y.length:=T.ky.sg ▸ T.ky.sg1
 have W:=((W1.trans W2 (Nat.le_refl _)).trans V (Nat.le_refl _)).trans W3 (Nat.le_refl _)
 obtain ⟨e',h6,t1,t2⟩:=yda (w:=none) (all:=yaC 0 v) (t:=.nm 7) (b:=ya8) (xs:=yaC 0 v) (en:=[some (.ref p),some (.ref r),some (.str w),some (.int n),some (.str y),some (.int many),some (.int 1),none]) (h:=h5)
  (λi en h' => i <= v -> ∃ (o7 : Option AV) (n k : Nat) (ps2 : List Pc) (m : Ms) (z : Str),en = [some (.ref p),some (.ref r),some (.str w),some (.int n),some (.str y),some (.int many),some (.int k),o7] /\ Wk p r h h' ps ps2 (16 + i) /\ Tx ps2 n m z f l /\ Per z y k /\ 1 <= k) (λ_=>⟨none,n,1,ps',m,y,rfl,by
   exact ⟨W.sh,W.gd,W.pre,v1,W.row,W.fr,W.hl⟩,T,Per.one y,Nat.le_refl _⟩) (λ_ _ _ _=>rfl) (by
   intro j u en h' hx' hp
   rw [zaH] at hx'
   by_cases q : j < v
   ·rw [if_pos q] at hx'
    cases hx'
    obtain ⟨o7,n,k,ps2,m,z,rfl,Wj,Tj,Pj,kj⟩:=hp (Nat.le_of_lt q)
    have sz : m.sg = y.length * k:=Tj.ky.sg.trans Pj.1
    have yk : (y.length : Int) * k = ((y.length * k : Nat) : Int):=(Int.natCast_mul _ _).symm
    have y64 : ((y.length : Nat) : Int).natAbs < 2 ^ 64:=Nat.lt_of_le_of_lt (Nat.le_trans q4 pw3) (by decide)
    have ob:=Wj.sh.ob
    have mu1 : fMul (.int (y.length : Nat)) (.int (k : Int)) h' = .ok (.int ((y.length : Int) * k)) h' := yd7 y64
    have mu2 : fMul (.int ((y.length : Int) * k)) (.int 2) h' = .ok (.int ((y.length : Int) * k * 2)) h' := yeC (by decide)
    have mu3 : ∀ h'' : AH,fMul (.int (k : Int)) (.int 2) h'' = .ok (.int ((k : Int) * 2)) h'' := λ_=>yeC (by decide)
    by_cases q2 : y.length * k * 2 <= 1000000000000000000
    ·have q2' : (y.length : Int) * k * 2 <= 1000000000000000000:=by
      rw [yk]; exact Int.ofNat_le.mpr q2
     obtain ⟨n',ps3,h7,e7,D,T7⟩:=zdm Wj.sh Wj.gd Tj Tj (lg1 q3 Tj.ky.l1) (by rw [Int.sub_self]; decide) (by rw [sz,<- Nat.mul_two]; exact q2) (lg2 Wj.len hz q hv)
     have eB : ya8 [some (.ref p),some (.ref r),some (.str w),some (.int n),some (.str y),some (.int many),some (.int k),some (.int (0 + (j : Int)))] h' = .nx [some (.ref p),some (.ref r),some (.str w),some (.int n'),some (.str y),some (.int many),some (.int ((k * 2 : Nat) : Int)),some (.int (0 + (j : Int)))] h7:=by
      simp [ya8,mu1,mu2,mu3,q2',ob,e7,-fMul]
     show thn (ya8 [some (.ref p),some (.ref r),some (.str w),some (.int n),some (.str y),some (.int many),some (.int k),some (.int (0 + (j : Int)))] h') _
     rw [eB]
     exact λ_=>⟨_,n',k * 2,ps3,yd9 m m,z++z,rfl,Wj.deed D hr (Nat.le_refl _),T7,Pj.two,Nat.le_trans kj (Nat.le_mul_of_pos_right k (by decide))⟩
    ·have q2' : ¬ (y.length : Int) * k * 2 <= 1000000000000000000:=by
      rw [yk]; exact λz=>q2 (Int.ofNat_le.mp z)
     have eB : ya8 [some (.ref p),some (.ref r),some (.str w),some (.int n),some (.str y),some (.int many),some (.int k),some (.int (0 + (j : Int)))] h' = .nx [some (.ref p),some (.ref r),some (.str w),some (.int n),some (.str y),some (.int many),some (.int k),some (.int (0 + (j : Int)))] h' := by
      simp [ya8,mu1,mu2,mu3,q2',ob,-fMul]
     show thn (ya8 [some (.ref p),some (.ref r),some (.str w),some (.int n),some (.str y),some (.int many),some (.int k),some (.int (0 + (j : Int)))] h') _
     rw [eB]
     exact λ_=>⟨_,n,k,ps2,m,z,rfl,⟨Wj.sh,Wj.gd,Wj.pre,Nat.le_succ_of_le Wj.len,Wj.row,Wj.fr,Wj.hl⟩,Tj,Pj,kj⟩
   ·rw [if_neg q] at hx'; cases hx')
 rw [zaD] at t2
 obtain ⟨o7,n',k,ps2,m',z,rfl,W6,T6,P6,k6⟩:=t2 (Nat.le_refl _)
 refine ⟨n',y,k,ps2,h6,m',f,l,z,?_,⟨W6.sh,W6.gd,W6.pre,Nat.le_trans W6.len (Nat.add_le_add_left (Nat.le_trans (Nat.add_le_add_left (Nat.le_of_lt hv) 16) (by decide)) _),W6.row,W6.fr,W6.hl⟩,T6,P6,ly,Nat.le_trans q4 pw3,k6,T.ky.pl,lg1 q3 T6.ky.l1⟩
 have ev' : yai [.ref r,.int 60] h4 = .ok (.int v) h5:=ev
 have et' : ybp 10 [.ref p,.ref r,.str w,.int H,.int 1] h3 = .ok (.tup [.int n,.str y,.int many]) h4:=et
 have f1:=(ybU (t:=.nm 7) (b:=ya8) (zaT (a:=yad yai (yaa (sVar 1) (yaa (sLit (.int 60)) sNil))) (en:=[some (.ref p),some (.ref r),some (.str w),some (.int n),some (.str y),some (.int many),some (.int 1),none]) (h:=h4) (h1:=h5) (n:=v) (by simp [ev']) (Nat.le_trans (Nat.le_of_lt hv) (by decide)))).trans t1
 simp [ycm,el,ed',et',f1,-sFor]
end Sk
namespace Sk
open PySem PySem.Spec L2 Sm
theorem ziG {x y : Str} (e : x.cps.toList = y.cps.toList) : x = y:=by
 cases x; cases y
 simpa using e
theorem zaA (x y z : Str) : (x++y)++z = x++(y++z):=ziG (by simp only [zah,List.append_assoc])
structure Dn (F : AH -> Out AV) (p : Nat) (h h' : AH) (ps ps' : List Pc) (k n : Nat) : Prop where
 ev : F h = .ok (.int n) h'
 dd : Dd p h h' ps ps' k
 re : ∀ h2 ps2,ShelfAt h2 p ps2 -> Good ps2 -> ps' <+: ps2 -> F h2 = .ok (.int n) h2
theorem Dd.trans {p : Nat} {h h' h'' : AH} {ps ps' ps'' : List Pc} {k k' k2 : Nat} (a : Dd p h h' ps ps' k) (b : Dd p h' h'' ps' ps'' k') (hk : k + k' <= k2) : Dd p h h'' ps ps'' k2 :=
 ⟨b.sh,b.gd,a.pre.trans b.pre,by have:=a.len; have:=b.len; lia,λi hi=>(b.fr i hi).trans (a.fr i hi),b.hl.trans a.hl⟩
theorem Dd.refl {p : Nat} {h : AH} {ps : List Pc} (S : ShelfAt h p ps) (g : Good ps) : Dd p h h ps ps 0:=⟨S,g,List.prefix_refl _,by lia,λ_ _=>rfl,rfl⟩
theorem Dn.val {F : AH -> Out AV} {p n : Nat} {h : AH} {ps : List Pc} (S : ShelfAt h p ps) (g : Good ps) (eq : ∀ hh pp,ShelfAt hh p pp -> Good pp -> ps <+: pp -> F hh = .ok (.int n) hh) : Dn F p h h ps ps 0 n :=
 ⟨eq h ps S g (List.prefix_refl _),Dd.refl S g,λh3 ps3 S3 g3 p3=>eq h3 ps3 S3 g3 p3⟩
theorem i1 (s : Str) (a b : Int) (h : AH) : fIx (.tup [.str s,.int a,.int b]) (.int 1) h = .ok (.int a) h:=rfl
theorem i2 (s : Str) (a b : Int) (h : AH) : fIx (.tup [.str s,.int a,.int b]) (.int 2) h = .ok (.int b) h:=rfl
def onSh (p : Nat) (F : AH -> Out AV) (h : AH) : Out AV:=match h[p]? with
 | some (.ins c' _)=>if c' = 0 then F h else .bad
 | _=>.bad
def cat : List Str -> Str
 | [] => ""
 | w :: ws=>w++cat ws
def LS (ps : List Pc) (ns : List Nat) (ws : List Str) : Prop:=ns.length = ws.length /\ ∀ (i n : Nat) (w : Str),ns[i]? = some n -> ws[i]? = some w -> Tx ps n (lfMs w n) w (lfMs w n) (lfMs w n)
theorem LS.pre {ps ps' : List Pc} {ns : List Nat} {ws : List Str} (s : LS ps ns ws) (h : ps <+: ps') : LS ps' ns ws:=⟨s.1,λi n w a b=>(s.2 i n w a b).pre h⟩
theorem LS.take {ps : List Pc} {ns : List Nat} {ws : List Str} (s : LS ps ns ws) (k : Nat) : LS ps (ns.take k) (ws.take k):=by
 refine ⟨by simp [s.1],λi n w a b=>?_⟩
 rw [List.getElem?_take] at a b
 by_cases q : i < k
 ·rw [if_pos q] at a b; exact s.2 i n w a b
 ·rw [if_neg q] at a; cases a
theorem LS.drop {ps : List Pc} {ns : List Nat} {ws : List Str} (s : LS ps ns ws) (k : Nat) : LS ps (ns.drop k) (ws.drop k):=by
 refine ⟨by simp [s.1],λi n w a b=>?_⟩
 rw [List.getElem?_drop] at a b
 exact s.2 _ n w a b
abbrev ivs (ns : List Nat) : List AV:=ns.map λn : Nat=>AV.int (n : Int)
theorem pw2 {a b ha hb : Nat} (ab : a <= b) (h1 : b <= 2 ^ hb) (h2 : ha = 0 \/ 2 ^ (ha - 1) < a) : ha <= hb:=by
 rcases h2 with h2 | h2
 ·lia
 ·have : 2 ^ (ha - 1) < 2 ^ hb:=by lia
  have:=(Nat.pow_lt_pow_iff_right (a:=2) (by decide)).mp this
  lia
end Sk
namespace Sk
open PySem PySem.Spec L2 Sm
def yiO (x : Str) (k : Nat) : Str:=cutS x (some ((8 * k : Nat) : Int)) (some ((8 * k + 8 : Nat) : Int))
end Sk
namespace Sk
open PySem PySem.Spec L2 Sm
theorem ydJ : (Str.ofString "\\") = ⟨#[92]⟩:=by decide +kernel
theorem yhp : (Str.ofString "\\\\") = ⟨#[92,92]⟩:=by decide +kernel
theorem yhq : (Str.ofString "\\n") = ⟨#[92,110]⟩:=by decide +kernel
def esc1 (c : Nat) : List Nat:=if c = 92 then [92,92] else if c = 10 then [92,110] else [c]
def escS (x : Str) : Str:=⟨(x.cps.toList.flatMap esc1).toArray⟩
theorem ycn {x y : Str} (h : x.cps.toList = y.cps.toList) : x = y:=by
 cases x; cases y; simp only at h; rw [Array.toList_inj.mp h]
theorem zcZ (f : Nat -> List Nat) (k : Nat) (hf : ∀ c,(f c).length <= k) : ∀ l : List Nat,(l.flatMap f).length <= l.length * k
 | []=>by simp
 | c :: l=>by
  rw [List.flatMap_cons,List.length_append,List.length_cons,Nat.add_mul,Nat.one_mul]
  have:=hf c; have:=zcZ f k hf l; lia
theorem zbZ (x : Str) : (escS x).length <= x.length * 2:=by
 show (x.cps.toList.flatMap esc1).toArray.size <= _
 rw [List.size_toArray,zak]
 exact zcZ esc1 2 (λc=>by unfold esc1; split<;>(try split)<;>simp) _
theorem yeG {x : Str} (h : ∀ c ∈ x.cps.toList,c < 200) : x.cps.all (· < 0x110000) = true:=by
 rw [<- Array.all_toList,List.all_eq_true]
 exact λc hc=>decide_eq_true (Nat.lt_trans (h c hc) (by decide))
theorem zcn {x : Str} (h : yaT x = true) : ∀ c ∈ x.cps.toList,c < 200:=λc hc=>by
 have:=List.all_eq_true.mp h c hc
 simp only [ybV,Bool.or_eq_true,Bool.and_eq_true,decide_eq_true_eq] at this
 lia
theorem yeH {x : Str} (h : ∀ c ∈ x.cps.toList,c < 200) : ∀ c ∈ (escS x).cps.toList,c < 200:=λc hc=>by
 have hc' : c ∈ x.cps.toList.flatMap esc1:=by simpa [escS] using hc
 obtain ⟨d,hd,hc2⟩:=List.mem_flatMap.mp hc'
 have:=h d hd
 unfold esc1 at hc2
 split at hc2
 ·simp at hc2; lia
 ·split at hc2
  ·simp at hc2; lia
  ·simp at hc2; lia
def dc86 : AO:=.dct false [(.str "\n",.str "\\n"),(.str "\\",.str "\\\\")]
theorem yil (c : Nat) (o0 o1 : Option AV) (h : AH) : sGet (ycY "\n" "\\n" "\\" "\\\\") (sVar 2) (sVar 2) [o0,o1,some (.str ⟨#[c]⟩)] h = .ok (.str ⟨(esc1 c).toArray⟩) (h++[dc86]):=by
 have d1 : ∀ en,ycY "\n" "\\n" "\\" "\\\\" en h = .ok (.ref h.length) (h++[dc86]):=λen=>by
  unfold ycY
  rw [if_pos (by decide +kernel)]; rfl
 have g2 : (h++[dc86])[h.length]? = some (.dct false [(.str "\n",.str "\\n"),(.str "\\",.str "\\\\")]):=by simp [dc86]
 unfold sGet
 rw [d1]
 simp only [Out.bind,g2]
 show fGet h.length (.str ⟨#[c]⟩) (.str ⟨#[c]⟩) (h++[dc86]) = _
 unfold fGet
 rw [g2]
 dsimp only
 rw [if_pos (show ycg false (AV.str ⟨#[c]⟩) = true from rfl),ybw,yhq,ydJ,yhp]
 unfold esc1
 by_cases h1 : c = 92
 ·subst h1
  have n0 : ¬ ((⟨#[10]⟩ : Str) = ⟨#[92]⟩):=by decide
  simp [valA,n0]
 ·by_cases h2 : c = 10
  ·subst h2; simp [valA]
  ·have n1 : ¬ ((⟨#[10]⟩ : Str) = ⟨#[c]⟩):=λe=>h2 (by injection e with e; injection e with e; injection e with e; exact e.symm)
   have n2 : ¬ ((⟨#[92]⟩ : Str) = ⟨#[c]⟩):=λe=>h1 (by injection e with e; injection e with e; injection e with e; exact e.symm)
   simp [valA,n1,n2,h1,h2]
theorem zfw {x : Str} (hl : x.length <= 8) (h : AH) : ∃ r : AH,ybP [.str x] h = .ok (.str (escS x)) (h++r):=by
 obtain ⟨e',H',r1,f,r,o,q1,rfl,rfl⟩:=yda (w:=none) (all:=x.cps.toList.map λc=>AV.str ⟨#[c]⟩) (t:=.nm 2) (b:=ya9) (xs:=x.cps.toList.map λc=>AV.str ⟨#[c]⟩) (en:=[some (.str x),some (.str ""),none]) (h:=h)
  (λi en h' => ∃ (f : Str) (r : AH) (o : Option AV),f.cps.toList = (x.cps.toList.take i).flatMap esc1 /\ h' = h++r /\ en = [some (.str x),some (.str f),o])
  ⟨"",[],none,by simp; rfl,by simp,rfl⟩ (λ_ _ _ _=>rfl) (by
   rintro j y en h' hx ⟨f,r,o,q1,rfl,rfl⟩
   rw [List.getElem?_map] at hx
   obtain ⟨c,hc,rfl⟩:=Option.map_eq_some_iff.mp hx
   have hj:=(List.getElem?_eq_some_iff.mp hc).1
   have g:=yil c (some (.str x)) (some (.str f)) (h++r)
   have lf : f.length <= 16:=by
    rw [zak,q1]
    refine Nat.le_trans (zcZ esc1 2 (λc=>by unfold esc1; split<;>(try split)<;>simp) _) ?_
    have : (x.cps.toList.take j).length <= x.cps.toList.length:=by simp; lia
    rw [<- zak] at this; lia
   have le : (⟨(esc1 c).toArray⟩ : Str).length <= 2:=by
    show (esc1 c).toArray.size <= 2
    unfold esc1; split<;>(try split)<;>simp
   have sl : f.length + (⟨(esc1 c).toArray⟩ : Str).length <= sizeLine:=Nat.le_trans (m:=20) (by lia) (by decide)
   have fa : fAdd (.str f) (.str ⟨(esc1 c).toArray⟩) (h++r++[dc86]) = .ok (.str (f++⟨(esc1 c).toArray⟩)) (h++r++[dc86]):=by simp only [fAdd,sl,if_true]
   have e : ya9 [some (.str x),some (.str f),some (.str ⟨#[c]⟩)] (h++r) = .nx [some (.str x),some (.str (f++⟨(esc1 c).toArray⟩)),some (.str ⟨#[c]⟩)] (h++r++[dc86]):=by
    unfold ya9
    generalize sGet (ycY "\n" "\\n" "\\" "\\\\") (sVar 2) (sVar 2) = G at g ⊢
    generalize h++r = HA at *
    generalize HA++[dc86] = HB at *
    simp [g,fa,-fAdd]
   show thn (ya9 [some (.str x),some (.str f),some (.str ⟨#[c]⟩)] (h++r)) _
   rw [e]
   refine ⟨_,r++[dc86],_,?_,by rw [List.append_assoc],rfl⟩
   rw [Str.cps_append,Array.toList_append,q1,List.take_succ,hc,List.flatMap_append]
   simp)
 have ef : f = escS x:=ycn (by
  rw [q1,List.length_map,List.take_length]; simp [escS])
 have f1:=(ybU (t:=.nm 2) (b:=ya9) (it:=iVal (sVar 0)) (en:=[some (.str x),some (.str ""),none]) (h:=h) (h1:=h) (xs:=x.cps.toList.map λc=>AV.str ⟨#[c]⟩) (w:=none) rfl).trans r1
 refine ⟨r,?_⟩
 rw [<- ef]
 generalize hF : sFor (iVal (sVar 0)) (.nm 2) ya9 = F1 at f1
 unfold ybP
 rw [hF]
 simp [f1]
end Sk
namespace Sk
open PySem PySem.Spec L2 Sm
def strI (a : Nat) : Str:=Str.ofString (toString (a : Int))
theorem yb1 (a : Nat) (ha : a < 10 ^ 31) : (∀ c ∈ (strI a).cps.toList,c < 200) /\ (strI a).length <= 40 /\ ∀ h,ya7 [.int a] h = .ok (.str (strI a)) h:=by
 unfold strI
 obtain ⟨i,hi0⟩ : ∃ i : Int,i = (a : Int):=⟨_,rfl⟩
 rw [<- hi0]
 have hi : i.natAbs < 10 ^ 31:=by lia
 have cs : ∀ c ∈ (Str.ofString (toString i)).cps.toList,c < 200:=by
  intro c hc
  have : ∃ ch ∈ (toString i).toList,ch.toNat = c:=by
   rw [Str.ofString_eq_toList] at hc
   simpa using hc
  obtain ⟨ch,h1,h2⟩:=this
  rcases PyProof.Rows.int_sign i ch h1 with q | q
  ·have:=PyProof.Rows.digit_range q; lia
  ·subst q; have : ('-' : Char).toNat = 45:=rfl; lia
 have ln : (Str.ofString (toString i)).length <= 40:=by
  have nl : ∀ n : Nat,n < 10 ^ 31 -> (Nat.toDigits 10 n).length <= 31:=λn hn=>PySem.toDigits_len_pow (by decide) (by decide) hn
  have e : (Str.ofString (toString i)).length = (toString i).toList.length:=by
   rw [Str.ofString_eq_toList]; simp [Str.length]
  rw [e,Int.toString_eq_repr,Int.repr_eq_if]
  split
  ·rw [Nat.toList_repr]; have:=nl i.toNat (by lia); lia
  ·rw [String.toList_append,List.length_append,Nat.toList_repr]
   have:=nl (-i).toNat (by lia)
   have : ("-" : String).toList.length = 1:=rfl
   lia
 have lg : i.natAbs.log2 < 1920:=by
  by_cases z : i.natAbs = 0
  ·rw [z]; decide
  ·exact (Nat.log2_lt z).mpr (Nat.lt_of_lt_of_le hi (Nat.le_trans (show 10 ^ 31 <= 2 ^ 103 by decide) (Nat.pow_le_pow_right (by decide) (by decide))))
 refine ⟨cs,ln,λh=>?_⟩
 show (if i.natAbs.log2 < 1920 /\ (Str.ofString (toString i)).length <= sizeLine /\ (Str.ofString (toString i)).cps.all (· < 0x110000) = true then Out.ok (AV.str (Str.ofString (toString i))) h else .bad) = _
 rw [if_pos ⟨lg,Nat.le_trans ln (by decide),yeG cs⟩]
def rowS : Pc -> Str
 | .leaf x=>(Str.ofString "leaf ")++escS x
 | .fork a b=>(((Str.ofString "fork ")++strI a)++(Str.ofString " "))++strI b
theorem zaf (x y : Str) : (x++y).length = x.length + y.length:=by simp [Str.length,Str.cps_append]
theorem ybW {x y : Str} (hx : ∀ c ∈ x.cps.toList,c < 200) (hy : ∀ c ∈ y.cps.toList,c < 200) : ∀ c ∈ (x++y).cps.toList,c < 200:=λc hc=>by
 rw [Str.cps_append,Array.toList_append] at hc
 exact (List.mem_append.mp hc).elim (hx c) (hy c)
def yer : Pc -> Prop
 | .leaf x=>yaT x = true /\ x.length <= 8
 | .fork a b=>a < 10 ^ 31 /\ b < 10 ^ 31
theorem yea : ∀ {q : Pc},yer q -> (rowS q).length <= 100 /\ ∀ c ∈ (rowS q).cps.toList,c < 200
 | .leaf x,⟨h1,h2⟩=>by
  have l5 : (Str.ofString "leaf ").length = 5:=by decide +kernel
  have c5 : ∀ c ∈ (Str.ofString "leaf ").cps.toList,c < 200:=by decide +kernel
  have:=zbZ x
  exact ⟨by show ((Str.ofString "leaf ")++escS x).length <= 100; rw [zaf]; lia,ybW c5 (yeH (zcn h1))⟩
 | .fork a b,⟨h1,h2⟩=>by
  have l5 : (Str.ofString "fork ").length = 5:=by decide +kernel
  have l1 : (Str.ofString " ").length = 1:=by decide +kernel
  have c5 : ∀ c ∈ (Str.ofString "fork ").cps.toList,c < 200:=by decide +kernel
  have c1 : ∀ c ∈ (Str.ofString " ").cps.toList,c < 200:=by decide +kernel
  obtain ⟨a1,a2,_⟩:=yb1 a h1
  obtain ⟨b1,b2,_⟩:=yb1 b h2
  exact ⟨by show ((((Str.ofString "fork ")++strI a)++(Str.ofString " "))++strI b).length <= 100; rw [zaf,zaf,zaf]; lia,ybW (ybW (ybW c5 a1) c1) b1⟩
theorem yim (x : Str) (h : AH) : yaz (sOp2 fEq (sOp2 fIx (sVar 0) (sLit (.int 0))) (sLit (.str "leaf"))) [some (Pc.av (.leaf x))] h = .ok true h:=by
 simp [Pc.av,atI,ixN,toD,PyData.eqv]
theorem yin (a b : Nat) (h : AH) : yaz (sOp2 fEq (sOp2 fIx (sVar 0) (sLit (.int 0))) (sLit (.str "leaf"))) [some (Pc.av (.fork a b))] h = .ok false h:=by
 have n : ¬ ((Str.ofString "fork") = (Str.ofString "leaf")):=by decide +kernel
 simp [Pc.av,atI,ixN,toD,PyData.eqv,n]
theorem zd5 {a b : Nat} (ha : a < 10 ^ 31) (hb : b < 10 ^ 31) (h : AH) : fAdd (.str (Str.ofString "fork ")) (.str (strI a)) h = .ok (.str ((Str.ofString "fork ")++strI a)) h /\ fAdd (.str ((Str.ofString "fork ")++strI a)) (.str (Str.ofString " ")) h = .ok (.str (((Str.ofString "fork ")++strI a)++(Str.ofString " "))) h /\
  fAdd (.str (((Str.ofString "fork ")++strI a)++(Str.ofString " "))) (.str (strI b)) h = .ok (.str (rowS (.fork a b))) h:=by
 have l5 : (Str.ofString "fork ").length = 5:=by decide +kernel
 have l1 : (Str.ofString " ").length = 1:=by decide +kernel
 obtain ⟨_,a2,_⟩:=yb1 a ha
 obtain ⟨_,b2,_⟩:=yb1 b hb
 have s1 : (Str.ofString "fork ").length + (strI a).length <= sizeLine:=Nat.le_trans (m:=100) (by lia) (by decide)
 have s2 : ((Str.ofString "fork ")++strI a).length + (Str.ofString " ").length <= sizeLine:=Nat.le_trans (m:=100) (by rw [zaf]; lia) (by decide)
 have s3 : (((Str.ofString "fork ")++strI a)++(Str.ofString " ")).length + (strI b).length <= sizeLine:=Nat.le_trans (m:=100) (by rw [zaf,zaf]; lia) (by decide)
 exact ⟨by simp only [fAdd,s1,if_true],by simp only [fAdd,s2,if_true],by simp only [fAdd,s3,if_true]; rfl⟩
theorem zhu {x : Str} (hl : x.length <= 8) (h : AH) : fAdd (.str (Str.ofString "leaf ")) (.str (escS x)) h = .ok (.str (rowS (.leaf x))) h:=by
 have l5 : (Str.ofString "leaf ").length = 5:=by decide +kernel
 have:=zbZ x
 have s1 : (Str.ofString "leaf ").length + (escS x).length <= sizeLine:=Nat.le_trans (m:=100) (by lia) (by decide)
 simp only [fAdd,s1,if_true]; rfl
theorem fold_len (k : Nat) : ∀ (l : List Str) (n : Nat),l.foldl (λa p=>a + p.length + k) n = n + (l.map (·.length)).sum + l.length * k
 | [],n=>by simp
 | p :: l,n=>by
  rw [List.foldl_cons,fold_len k l]
  simp only [List.map_cons,List.sum_cons,List.length_cons,Nat.add_mul,Nat.one_mul]
  lia
theorem yeb : ∀ l : List Str,(∀ x ∈ l,x.length <= 100) -> (l.map (·.length)).sum <= l.length * 100
 | [],_=>by simp
 | p :: l,h=>by
  have:=h p (List.mem_cons_self ..)
  have:=yeb l λx hx=>h x (List.mem_cons_of_mem _ hx)
  simp only [List.map_cons,List.sum_cons,List.length_cons]
  lia
theorem zd6 {z : Str} (hz : ∀ c ∈ z.cps.toList,c < 200) (zs : List Str) (h : ∀ x ∈ zs,∀ c ∈ x.cps.toList,c < 200) : ∀ c ∈ (Builtin.Str.glued z zs).cps.toList,c < 200:=by
 have go : ∀ (l : List Str) (acc : Array Nat),(∀ c ∈ acc.toList,c < 200) -> (∀ x ∈ l,∀ c ∈ x.cps.toList,c < 200) -> ∀ c ∈ (l.foldl (λacc p=>acc++z.cps++p.cps) acc).toList,c < 200:=by
  intro l
  induction l with
  | nil=>intro acc ha _; exact ha
  | cons p l ih =>
   intro acc ha hl
   rw [List.foldl_cons]
   refine ih _ (λc hc=>?_) λx hx=>hl x (List.mem_cons_of_mem _ hx)
   simp only [Array.toList_append,List.mem_append] at hc
   rcases hc with (hc | hc) | hc
   ·exact ha c hc
   ·exact hz c hc
   ·exact hl p (List.mem_cons_self ..) c hc
 unfold Builtin.Str.glued
 refine go _ _ ?_ λx hx=>h x (List.mem_of_mem_drop hx)
 cases zs with
 | nil=>intro c hc; cases hc
 | cons p l=>exact h p (List.mem_cons_self ..)
theorem yft (zs : List Str) (hn : zs.length <= 30000) (h : ∀ x ∈ zs,x.length <= 100 /\ ∀ c ∈ x.cps.toList,c < 200) (u : AV) (hh : AH) (hu : ybi u hh = some (zs.map AV.str)) : ybj (.str "\n") [u] hh = .ok (.str (Builtin.Str.glued (Str.ofString "\n") zs)) hh:=by
 have ln : Str.length (Str.ofString "\n") = 1:=by decide +kernel
 have sm:=yeb zs λx hx=>(h x hx).1
 have sz:=size_glued (Str.ofString "\n") zs
 rw [ln,Nat.mul_one] at sz
 have ss : ycC (zs.map AV.str) = some zs:=by
  clear sz sm hu hn h
  induction zs with
  | nil=>rfl
  | cons x l ih=>simp [ih]
 have ok : JoinOk (Str.ofString "\n") zs = true:=by
  unfold JoinOk
  rw [Bool.not_eq_true',List.foldl_toArray,ln,fold_len]
  unfold Builtin.Str.tooLong
  exact decide_eq_false (Nat.not_lt.mpr (Nat.le_trans (m:=4000000) (by lia) (by decide)))
 have al:=yeG (zd6 (z:=Str.ofString "\n") (by decide +kernel) zs λx hx=>(h x hx).2)
 unfold ybj
 simp only [hu,ss]
 exact if_pos ⟨ok,Nat.le_trans (m:=4000000) (by lia) (by decide),al⟩
end Sk
namespace Sk
open PySem PySem.Spec L2 Sm
theorem zco {ps : List Pc} (g : Good ps) (hz : ps.length <= 30000) {i : Nat} {q : Pc} (e : ps[i]? = some q) : yer q:=by
 have hi:=(List.getElem?_eq_some_iff.mp e).1
 have ok:=g.get e
 cases q with
 | leaf x =>
  obtain ⟨s1,s2,s3⟩:=zaU (show ybc x = true from ok)
  have px : yaT x = true:=by
   have : ybc x = true:=ok
   simp only [ybc,Bool.and_eq_true] at this; exact this.1
  exact ⟨px,s2⟩
 | fork a b =>
  obtain ⟨_,_,ma,mb,_,_,e1,e2,_⟩:=(show ForkOk (ps.take i) a b from ok)
  have l1:=(List.getElem?_eq_some_iff.mp e1).1
  have l2:=(List.getElem?_eq_some_iff.mp e2).1
  rw [zao,List.length_take] at l1 l2
  have : (30002 : Nat) < 10 ^ 31:=by decide
  exact ⟨by lia,by lia⟩
theorem yhr {h : AH} {p L : Nat} {ps : List Pc} {q : Pc} {j : Nat} (rws : List AV) (S : ShelfAt h p ps) (e : ps[j]? = some q) (ok : yer q) (eL : h[L]? = some (.lst rws)) (hr : rws.length <= 30000) (o3 : Option AV) :
  ∃ (r : AH) (o3' : Option AV),yaQ [some (.ref p),some (.ref L),some (.int ((j : Int) + 1)),o3] h = .nx [some (.ref p),some (.ref L),some (.int ((j : Int) + 1)),o3'] ((h++r).set L (.lst (rws++[.str (rowS q)]))):=by
 have e1:=ziB S e
 have lL : L < h.length:=(List.getElem?_eq_some_iff.mp eL).1
 have ap : ∀ (hh : AH),hh[L]? = some (.lst rws) -> yaK (.ref L) [.str (rowS q)] hh = .ok .non (hh.set L (.lst (rws++[.str (rowS q)]))):=λhh ee=>by
  have : rws.length < sizeLine:=Nat.lt_of_le_of_lt hr (by decide)
  simp [ee,this]
 cases q with
 | leaf x =>
  obtain ⟨h1,h2⟩:=ok
  obtain ⟨r,ew⟩:=zfw h2 h
  have e3:=zhu h2 (h++r)
  have eL2 : (h++r)[L]? = some (.lst rws):=by rw [List.getElem?_append_left lL]; exact eL
  have a1:=ap _ eL2
  have ix : fIx (Pc.av (.leaf x)) (.int 1) h = .ok (.str x) h:=rfl
  have e0 : yaz (sOp2 fEq (sOp2 fIx (sVar 3) (sLit (.int 0))) (sLit (.str "leaf"))) [some (.ref p),some (.ref L),some (.int ((j : Int) + 1)),some (Pc.av (.leaf x))] h = .ok true h:=yim x h
  refine ⟨r,some (Pc.av (.leaf x)),?_⟩
  unfold yaQ
  generalize yaz (sOp2 fEq (sOp2 fIx (sVar 3) (sLit (.int 0))) (sLit (.str "leaf"))) = T1 at e0 ⊢
  generalize ybP = G at ew ⊢
  generalize ybB = G2 at e1 ⊢
  generalize Pc.av (.leaf x) = Z at *
  generalize rowS (.leaf x) = R at *
  generalize (h++r).set L (.lst (rws++[.str R])) = HZ at *
  simp [e0,e1,ew,e3,ix,a1,S.ob,eL,eL2,-fIx,-fAdd,-yaK]
 | fork a b =>
  obtain ⟨h1,h2⟩:=ok
  obtain ⟨_,_,a3⟩:=yb1 a h1
  obtain ⟨_,_,b3⟩:=yb1 b h2
  obtain ⟨f1,f2,f3⟩:=zd5 h1 h2 h
  have i1 : fIx (Pc.av (.fork a b)) (.int 1) h = .ok (.int a) h:=rfl
  have i2 : fIx (Pc.av (.fork a b)) (.int 2) h = .ok (.int b) h:=rfl
  have a1:=ap _ eL
  have e0 : yaz (sOp2 fEq (sOp2 fIx (sVar 3) (sLit (.int 0))) (sLit (.str "leaf"))) [some (.ref p),some (.ref L),some (.int ((j : Int) + 1)),some (Pc.av (.fork a b))] h = .ok false h:=yin a b h
  refine ⟨[],some (Pc.av (.fork a b)),?_⟩
  rw [List.append_nil]
  unfold yaQ
  generalize yaz (sOp2 fEq (sOp2 fIx (sVar 3) (sLit (.int 0))) (sLit (.str "leaf"))) = T1 at e0 ⊢
  generalize ya7 = G at *
  generalize ybB = G2 at e1 ⊢
  generalize Pc.av (.fork a b) = Z at *
  generalize rowS (.fork a b) = R at *
  generalize h.set L (.lst (rws++[.str R])) = HZ at *
  simp [e0,e1,a3,b3,f1,f2,f3,i1,i2,a1,S.ob,eL,-fIx,-fAdd,-yaK]
end Sk
namespace Sk
open PySem PySem.Spec L2 Sm
theorem yfu (h r : AH) (x : AO) : (h++r).set h.length x = h++r.set 0 x:=by
 rw [List.set_append_right _ _ (Nat.le_refl _),Nat.sub_self]
theorem ziH {h : AH} {p : Nat} {ps : List Pc} (S : ShelfAt h p ps) (g : Good ps) (hz : ps.length <= 30000) : ∃ r : AH,ybf [.ref p] h = .ok (.str (Builtin.Str.glued (Str.ofString "\n") (ps.map rowS))) (h++r):=by
 obtain ⟨H1,eH1⟩ : ∃ H1 : AH,H1 = h++[.lst []]:=⟨_,rfl⟩
 have S1 : ShelfAt H1 p ps:=eH1 ▸ S.app _
 obtain ⟨e',H',r1,r,o2,o3,rfl,q2,rfl⟩:=yda (w:=none) (all:=yaC 1 ps.length) (t:=.nm 2) (b:=yaQ) (xs:=yaC 1 ps.length) (en:=[some (.ref p),some (.ref h.length),none,none]) (h:=H1)
  (λi en h' => ∃ (r : AH) (o2 o3 : Option AV),h' = h++r /\ (h++r)[h.length]? = some (.lst ((ps.take i).map λq=>.str (rowS q))) /\ en = [some (.ref p),some (.ref h.length),o2,o3])
  ⟨[.lst []],none,none,eH1,by simp,rfl⟩ (λ_ _ _ _=>rfl) (by
   rintro j y en h' hx ⟨r,o2,o3,rfl,q2,rfl⟩
   rw [zaH] at hx
   split at hx
   ·rename_i hj
    cases hx
    have ej : ps[j]? = some ps[j]:=List.getElem?_eq_getElem hj
    obtain ⟨r2,o3',e⟩:=yhr ((ps.take j).map λq=>.str (rowS q)) (S.app r) ej (zco g hz ej) q2 (by rw [List.length_map,List.length_take]; lia) o3
    rw [show (1 + (j : Int)) = (j : Int) + 1 by lia]
    show thn (yaQ [some (.ref p),some (.ref h.length),some (.int ((j : Int) + 1)),o3] (h++r)) _
    rw [e]
    rw [List.append_assoc,yfu]
    refine ⟨_,_,_,rfl,?_,rfl⟩
    rw [<- yfu,List.getElem?_set_self (by
     have:=(List.getElem?_eq_some_iff.mp q2).1
     simp only [List.length_append] at this ⊢; lia),List.take_succ,ej,List.map_append]
    rfl
   ·cases hx)
 rw [zaD,List.take_length] at q2
 have r2 : ybq (sLit (.int 1)) (sOp2 fAdd (ya6 0 yaN (sVar 0) sNil) (sLit (.int 1))) [some (.ref p),some (.ref h.length),none,none] H1 = .ok (yaC 1 ps.length,none) H1:=by
  refine zgr (i:=1) (j:=(ps.length : Int) + 1) (h1:=H1) rfl ?_ (by lia) (by decide) (by lia)
  have:=ydI S1
  generalize yaN = G at this ⊢
  simp [this,S1.ob]
 have f1:=(ybU (t:=.nm 2) (b:=yaQ) r2).trans r1
 have jn:=yft (ps.map rowS) (by simpa using hz) (λx hx=>by
  obtain ⟨q,hq,rfl⟩:=List.mem_map.mp hx
  obtain ⟨i,hi⟩:=List.getElem?_of_mem hq
  exact yea (zco g hz hi)) (.ref h.length) (h++r) (by simp [ybi,q2])
 refine ⟨r,?_⟩
 generalize hF : sFor (ybq (sLit (.int 1)) (sOp2 fAdd (ya6 0 yaN (sVar 0) sNil) (sLit (.int 1)))) (.nm 2) yaQ = F1 at f1
 unfold ybf
 rw [hF]
 generalize Builtin.Str.glued (Str.ofString "\n") (ps.map rowS) = GL at jn ⊢
 clear hF r1 r2 q2 S1
 subst eH1
 generalize h++r = HR at *
 simp [f1,jn]
theorem yf2 (x : Str) (h : AH) : fNe (.str x) (.str x) h = .ok (.bl false) h /\ fEq (.str x) (.str x) h = .ok (.bl true) h:=⟨by simp [toD,PyData.eqv],by simp [toD,PyData.eqv]⟩
theorem ziI (ns : List Int) (hl : ns.length <= 63) (h : AH) : ∃ (ps : List Pc) (h' : AH),yba [.fl (ns.map AV.int)] h = .ok (.ref h.length) h' /\ ShelfAt h' h.length ps /\ Good ps /\ ps.length <= 300:=by
 obtain ⟨p,ep⟩ : ∃ p,p = h.length:=⟨_,rfl⟩
 have mk:=yeE [some (.fl (ns.map AV.int)),none,none,none] h
 have S0 : ShelfAt (h++ycz h.length) h.length []:=by have:=yfr h []; simpa using this
 rw [<- ep] at mk S0 ⊢
 obtain ⟨H0,eH0⟩ : ∃ H,H = h++ycz p:=⟨_,rfl⟩
 have l0 : H0.length = p + 9:=by rw [eH0,List.length_append,<- ep]; rfl
 rw [<- eH0] at mk S0
 obtain ⟨N0,es0⟩:=zcm ns hl 0 (by decide) H0
 rw [l0] at es0
 obtain ⟨H1,eH1⟩ : ∃ H,H = H0++[AO.lst [.int N0]]:=⟨_,rfl⟩
 have S1 : ShelfAt H1 p []:=eH1 ▸ S0.app _
 have r1 : ∃ N : Int,H1[p + 9]? = some (.lst [.int N]):=⟨N0,by rw [eH1,<- l0]; simp⟩
 rw [<- eH1] at es0
 have hr : p + 9 < p \/ p + 8 < p + 9:=.inr (by lia)
 obtain ⟨v,H2,hv,ed,W1⟩:=zau S1 Good.nil r1 hr 4 (by decide) (by decide)
 have ed' : yai [.ref (p + 9),.int 4] H1 = .ok (.int v) H2:=ed
 obtain ⟨e',H3,lp,ps3,o3,W3,b3,rfl⟩:=yda (w:=none) (all:=yaC 0 v) (t:=.nm 3) (b:=yaR) (xs:=yaC 0 v) (en:=[some (.fl (ns.map AV.int)),some (.ref p),some (.ref (p + 9)),none]) (h:=H2)
  (λi en h' => ∃ (ps : List Pc) (o : Option AV),Wk p (p + 9) H2 h' [] ps (32 * i) /\ ps.length <= 32 * i /\ en = [some (.fl (ns.map AV.int)),some (.ref p),some (.ref (p + 9)),o])
  ⟨[],none,Wk.refl W1.sh W1.gd W1.row,by simp,rfl⟩ (λ_ _ _ _=>rfl) (by
   rintro j y en h' hx ⟨ps,o,W,hb,rfl⟩
   rw [zaH] at hx
   split at hx
   ·rename_i hj
    cases hx
    obtain ⟨n,y,ps',h2,et,Wt,_,_⟩:=yhn W.sh W.gd W.row hr 4 (by decide) (by lia)
    have et' : ybN [.ref p,.ref (p + 9),.int 4] h' = .ok (.tup [.int n,.str y]) h2:=et
    have e : yaR [some (.fl (ns.map AV.int)),some (.ref p),some (.ref (p + 9)),some (.int (0 + (j : Int)))] h' = .nx [some (.fl (ns.map AV.int)),some (.ref p),some (.ref (p + 9)),some (.int (0 + (j : Int)))] h2:=by
     unfold yaR
     generalize ybN = G at et' ⊢
     generalize ns.map AV.int = Z at *
     simp [et']
    show thn (yaR [some (.fl (ns.map AV.int)),some (.ref p),some (.ref (p + 9)),some (.int (0 + (j : Int)))] h') _
    rw [e]
    have:=Wt.len
    exact ⟨ps',_,W.trans Wt (by lia),by lia,rfl⟩
   ·cases hx)
 rw [zaD] at W3 b3
 have f1:=(ybU (t:=.nm 3) (b:=yaR) (zaT (a:=yad yai (yaa (sVar 2) (yaa (sLit (.int 4)) sNil))) (en:=[some (.fl (ns.map AV.int)),some (.ref p),some (.ref (p + 9)),none]) (h:=H1) (h1:=H2) (n:=v) (by
  generalize yai = G at *
  generalize ns.map AV.int = Z at *
  simp [ed']) (by lia))).trans lp
 obtain ⟨w,H4,hw,ed2,W4⟩:=zau W3.sh W3.gd W3.row hr 3 (by decide) (by decide)
 have ed2' : yai [.ref (p + 9),.int 3] H3 = .ok (.int w) H4:=ed2
 generalize hF : sFor (ybk (yad yai (yaa (sVar 2) (yaa (sLit (.int 4)) sNil)))) (.nm 3) yaR = F1 at f1
 have es0' : yaM [.fl (ns.map AV.int),.int 0] H0 = .ok (.ref (p + 9)) H1:=es0
 by_cases hw0 : w = 0
 ·subst hw0
  obtain ⟨N1,es1⟩:=zcm ns hl 1 (by decide) H4
  obtain ⟨r2,er2⟩ : ∃ r,r = H4.length:=⟨_,rfl⟩
  have lt4 : p + 8 < H4.length:=ybF W4.sh.h8
  obtain ⟨H5,eH5⟩ : ∃ H,H = H4++[AO.lst [.int N1]]:=⟨_,rfl⟩
  have S5 : ShelfAt H5 p ps3:=eH5 ▸ W4.sh.app _
  have r5 : ∃ N : Int,H5[r2]? = some (.lst [.int N]):=⟨N1,by rw [eH5,er2]; simp⟩
  rw [<- eH5,<- er2] at es1
  obtain ⟨n,y,k,ps6,H6,m,f,l,x,el,W6,_⟩:=yho S5 W4.gd r5 (.inr (by lia)) (by lia)
  have es1' : yaM [.fl (ns.map AV.int),.int 1] H4 = .ok (.ref r2) H5:=es1
  refine ⟨ps6,H6,?_,W6.sh,W6.gd,by have:=W6.len; lia⟩
  unfold yba
  rw [hF]
  generalize ycG 0 8 ya2 sNil = MK at *
  generalize yaM = G1 at *
  generalize yai = G2 at *
  generalize ycm = G3 at *
  generalize ns.map AV.int = Z at *
  simp [mk,es0',f1,ed2',es1',el,toD,PyData.eqv]
 ·refine ⟨ps3,H4,?_,W4.sh,W4.gd,by lia⟩
  have wne : ¬ ((w : Int) = 0):=by lia
  unfold yba
  rw [hF]
  generalize ycG 0 8 ya2 sNil = MK at *
  generalize yaM = G1 at *
  generalize yai = G2 at *
  generalize ns.map AV.int = Z at *
  simp [mk,es0',f1,ed2',toD,PyData.eqv,wne,hw0]
end Sk
namespace Sk
open PySem PySem.Spec L2 Sm
theorem yfv {c : Nat} : ∀ {p p' r r' : List Nat},c ∉ p -> c ∉ p' -> p++c :: r = p' ++ c :: r' -> p = p' /\ r = r'
 | [],[],r,r',_,_,e=>by simp at e; exact ⟨rfl,e⟩
 | [],a :: p',r,r',_,h,e=>by simp at e; exact absurd (by rw [e.1]; exact List.mem_cons_self ..) h
 | a :: p,[],r,r',h,_,e=>by simp at e; exact absurd (by rw [e.1]; exact List.mem_cons_self ..) h
 | a :: p,b :: p',r,r',h,h',e=>by
  simp only [List.cons_append,List.cons.injEq] at e
  obtain ⟨ea,e⟩:=e
  obtain ⟨e1,e2⟩:=yfv (λz=>h (List.mem_cons_of_mem _ z)) (λz=>h' (List.mem_cons_of_mem _ z)) e
  exact ⟨by rw [ea,e1],e2⟩
theorem yb2 (c : Nat) (p q : Str) (r : List Str) : (Str.join ⟨#[c]⟩ (p :: q :: r)).cps.toList = p.cps.toList++c :: (Str.join ⟨#[c]⟩ (q :: r)).cps.toList:=by
 show (p++⟨#[c]⟩++Str.join ⟨#[c]⟩ (q :: r)).cps.toList = _
 simp only [Str.cps_append,Array.toList_append]
 simp
theorem zd7 (c : Nat) : ∀ (A B : List Str),A ≠ [] -> B ≠ [] -> (∀ p ∈ A,c ∉ p.cps.toList) -> (∀ p ∈ B,c ∉ p.cps.toList) -> (Str.join ⟨#[c]⟩ A).cps.toList = (Str.join ⟨#[c]⟩ B).cps.toList -> A = B
 | [],_,h,_,_,_,_=>absurd rfl h
 | _,[],_,h,_,_,_=>absurd rfl h
 | [p],[q],_,_,_,_,e=>by rw [ycn (show p.cps.toList = q.cps.toList from e)]
 | [p],q :: q2 :: r,_,_,h,_,e=>by
  rw [yb2] at e
  exact absurd (show c ∈ p.cps.toList by rw [show p.cps.toList = _ from e]; simp) (h p (List.mem_cons_self ..))
 | p :: p2 :: r,[q],_,_,_,h,e=>by
  rw [yb2] at e
  exact absurd (show c ∈ q.cps.toList by rw [show q.cps.toList = _ from e.symm]; simp) (h q (List.mem_cons_self ..))
 | p :: p2 :: r,q :: q2 :: s,_,_,h,h',e=>by
  rw [yb2,yb2] at e
  obtain ⟨e1,e2⟩:=yfv (h p (List.mem_cons_self ..)) (h' q (List.mem_cons_self ..)) e
  rw [ycn e1,zd7 c (p2 :: r) (q2 :: s) (by simp) (by simp) (λx hx=>h x (List.mem_cons_of_mem _ hx)) (λx hx=>h' x (List.mem_cons_of_mem _ hx)) e2]
theorem zhv (x y : Str) : Txt.split x y ≠ []:=by
 unfold Txt.split
 split
 ·simp
 ·split
  ·simp
  ·rw [StrLaws.partsBetween_eq]
   obtain ⟨p,r,e⟩:=StrLaws.partsFrom_ne x y.length 0 (Builtin.Str.occurrences x y 0 x.length (x.length + 1))
   rw [e]; simp
theorem zby (c : Nat) (A : List Str) (hA : A ≠ []) (hf : ∀ p ∈ A,c ∉ p.cps.toList) : Txt.split (Str.join ⟨#[c]⟩ A) ⟨#[c]⟩ = A :=
 zd7 c _ _ (zhv _ _) hA (StrLaws.split_free _ c) hf (by rw [StrLaws.join_split])
theorem yfw (x : Str) (w : Nat) : ∀ (cuts : List Nat) (a : Nat),(StrLaws.partsFrom x w a cuts).length = cuts.length + 1
 | [],a=>rfl
 | c :: r,a=>by
  show (StrLaws.partsFrom x w (c + w) r).length + 1 = _
  rw [yfw x w r]; rfl
theorem zd8 (c : Nat) {p : Str} : ∀ {A : List Str},p ∈ A -> ∃ u v,(Str.join ⟨#[c]⟩ A).cps.toList = u++p.cps.toList++v
 | [],h=>nomatch h
 | [q],h=>by
  rw [List.mem_singleton.mp h]
  exact ⟨[],[],by simp [Str.join]⟩
 | q :: q2 :: r,h=>by
  rw [yb2]
  rcases List.mem_cons.mp h with e | h
  ·rw [e]; exact ⟨[],c :: (Str.join ⟨#[c]⟩ (q2 :: r)).cps.toList,by simp⟩
  ·obtain ⟨u,v,e⟩:=zd8 c h
   rw [e]
   exact ⟨q.cps.toList++c :: u,v,by simp⟩
theorem zaE (z : Str) (c : Nat) (hl : z.length <= 5000000) (hp : ∀ d ∈ z.cps.toList,d < 200) (h : AH) : ybI (.str z) [.str ⟨#[c]⟩] h = .ok (.fl ((Txt.split z ⟨#[c]⟩).map AV.str)) h:=by
 have hc : z.cps.toList.count c <= z.cps.toList.length:=List.count_le_length
 rw [<- zak] at hc
 unfold ybI
 simp only []
 refine if_pos ⟨rfl,Nat.le_trans hl (by decide),?_,λp hp' => ?_⟩
 ·rw [StrLaws.partsBetween_eq,yfw,zdl]
  exact Nat.le_trans (Nat.succ_le_succ (Nat.le_trans hc hl)) (by decide)
 ·obtain ⟨u,v,e⟩:=zd8 c hp'
  rw [StrLaws.join_split] at e
  refine ⟨Nat.le_trans (m:=5000000) ?_ (by decide),yeG λd hd=>hp d (by rw [e]; simp [hd])⟩
  have:=congrArg List.length e
  rw [<- zak] at this
  simp only [List.length_append] at this
  rw [zak]; lia
end Sk
namespace Sk
open PySem PySem.Spec L2 Sm
def fnd1 (c : Nat) : List Str:=if c = 92 then ["", "\\"] else if c = 10 then ["", "\n"] else [⟨#[c]⟩]
theorem ze0 : ∀ l : List Nat,(((l.flatMap fnd1).map λx : Str=>x.cps.toList).flatten) = l
 | []=>rfl
 | c :: l=>by
  rw [List.flatMap_cons,List.map_append,List.flatten_append,ze0 l]
  have : ((fnd1 c).map λx : Str=>x.cps.toList).flatten = [c]:=by
   unfold fnd1
   by_cases h1 : c = 92
   ·subst h1; decide +kernel
   ·by_cases h2 : c = 10
    ·subst h2; decide +kernel
    ·rw [if_neg h1,if_neg h2]; rfl
  rw [this]; rfl
theorem ap87 {h : AH} {L : Nat} {zs : List AV} (e : h[L]? = some (.lst zs)) (hz : zs.length <= 100000) (v : AV) : yaK (.ref L) [v] h = .ok .non (h.set L (.lst (zs++[v]))):=by
 have : zs.length < sizeLine:=Nat.lt_of_le_of_lt hz (by decide)
 simp [e,this]
theorem il87 {h : AH} {L : Nat} {zs : List AV} (e : h[L]? = some (.lst zs)) : ybb (.ref L) h = true:=by simp [ybb,ybi,e]
theorem rp_1 {h : AH} {L c : Nat} {zs : List AV} (e : h[L]? = some (.lst zs)) (hz : zs.length <= 100000) (pc : ybV c = true) (n1 : c ≠ 92) (n2 : c ≠ 10) (o0 o4 : Option AV) : yal [o0,some (.ref L),some (.bl false),some (.str ⟨#[c]⟩),o4] h = .nx [o0,some (.ref L),some (.bl false),some (.str ⟨#[c]⟩),some (.str ⟨#[c]⟩)] (h.set L (.lst (zs++[.str ⟨#[c]⟩]))):=by
 have fs:=yeD c h
 rw [pc] at fs
 have a1:=ap87 e hz (.str ⟨#[c]⟩)
 have q1 : fEq (.str ⟨#[c]⟩) (.str "\\") h = .ok (.bl false) h:=by simp [ydJ,n1]
 have q2 : fNe (.str ⟨#[c]⟩) (.str "\n") h = .ok (.bl true) h:=by simp [ybw,n2]
 have il:=il87 e
 unfold yal
 generalize ya1 = G at *
 simp [fs,a1,q1,q2,il,-fEq,-fNe,-yaK,-ybb]
theorem rp_2 {h : AH} {L : Nat} {zs : List AV} (e : h[L]? = some (.lst zs)) (hz : zs.length <= 100000) (o0 o4 : Option AV) : yal [o0,some (.ref L),some (.bl false),some (.str ⟨#[92]⟩),o4] h = .nx [o0,some (.ref L),some (.bl true),some (.str ⟨#[92]⟩),some (.str "")] (h.set L (.lst (zs++[.str ""]))):=by
 have a1:=ap87 e hz (.str "")
 have q1 : fEq (.str ⟨#[92]⟩) (.str "\\") h = .ok (.bl true) h:=by simp [ydJ]
 have il:=il87 e
 unfold yal
 simp [a1,q1,il,-fEq,-fNe,-yaK,-ybb]
theorem rp_3 {h : AH} {L c : Nat} {y : Str} {zs : List AV} (e : h[L]? = some (.lst zs)) (hz : zs.length <= 100000) (hc : getG D_MARKED ⟨#[c]⟩ = some y) (o0 o4 : Option AV) : yal [o0,some (.ref L),some (.bl true),some (.str ⟨#[c]⟩),o4] h = .nx [o0,some (.ref L),some (.bl false),some (.str ⟨#[c]⟩),some (.str y)] (h.set L (.lst (zs++[.str y]))):=by
 have a1:=ap87 e hz (.str y)
 have il:=il87 e
 unfold yal
 simp [yeq,hc,a1,il,-fEq,-fNe,-yaK,-ybb]
theorem ycA {all : List AV} {b : SS} {x : AV} {xs : List AV} {en e1 e2 : En} {h h2 : AH} (s : setT (.nm 3) x en = some e1) (e : b e1 h = .nx e2 h2) : yaH none all (.nm 3) b (x :: xs) en h = yaH none all (.nm 3) b xs e2 h2:=by
 rw [yaH]
 show (if yaZ none all h = true then _ else _) = _
 rw [if_pos (show yaZ none all h = true from rfl),s]
 simp only [e]
theorem yes (all : List AV) (L : Nat) (o0 : Option AV) : ∀ (l : List Nat) (zs : List AV) (o3 o4 : Option AV) (h : AH),(∀ c ∈ l,ybV c = true) -> h[L]? = some (.lst zs) -> zs.length + 2 * l.length <= 100000 ->
  ∃ o3' o4',yaH none all (.nm 3) yal ((l.flatMap esc1).map λc=>AV.str ⟨#[c]⟩) [o0,some (.ref L),some (.bl false),o3,o4] h = .nx [o0,some (.ref L),some (.bl false),o3',o4'] (h.set L (.lst (zs++(l.flatMap fnd1).map AV.str)))
 | [],zs,o3,o4,h,_,e,_=>⟨o3,o4,by
  have : h.set L (.lst zs) = h:=by
   apply List.ext_getElem?
   intro i
   by_cases q : L = i
   ·subst q; rw [List.getElem?_set_self (ybF e),e]
   ·rw [List.getElem?_set_ne q]
  simp [yaH,yaZ,this]⟩
 | c :: l,zs,o3,o4,h,hp,e,hz=>by
  rw [List.length_cons] at hz
  have lL:=ybF e
  rw [List.flatMap_cons,List.flatMap_cons,List.map_append,List.map_append]
  have hp' : ∀ d ∈ l,ybV d = true:=λd hd=>hp d (List.mem_cons_of_mem _ hd)
  by_cases h1 : c = 92
  ·subst h1
   have e1 : esc1 92 = [92,92]:=rfl
   have f1 : fnd1 92 = ([("" : Str),("\\" : Str)] : List Str):=rfl
   rw [e1,f1]
   have es : (h.set L (.lst (zs++[.str ""])))[L]? = some (.lst (zs++[.str ""])):=List.getElem?_set_self lL
   obtain ⟨o3',o4',q⟩:=yes all L o0 l (zs++[.str "",.str "\\"]) (some (.str ⟨#[92]⟩)) (some (.str "\\")) (h.set L (.lst (zs++[.str "",.str "\\"]))) hp' (List.getElem?_set_self lL) (by simp; lia)
   refine ⟨o3',o4',?_⟩
   show yaH none all (.nm 3) yal (AV.str ⟨#[92]⟩ :: AV.str ⟨#[92]⟩ :: (l.flatMap esc1).map λc=>AV.str ⟨#[c]⟩) _ h = _
   rw [ycA rfl (rp_2 e (by lia) o0 o4),ycA rfl (rp_3 es (by simp; lia) (show getG D_MARKED ⟨#[92]⟩ = some "\\" by decide +kernel) o0 (some (.str "")))]
   rw [List.set_set,List.append_assoc]
   refine q.trans ?_
   rw [List.set_set,List.append_assoc]
   rfl
  ·by_cases h2 : c = 10
   ·subst h2
    have e1 : esc1 10 = [92,110]:=rfl
    have f1 : fnd1 10 = ([("" : Str),("\n" : Str)] : List Str):=rfl
    rw [e1,f1]
    have es : (h.set L (.lst (zs++[.str ""])))[L]? = some (.lst (zs++[.str ""])):=List.getElem?_set_self lL
    obtain ⟨o3',o4',q⟩:=yes all L o0 l (zs++[.str "",.str "\n"]) (some (.str ⟨#[110]⟩)) (some (.str "\n")) (h.set L (.lst (zs++[.str "",.str "\n"]))) hp' (List.getElem?_set_self lL) (by simp; lia)
    refine ⟨o3',o4',?_⟩
    show yaH none all (.nm 3) yal (AV.str ⟨#[92]⟩ :: AV.str ⟨#[110]⟩ :: (l.flatMap esc1).map λc=>AV.str ⟨#[c]⟩) _ h = _
    rw [ycA rfl (rp_2 e (by lia) o0 o4),ycA rfl (rp_3 es (by simp; lia) (show getG D_MARKED ⟨#[110]⟩ = some "\n" by decide +kernel) o0 (some (.str "")))]
    rw [List.set_set,List.append_assoc]
    refine q.trans ?_
    rw [List.set_set,List.append_assoc]
    rfl
   ·have e1 : esc1 c = [c]:=by unfold esc1; rw [if_neg h1,if_neg h2]
    have f1 : fnd1 c = [⟨#[c]⟩]:=by unfold fnd1; rw [if_neg h1,if_neg h2]
    rw [e1,f1]
    obtain ⟨o3',o4',q⟩:=yes all L o0 l (zs++[.str ⟨#[c]⟩]) (some (.str ⟨#[c]⟩)) (some (.str ⟨#[c]⟩)) (h.set L (.lst (zs++[.str ⟨#[c]⟩]))) hp' (List.getElem?_set_self lL) (by simp; lia)
    refine ⟨o3',o4',?_⟩
    show yaH none all (.nm 3) yal (AV.str ⟨#[c]⟩ :: (l.flatMap esc1).map λc=>AV.str ⟨#[c]⟩) _ h = _
    rw [ycA rfl (rp_1 e (by lia) (hp c (List.mem_cons_self ..)) h1 h2 o0 o4)]
    refine q.trans ?_
    rw [List.set_set,List.append_assoc]
    rfl
theorem yfx : ∀ l : List Str,ycC (l.map AV.str) = some l
 | []=>rfl
 | x :: l=>by simp [yfx l]
theorem zcp {x : Str} (px : yaT x = true) (hl : x.length <= 100) (h : AH) : ∃ o : AO,yat [.str (escS x)] h = .ok (.str x) (h++[o]):=by
 obtain ⟨all,eall⟩ : ∃ all,all = (x.cps.toList.flatMap esc1).map λc=>AV.str ⟨#[c]⟩:=⟨_,rfl⟩
 obtain ⟨o3,o4,q⟩:=yes all h.length (some (.str (escS x))) x.cps.toList [] none none (h++[.lst []]) (λc hc=>List.all_eq_true.mp px c hc) (by simp) (by rw [<- zak,List.length_nil]; lia)
 rw [<- eall] at q
 have it : iVal (sVar 0) [some (.str (escS x)),some (.ref h.length),some (.bl false),none,none] (h++[.lst []]) = .ok (all,none) (h++[.lst []]):=by rw [eall]; simp [escS]
 have f1:=(ybU (t:=.nm 3) (b:=yal) it).trans q
 have hs : (h++[AO.lst []]).set h.length (.lst ([]++(x.cps.toList.flatMap fnd1).map AV.str)) = h++[.lst ((x.cps.toList.flatMap fnd1).map AV.str)]:=by
  rw [List.set_append_right _ _ (Nat.le_refl _),Nat.sub_self]; rfl
 rw [hs] at f1
 have jn : ych (.str "") [.ref h.length] (h++[.lst ((x.cps.toList.flatMap fnd1).map AV.str)]) = .ok (.str x) (h++[.lst ((x.cps.toList.flatMap fnd1).map AV.str)]):=by
  have lo : ybi (.ref h.length) (h++[.lst ((x.cps.toList.flatMap fnd1).map AV.str)]) = some ((x.cps.toList.flatMap fnd1).map AV.str):=by simp [ybi]
  have z : (Str.ofString "") = Str.empty:=by decide +kernel
  simp only [ych,z,if_true,lo,yfx,ze0]
  rw [if_pos (by rw [<- zak]; lia)]
 refine ⟨.lst ((x.cps.toList.flatMap fnd1).map AV.str),?_⟩
 generalize hF : sFor (iVal (sVar 0)) (.nm 3) yal = F1 at f1
 unfold yat
 rw [hF]
 generalize h++[.lst ((x.cps.toList.flatMap fnd1).map AV.str)] = HR at *
 simp [f1,jn,-ych]
end Sk
namespace Sk
open PySem PySem.Spec L2 Sm
theorem lead : ∀ m : Nat,1 <= m -> ∀ c r,Nat.toDigits 10 m = c :: r -> c ≠ '0' := by
 intro m
 induction m using Nat.strongRecOn with
 | _ m ih =>
  intro h1 c r e
  by_cases h : m < 10
  ·rw [Nat.toDigits_of_lt_base h] at e
   injection e with e _
   have : m = 1 \/ m = 2 \/ m = 3 \/ m = 4 \/ m = 5 \/ m = 6 \/ m = 7 \/ m = 8 \/ m = 9:=by lia
   rcases this with rfl | rfl | rfl | rfl | rfl | rfl | rfl | rfl | rfl<;>(rw [<- e]; decide)
  ·have t : Nat.toDigits 10 (m / 10)++Nat.toDigits 10 (m % 10) = Nat.toDigits 10 (10 * (m / 10) + m % 10):=Nat.toDigits_append_toDigits (by decide) (by lia) (Nat.mod_lt m (by decide))
   rw [Nat.div_add_mod] at t
   rw [<- t] at e
   cases q : Nat.toDigits 10 (m / 10) with
   | nil=>have:=PySem.toDigits_len_ge 10 (m / 10); rw [q] at this; exact absurd this (by decide)
   | cons d s =>
    rw [q] at e
    injection e with e _
    rw [<- e]
    exact ih (m / 10) (by lia) (by lia) d s q
theorem ydv {a : Nat} (h1 : 1 <= a) (h2 : a < 10 ^ 10) : (strI a).length <= 30 /\ (∀ c ∈ (strI a).cps.toList,48 <= c /\ c <= 57) /\ (∃ c r,(strI a).cps.toList = c :: r /\ c ≠ 48) /\ PySem.intText? (strI a) = some (a : Int):=by
 have sg : (strI a).cps.toList = (Nat.toDigits 10 a).map Char.toNat:=PySem.W.KIN.signs_num a
 refine ⟨?_,?_,?_,PySem.W.KIN.num_reads (by lia) (by lia)⟩
 ·rw [zak,sg,List.length_map]
  exact Nat.le_trans (PySem.toDigits_len_pow (k:=10) (by decide) (by decide) h2) (by decide)
 ·intro c hc
  rw [sg] at hc
  obtain ⟨ch,hch,e⟩:=List.mem_map.mp hc
  have r:=PyProof.Rows.digit_range (Nat.isDigit_of_mem_toDigits (by decide) (by decide) hch)
  rw [<- e]; exact r
 ·rw [sg]
  cases q : Nat.toDigits 10 a with
  | nil=>have:=PySem.toDigits_len_ge 10 a; rw [q] at this; exact absurd this (by decide)
  | cons d s =>
   refine ⟨d.toNat,s.map Char.toNat,rfl,λe=>lead a h1 d s q ?_⟩
   exact Char.toNat_inj.mp (e.trans (by decide))
theorem yf3 : (Str.ofString "0") = ⟨#[48]⟩:=by decide +kernel
theorem yio : (Str.ofString "9") = ⟨#[57]⟩:=by decide +kernel
theorem yco {a : Nat} (h1 : 1 <= a) (h2 : a < 10 ^ 10) (h : AH) : yan [.str (strI a)] h = .ok (.int a) h:=by
 obtain ⟨l30,dg,⟨c0,r0,e0,n0⟩,it⟩:=ydv h1 h2
 obtain ⟨x,ex⟩ : ∃ x,x = strI a:=⟨_,rfl⟩
 rw [<- ex] at l30 dg e0 it ⊢
 have l1 : 1 <= x.length:=by rw [zak,e0]; simp
 have cm:=zcj (js:=[]) (en:=[some (.str x)]) (all:=x.cps.toList.map λc=>AV.str ⟨#[c]⟩) (e:=ybS fLe fLe (sLit (.str "0")) (sVar 0) (sLit (.str "9"))) (g:=λc=>AV.str ⟨#[c]⟩) (f:=λ_=>AV.bl true) (h:=h) x.cps.toList [] (by
  intro c hc
  obtain ⟨a1,a2⟩:=dg c hc
  have n1 : ¬ c < 48:=by lia
  have n2 : ¬ 57 < c:=by lia
  simp [yf3,yio,lt1,n1,n2]) (by rw [List.length_nil,<- zak]; exact Nat.le_trans (m:=30) (by lia) (by decide))
 rw [List.nil_append] at cm
 have al : fAll [.fl (x.cps.toList.map λ_=>AV.bl true)] h = .ok (.bl true) h:=by
  have:=zbL (λ_=>true) x.cps.toList
  simp [this]
 have cp : ybl [] (iVal (sVar 0)) sYes (ybS fLe fLe (sLit (.str "0")) (sVar 0) (sLit (.str "9"))) [some (.str x)] h = .ok (.fl (x.cps.toList.map λ_=>AV.bl true)) h:=by
  have iv : iVal (sVar 0) [some (.str x)] h = .ok (x.cps.toList.map λc=>AV.str ⟨#[c]⟩,none) h:=rfl
  simp only [ybl,iv,cm]
 have st : yaX (.str x) [.str "0"] h = .ok (.bl false) h:=by
  unfold yaX
  have : Txt.startswith x (Str.ofString "0") = false:=by
   unfold Txt.startswith
   rw [yf3,zcX x 48 0 (by lia),e0]
   simp [n0]
  simp only [this]
 have nt : yd6 [.str x] h = .ok (.int a) h:=by
  unfold yd6
  simp only [it]
  rw [if_pos (by lia)]
 have c1 : (1 : Int) <= x.length:=by lia
 have c2 : (x.length : Int) <= 30:=by lia
 have ne : fNe (.str x) (.str "0") h = .ok (.bl true) h \/ fNe (.str x) (.str "0") h = .ok (.bl false) h:=by
  by_cases q : x = Str.ofString "0" <;> simp [q]
 unfold yan
 generalize ybl [] (iVal (sVar 0)) sYes (ybS fLe fLe (sLit (.str "0")) (sVar 0) (sLit (.str "9"))) = CP at *
 generalize x.cps.toList.map (λ_=>AV.bl true) = BS at *
 rcases ne with ne | ne<;>simp [c1,c2,cp,al,st,nt,ne,-fAll,-fNe]
theorem ziJ {y z w : Str} (hl : y.length = w.length) : Builtin.Str.subAt (y++z) w 0 = decide (y = w):=by
 unfold Builtin.Str.subAt
 have e : (y++z).cps.extract 0 (0 + w.length) = y.cps:=by
  rw [Str.cps_append,<- hl]
  apply Array.ext'
  simp [Str.length]
 rw [e]
 by_cases q : y = w
 ·subst q; simp
 ·have : y.cps ≠ w.cps:=λe=>q (by cases y; cases w; simp only at e; rw [e])
  simp [q,this]
theorem zaW {y z w : Str} (hl : y.length = w.length) : Txt.startswith (y++z) w = decide (y = w):=by
 unfold Txt.startswith
 rw [ziJ hl]
 have : 0 + w.length <= (y++z).length:=by rw [zaf]; lia
 rw [decide_eq_true this,Bool.true_and]
theorem ze1 (y z : Str) : cutS (y++z) (some (y.length : Int)) none = z:=ycn (by
 unfold cutS
 have e1 : HT.sIx (y++z).cps.toList.length 0 (some (y.length : Int)) = y.length:=by
  simp only [HT.sIx]
  rw [if_neg (by lia),<- zak,zaf]; lia
 have e2 : HT.sIx (y++z).cps.toList.length (y++z).cps.toList.length none = (y++z).cps.toList.length:=rfl
 simp only [e1,e2]
 rw [List.toList_toArray,zah,zak,List.drop_left,List.take_of_length_le (by simp)])
end Sk
namespace Sk
open PySem PySem.Spec L2 Sm
theorem zgA {h : AH} {p : Nat} {ps : List Pc} {x : Str} (S : ShelfAt h p ps) (hx : ybc x = true) (hq : Pc.leaf x ∉ ps) (hz : ps.length < 16000000) : ∃ o : AO,yaq [.ref p,.str (rowS (.leaf x))] h = .ok (.int ((ps.length + 1 : Nat) : Int)) (ya4 (h++[o]) p (ps++[.leaf x])):=by
 obtain ⟨s1,s2,s3⟩:=zaU hx
 obtain ⟨o,er⟩:=zcp s3 (Nat.le_trans s2 (by decide)) h
 obtain ⟨r1,r2⟩:=yea (q:=.leaf x) ⟨s3,s2⟩
 have sp:=zaE (rowS (.leaf x)) 32 (by lia) r2 h
 rw [<- ydl] at sp
 have l5 : (Str.ofString "leaf ").length = 5:=by decide +kernel
 have st : yaX (.str (rowS (.leaf x))) [.str "leaf "] h = .ok (.bl true) h:=by
  have : Txt.startswith (rowS (.leaf x)) (Str.ofString "leaf ") = true:=by
   show Txt.startswith ((Str.ofString "leaf ")++escS x) (Str.ofString "leaf ") = true
   rw [zaW rfl]; simp
  unfold yaX
  simp only [this]
 have fl : fLen [.str "leaf "] h = .ok (.int 5) h:=by simp [l5]
 have ct : ybo (.str (rowS (.leaf x))) (some 5) none h = .ok (.str (escS x)) h:=by
  have:=ze1 (Str.ofString "leaf ") (escS x)
  rw [l5] at this
  show Out.ok (AV.str (cutS ((Str.ofString "leaf ")++escS x) (some 5) none)) h = _
  rw [show (5 : Int) = ((5 : Nat) : Int) from rfl,this]
 have nw:=zcF (S.app [o]) hx (Nat.le_trans s2 (by decide)) hq hz
 have ob:=(S.app [o]).ob
 refine ⟨o,?_⟩
 unfold yaq
 generalize yat = G1 at *
 generalize yay = G2 at *
 generalize yan = G3 at *
 generalize yax = G4 at *
 generalize rowS (.leaf x) = R at *
 generalize (Txt.split R (Str.ofString " ")).map AV.str = WS at *
 generalize ya4 (h++[o]) p (ps++[.leaf x]) = HZ at *
 generalize ((ps.length + 1 : Nat) : Int) = N at *
 have ob0:=S.ob
 generalize h++[o] = HO at *
 simp [sp,st,fl,ct,er,nw,ob,ob0,-fLen,-ybo]
theorem zhw (a b : Nat) : rowS (.fork a b) = Str.join ⟨#[32]⟩ [Str.ofString "fork",strI a,strI b]:=ycn (by
 have e : (Str.ofString "fork ").cps.toList = (Str.ofString "fork").cps.toList++[32]:=by decide +kernel
 have e2 : (Str.ofString " ").cps.toList = [32]:=by decide +kernel
 rw [yb2,yb2]
 show ((((Str.ofString "fork ")++strI a)++(Str.ofString " "))++strI b).cps.toList = (Str.ofString "fork").cps.toList++32 :: ((strI a).cps.toList++32 :: (strI b).cps.toList)
 rw [zah,zah,zah,e,e2]
 simp)
theorem zgB {h : AH} {p : Nat} {ps : List Pc} {a b : Nat} (S : ShelfAt h p ps) (F : ForkOk ps a b) (ha : a < 10 ^ 10) (hb : b < 10 ^ 10) (hq : Pc.fork a b ∉ ps) (hz : ps.length < 16000000) : yaq [.ref p,.str (rowS (.fork a b))] h = .ok (.int ((ps.length + 1 : Nat) : Int)) (ya4 h p (ps++[.fork a b])):=by
 obtain ⟨r1,r2⟩:=yea (q:=.fork a b) ⟨by lia,by lia⟩
 have sp:=zaE (rowS (.fork a b)) 32 (by lia) r2 h
 have na:=(ydv F.pa ha).2.1
 have nb:=(ydv F.pb hb).2.1
 have sj:=zby 32 [Str.ofString "fork",strI a,strI b] (by simp) (λq hq=>by
  rcases List.mem_cons.mp hq with rfl | hq
  ·decide +kernel
  ·rcases List.mem_cons.mp hq with rfl | hq
   ·exact λz=>absurd (na 32 z).1 (by decide)
   ·rw [List.mem_singleton.mp hq]; exact λz=>absurd (nb 32 z).1 (by decide))
 rw [<- zhw] at sj
 rw [sj,<- ydl] at sp
 have st : yaX (.str (rowS (.fork a b))) [.str "leaf "] h = .ok (.bl false) h:=by
  have : Txt.startswith (rowS (.fork a b)) (Str.ofString "leaf ") = false:=by
   show Txt.startswith ((((Str.ofString "fork ")++strI a)++(Str.ofString " "))++strI b) (Str.ofString "leaf ") = false
   rw [zaA,zaA,zaW (by decide +kernel)]
   exact decide_eq_false (by decide +kernel)
  unfold yaX
  simp only [this]
 have n1:=yco F.pa ha h
 have n2:=yco F.pb hb h
 have nw:=zcH S F hq hz
 have i0 : fIx (.fl ([Str.ofString "fork",strI a,strI b].map AV.str)) (.int 0) h = .ok (.str (Str.ofString "fork")) h:=rfl
 have j1 : fIx (.fl ([Str.ofString "fork",strI a,strI b].map AV.str)) (.int 1) h = .ok (.str (strI a)) h:=rfl
 have j2 : fIx (.fl ([Str.ofString "fork",strI a,strI b].map AV.str)) (.int 2) h = .ok (.str (strI b)) h:=rfl
 have ln : fLen [.fl ([Str.ofString "fork",strI a,strI b].map AV.str)] h = .ok (.int 3) h:=rfl
 have ob0:=S.ob
 unfold yaq
 generalize yat = G1 at *
 generalize yay = G2 at *
 generalize yan = G3 at *
 generalize yax = G4 at *
 generalize rowS (.fork a b) = R at *
 generalize [Str.ofString "fork",strI a,strI b].map AV.str = WS at *
 generalize ya4 h p (ps++[.fork a b]) = HZ at *
 generalize ((ps.length + 1 : Nat) : Int) = N at *
 simp [sp,st,i0,j1,j2,ln,n1,n2,nw,ob0,-fLen,-ybo,-fIx]
theorem yhs {h : AH} {p : Nat} {ps : List Pc} {q : Pc} (S : ShelfAt h p ps) (ok : PcOk ps q) (hq : q ∉ ps) (hz : ps.length <= 30000) : ∃ r : AH,ybD [.ref p,.str (rowS q)] h = .ok (.bl true) (ya4 (h++r) p (ps++[q])):=by
 obtain ⟨r,e⟩ : ∃ r : AH,yaq [.ref p,.str (rowS q)] h = .ok (.int ((ps.length + 1 : Nat) : Int)) (ya4 (h++r) p (ps++[q])):=by
  cases q with
  | leaf x =>
   obtain ⟨o,e⟩:=zgA S ok hq (by lia)
   exact ⟨[o],e⟩
  | fork a b =>
   have F : ForkOk ps a b:=ok
   obtain ⟨ma,mb,la,fb,h1,h2,_⟩:=F.ex
   have b1:=(List.getElem?_eq_some_iff.mp h1).1
   have b2:=(List.getElem?_eq_some_iff.mp h2).1
   rw [zao] at b1 b2
   refine ⟨[],?_⟩
   rw [List.append_nil]
   exact zgB S F (by lia) (by lia) hq (by lia)
 have fm:=ydI S
 have ob:=S.ob
 have gt : ∀ hh,fGt (.int ((ps.length + 1 : Nat) : Int)) (.int ps.length) hh = .ok (.bl true) hh:=λhh=>by simp; lia
 refine ⟨r,?_⟩
 unfold ybD
 generalize yaq = G1 at *
 generalize yaN = G2 at *
 generalize rowS q = R at *
 generalize ya4 (h++r) p (ps++[q]) = HZ at *
 generalize ((ps.length + 1 : Nat) : Int) = N at *
 generalize (ps.length : Int) = M at *
 simp [e,fm,ob,gt,-fGt]
abbrev tx87 (ps : List Pc) : Str:=Builtin.Str.glued (Str.ofString "\n") (ps.map rowS)
theorem yht {q : Pc} (ok : yer q) (h10 : ∀ a b,q = .fork a b -> 1 <= a /\ 1 <= b /\ a < 10 ^ 10 /\ b < 10 ^ 10) : 10 ∉ (rowS q).cps.toList:=by
 cases q with
 | leaf x =>
  show 10 ∉ ((Str.ofString "leaf ")++escS x).cps.toList
  rw [zah,List.mem_append]
  rintro (z | z)
  ·exact absurd z (by decide +kernel)
  ·have : 10 ∈ x.cps.toList.flatMap esc1:=by simpa [escS] using z
   obtain ⟨c,hc,q⟩:=List.mem_flatMap.mp this
   unfold esc1 at q
   split at q
   ·simp at q
   ·split at q
    ·simp at q
    ·rename_i n; simp at q; exact n q.symm
 | fork a b =>
  obtain ⟨a1,b1,a2,b2⟩:=h10 a b rfl
  have na:=(ydv a1 a2).2.1
  have nb:=(ydv b1 b2).2.1
  show 10 ∉ ((((Str.ofString "fork ")++strI a)++(Str.ofString " "))++strI b).cps.toList
  rw [zah,zah,zah,List.mem_append,List.mem_append,List.mem_append]
  rintro (((z | z) | z) | z)
  ·exact absurd z (by decide +kernel)
  ·exact absurd (na 10 z).1 (by decide)
  ·exact absurd z (by decide +kernel)
  ·exact absurd (nb 10 z).1 (by decide)
theorem ze2 {ps : List Pc} (g : Good ps) {i a b : Nat} (e : ps[i]? = some (.fork a b)) : 1 <= a /\ a <= i /\ 1 <= b /\ b <= i:=by
 have ok : ForkOk (ps.take i) a b:=g.get e
 have hi:=(List.getElem?_eq_some_iff.mp e).1
 have li : (ps.take i).length = i:=by simp; lia
 obtain ⟨ma,mb,la,fb,h1,h2,_⟩:=ok.ex
 have b1:=(List.getElem?_eq_some_iff.mp h1).1
 have b2:=(List.getElem?_eq_some_iff.mp h2).1
 rw [zao,li] at b1 b2
 exact ⟨ok.pa,by lia,ok.pb,by lia⟩
end Sk
namespace Sk
open PySem PySem.Spec L2 Sm
def yby (ps : List Pc) (r : Str) : Prop:=∀ (h : AH) (p : Nat),ShelfAt h p ps -> ∃ rr : AH,ybD [.ref p,.str r] h = .ok (.bl false) (h++rr)
theorem ziK {h : AH} {p : Nat} {ps : List Pc} {q : Pc} (S : ShelfAt h p ps) (ok : PcOk ps q) (hq : q ∉ ps) (hz : ps.length <= 30000) (o0 : Option AV) (k : Int) : ∃ r : AH,yaO [o0,some (.ref p),some (.int k),some (.str (rowS q))] h = .nx [o0,some (.ref p),some (.int k),some (.str (rowS q))] (ya4 (h++r) p (ps++[q])):=by
 obtain ⟨r,e⟩:=yhs S ok hq hz
 refine ⟨r,?_⟩
 unfold yaO
 generalize ybD = G at *
 generalize rowS q = R at *
 generalize ya4 (h++r) p (ps++[q]) = HZ at *
 simp [e]
theorem yip {h : AH} {p : Nat} {ps : List Pc} {b : Str} (S : ShelfAt h p ps) (no : yby ps b) (o0 : Option AV) (k : Nat) : ∃ r : AH,yaO [o0,some (.ref p),some (.int k),some (.str b)] h = .ex (6 + 64 * (k + 1)) [o0,some (.ref p),some (.int k),some (.str b)] (h++r):=by
 obtain ⟨r,e⟩:=no h p S
 refine ⟨r,?_⟩
 unfold yaO
 generalize ybD = G at *
 simp [e,yeh]
theorem zhx {qs : List Pc} (nd : qs.Nodup) {j : Nat} {q : Pc} (e : qs[j]? = some q) : q ∉ qs.take j:=λz=>by
 obtain ⟨i,hi⟩:=List.getElem?_of_mem z
 have li:=(List.getElem?_eq_some_iff.mp hi).1
 rw [List.length_take] at li
 rw [List.getElem?_take_of_lt (by lia)] at hi
 obtain ⟨l1,e1⟩:=List.getElem?_eq_some_iff.mp hi
 obtain ⟨l2,e2⟩:=List.getElem?_eq_some_iff.mp e
 exact (List.pairwise_iff_getElem.mp nd) i j l1 l2 (by lia) (e1.trans e2.symm)
theorem yiq {all : List AV} {b : SS} {x : AV} {xs : List AV} {en e1 e2 : En} {h h2 : AH} (s : setT (.tup [2,3]) x en = some e1) (e : b e1 h = .nx e2 h2) : ya3 none all (.tup [2,3]) b (x :: xs) en h = ya3 none all (.tup [2,3]) b xs e2 h2:=by
 rw [ya3]
 dsimp only
 rw [if_pos (show yaZ none all h = true from rfl),s]
 dsimp only
 rw [e]
theorem yir {all : List AV} {b : SS} {x : AV} {xs : List AV} {en e1 e2 : En} {h h2 : AH} {c : Nat} (s : setT (.tup [2,3]) x en = some e1) (e : b e1 h = .ex c e2 h2) : ya3 none all (.tup [2,3]) b (x :: xs) en h = .ex c e2 h2:=by
 rw [ya3]
 dsimp only
 rw [if_pos (show yaZ none all h = true from rfl),s]
 dsimp only
 rw [e]
theorem yf4 (all : List AV) (p : Nat) (h0 : AH) (o0 : Option AV) : ∀ (l ps : List Pc) (k : Nat) (tl : List AV) (o2 o3 : Option AV) (h : AH),ShelfAt h p ps -> Good (ps++l) -> (ps++l).length <= 30000 -> (∀ i,i < p -> h[i]? = h0[i]?) ->
  ∃ (p2 p3 : Option AV) (h' : AH),ShelfAt h' p (ps++l) /\ (∀ i,i < p -> h'[i]? = h0[i]?) /\
   ya3 none all (.tup [2,3]) yaO (Sm.numbered k (l.map (λq=>AV.str (rowS q))++tl)) [o0,some (.ref p),o2,o3] h = ya3 none all (.tup [2,3]) yaO (Sm.numbered (k + l.length) tl) [o0,some (.ref p),p2,p3] h'
 | [],ps,k,tl,o2,o3,h,S,_,_,fr=>⟨o2,o3,h,by rw [List.append_nil]; exact S,fr,rfl⟩
 | q :: l,ps,k,tl,o2,o3,h,S,g,hz,fr=>by
  have e : (ps++q :: l)[ps.length]? = some q:=by simp
  have tk : (ps++q :: l).take ps.length = ps:=by simp
  have ok:=g.get e
  have nw:=zhx g.nodup e
  rw [tk] at ok nw
  have lz : ps.length <= 30000:=by rw [List.length_append] at hz; lia
  obtain ⟨r,et⟩:=ziK S ok nw lz o0 (k : Int)
  have ea : ps++q :: l = (ps++[q])++l:=by simp
  rw [ea] at g hz
  obtain ⟨p2,p3,h',S',fr',eq⟩:=yf4 all p h0 o0 l (ps++[q]) (k + 1) tl (some (.int (k : Int))) (some (.str (rowS q))) (ya4 (h++r) p (ps++[q])) (za4 (S.app r)) g hz (λi hi=>by
   rw [zcl (.inl (by lia)),List.getElem?_append_left (by have:=ybF S.h8; lia)]
   exact fr i hi)
  refine ⟨p2,p3,h',by rw [ea]; exact S',fr',?_⟩
  have s : setT (.tup [2,3]) (.tup [.int (k : Int),.str (rowS q)]) [o0,some (.ref p),o2,o3] = some [o0,some (.ref p),some (.int (k : Int)),some (.str (rowS q))]:=rfl
  refine (yiq s et).trans (eq.trans ?_)
  rw [List.length_cons,show k + 1 + l.length = k + (l.length + 1) by lia]
theorem yhu (all : List AV) (k : Nat) (en : En) (h : AH) : ya3 none all (.tup [2,3]) yaO (Sm.numbered k []) en h = .nx en h:=by
 rw [show Sm.numbered k [] = [] from rfl,ya3]
 dsimp only
 rw [if_pos (show yaZ none all h = true from rfl)]
theorem ze3 {qs : List Pc} (g : Good qs) (hz : qs.length <= 30000) {tl : List Str} {T : Str} (sp : ∀ h,ybI (.str T) [.str "\n"] h = .ok (.fl ((qs.map rowS++tl).map AV.str)) h) (ne : T ≠ Str.ofString "") (h : AH) :
  (tl = [] -> ∃ h' : AH,yaU [.str T] h = .ok (.ref h.length) h' /\ ∀ i,i < h.length -> h'[i]? = h[i]?) /\
  (∀ b r,tl = b :: r -> yby qs b -> ∃ h' : AH,yaU [.str T] h = .ex (6 + 64 * (qs.length + 1)) h' /\ ∀ i,i < h.length -> h'[i]? = h[i]?):=by
 have mk:=yeE [some (.str T),none,none,none] h
 have S0 : ShelfAt (h++ycz h.length) h.length []:=by have:=yfr h []; simpa using this
 obtain ⟨H0,eH0⟩ : ∃ H,H = h++ycz h.length:=⟨_,rfl⟩
 have fr0 : ∀ i,i < h.length -> H0[i]? = h[i]? := λi hi=>by rw [eH0,List.getElem?_append_left hi]
 rw [<- eH0] at mk S0
 obtain ⟨p,ep⟩ : ∃ p,p = h.length:=⟨_,rfl⟩
 rw [<- ep] at mk S0 fr0 ⊢
 have sp0:=sp H0
 have er : (qs.map rowS++tl).map AV.str = qs.map (λq=>AV.str (rowS q))++tl.map AV.str:=by rw [List.map_append,List.map_map]; rfl
 rw [er] at sp0
 obtain ⟨p2,p3,H1,S1,fr1,go⟩:=yf4 (Sm.numbered 0 (qs.map (λq=>AV.str (rowS q))++tl.map AV.str)) p h (some (.str T)) qs [] 0 (tl.map AV.str) none none H0 S0 (by simpa using g) (by simpa using hz) fr0
 rw [List.nil_append] at S1
 rw [Nat.zero_add] at go
 have q0 : fEq (.str T) (.str "") H0 = .ok (.bl false) H0:=by simp [ne]
 have it : Sm.iEnum (sBM ya0 ybI (sVar 0) (yaa (sLit (.str "\n")) sNil)) [some (.str T),some (.ref p),none,none] H0 = .ok (Sm.numbered 0 (qs.map (λq=>AV.str (rowS q))++tl.map AV.str),none) H0:=by
  generalize qs.map (λq=>AV.str (rowS q))++tl.map AV.str = Z at *
  simp [sp0]
 have f1 : ydT (Sm.iEnum (sBM ya0 ybI (sVar 0) (yaa (sLit (.str "\n")) sNil))) (.tup [2,3]) yaO [some (.str T),some (.ref p),none,none] H0 = ya3 none (Sm.numbered 0 (qs.map (λq=>AV.str (rowS q))++tl.map AV.str)) (.tup [2,3]) yaO (Sm.numbered qs.length (tl.map AV.str)) [some (.str T),some (.ref p),p2,p3] H1:=by
  unfold ydT
  rw [it]
  exact go
 generalize Sm.numbered 0 (qs.map (λq=>AV.str (rowS q))++tl.map AV.str) = AL at f1
 generalize hF : ydT (Sm.iEnum (sBM ya0 ybI (sVar 0) (yaa (sLit (.str "\n")) sNil))) (.tup [2,3]) yaO = F1 at f1
 refine ⟨λe=>?_,λb r e no=>?_⟩
 ·subst e
  rw [List.map_nil,yhu] at f1
  refine ⟨H1,?_,fr1⟩
  unfold yaU
  rw [hF]
  generalize ycG 0 8 ya2 sNil = MK at *
  simp [mk,q0,f1,-fEq]
 ·subst e
  obtain ⟨rr,eb⟩:=yip S1 no (some (.str T)) qs.length
  have s : setT (.tup [2,3]) (.tup [.int (qs.length : Int),.str b]) [some (.str T),some (.ref p),p2,p3] = some [some (.str T),some (.ref p),some (.int (qs.length : Int)),some (.str b)]:=rfl
  have f2:=f1.trans (yir (xs:=Sm.numbered (qs.length + 1) (r.map AV.str)) s eb)
  refine ⟨H1++rr,?_,λi hi=>by rw [List.getElem?_append_left (by have:=ybF S1.h8; lia)]; exact fr1 i hi⟩
  unfold yaU
  rw [hF]
  generalize ycG 0 8 ya2 sNil = MK at *
  simp [mk,q0,f2,-fEq]
end Sk
namespace Sk
open PySem PySem.Spec L2 Sm
theorem is6 (n : Nat) : yc8 (6 + 64 * (n + 1)) = false /\ ycJ (6 + 64 * (n + 1)) = false /\ ydt (6 + 64 * (n + 1)) = false /\ ycL (6 + 64 * (n + 1)) = false /\ ycK (6 + 64 * (n + 1)) = false /\ ydU (6 + 64 * (n + 1)) = true /\ yb9 (6 + 64 * (n + 1)) = true /\ ybe (6 + 64 * (n + 1)) = true:=by
 have e : (6 + 64 * (n + 1)) % 64 = 6:=by lia
 unfold yc8 ycJ ydt ycL ycK ydU yb9 ybe
 rw [e]
 exact ⟨rfl,rfl,rfl,rfl,rfl,rfl,rfl,rfl⟩
theorem ze4 {T : Str} {h h' : AH} {v : AV} (e : yaU [.str T] h = .ok v h') : yap [.str T] h = .ok .non h' := by
 unfold yap
 generalize yaU = G at *
 simp [e]
theorem ziL {T : Str} {h h' : AH} {n : Nat} (e : yaU [.str T] h = .ex (6 + 64 * (n + 1)) h') : yap [.str T] h = .ok (.int n) h' := by
 obtain ⟨i1,i2,i3,i4,i5,i6,i7,i8⟩:=is6 n
 have w : noEx ybQ [.int n] h' = .ok (.bl true) h' := by simp [noEx,ybQ]
 have rw_ : ∀ en : En,en[2]? = some (some (.exc (6 + 64 * (n + 1)))) -> sRow 6 (sVar 2) en h' = .ok (.int n) h' := λen z=>by
  have z1 : (6 + 64 * (n + 1)) % 64 = 6 /\ 64 <= 6 + 64 * (n + 1):=by lia
  have z2:=zdW (c:=6) (n:=n) (by decide)
  unfold sRow
  simp only [sVar,z,Out.bind]
  rw [if_pos z1,z2]
 have ml : ydS (.fl [.bl false]) (.int 4) h' = .ok (.fl [.bl false,.bl false,.bl false,.bl false]) h' := by simp [ydS]; try rfl
 have eq : fEq (.fl [.bl false,.bl false,.bl false,.bl false]) (.fl [.bl false,.bl false,.bl false,.bl false]) h' = .ok (.bl true) h' := by simp [toD,toDs,PyData.eqv]; try rfl
 unfold yap
 generalize yaU = G at *
 generalize noEx ybQ = W at *
 generalize hR : sRow 6 (sVar 2) = RW at *
 generalize 6 + 64 * (n + 1) = c at *
 simp [e,i1,i2,i3,i4,i5,i6,i7,i8,ml,eq,rw_,w,-fEq,-ydS]
end Sk
namespace Sk
open PySem PySem.Spec L2 Sm
theorem yec {ps : List Pc} {r : Str} (H : ∀ (h : AH) (p : Nat),ShelfAt h p ps -> ∃ (c : Nat) (rr : AH),yaq [.ref p,.str r] h = .ex c (h++rr) /\ ybe c = true) : yby ps r:=λh p S=>by
 obtain ⟨c,rr,e,k⟩:=H h p S
 have fm:=ydI S
 have ob:=S.ob
 refine ⟨rr,?_⟩
 unfold ybD
 generalize yaq = G1 at *
 generalize yaN = G2 at *
 simp [e,fm,ob,k]
theorem yhv {ps : List Pc} {r : Str} (H : ∀ (h : AH) (p : Nat),ShelfAt h p ps -> ∃ (n : Nat) (rr : AH),yaq [.ref p,.str r] h = .ok (.int n) (h++rr) /\ n <= ps.length) : yby ps r:=λh p S=>by
 obtain ⟨n,rr,e,k⟩:=H h p S
 have fm:=ydI S
 have ob:=S.ob
 have gt : ∀ hh,fGt (.int n) (.int ps.length) hh = .ok (.bl false) hh:=λhh=>by simp; lia
 refine ⟨rr,?_⟩
 unfold ybD
 generalize yaq = G1 at *
 generalize yaN = G2 at *
 generalize (n : Int) = N at *
 generalize (ps.length : Int) = M at *
 simp [e,fm,ob,gt,-fGt]
theorem ziM {h : AH} {p : Nat} {ps : List Pc} {r w0 : Str} {wr : List Str} (S : ShelfAt h p ps) (hl : r.length <= 5000000) (hp : ∀ d ∈ r.cps.toList,d < 200) (h1 : Txt.startswith r (Str.ofString "leaf ") = false) (e : Txt.split r ⟨#[32]⟩ = w0 :: wr) (h2 : w0 ≠ Str.ofString "fork" \/ wr.length ≠ 2) : yaq [.ref p,.str r] h = .ex 7 h:=by
 have sp:=zaE r 32 hl hp h
 rw [e,<- ydl] at sp
 have st : yaX (.str r) [.str "leaf "] h = .ok (.bl false) h:=by
  unfold yaX
  simp only [h1]
 have i0 : fIx (.fl ((w0 :: wr).map AV.str)) (.int 0) h = .ok (.str w0) h:=by simp [atI,ixN]
 have ln : fLen [.fl ((w0 :: wr).map AV.str)] h = .ok (.int ((wr.length + 1 : Nat) : Int)) h:=by simp
 by_cases hw : w0 = Str.ofString "fork"
 ·have hr : wr.length ≠ 2:=h2.resolve_left (λz=>z hw)
  have q1 : fEq (.str w0) (.str "fork") h = .ok (.bl true) h:=by rw [hw]; exact (yf2 _ _).2
  have q2 : fEq (.int ((wr.length + 1 : Nat) : Int)) (.int 3) h = .ok (.bl false) h:=by simp; lia
  unfold yaq
  generalize yat = G1 at *
  generalize yay = G2 at *
  generalize yan = G3 at *
  generalize yax = G4 at *
  generalize (w0 :: wr).map AV.str = WS at *
  generalize ((wr.length + 1 : Nat) : Int) = N at *
  simp [sp,st,i0,ln,q1,q2,-fLen,-ybo,-fIx,-fEq]
 ·have q1 : fEq (.str w0) (.str "fork") h = .ok (.bl false) h:=by simp [hw]
  unfold yaq
  generalize yat = G1 at *
  generalize yay = G2 at *
  generalize yan = G3 at *
  generalize yax = G4 at *
  generalize (w0 :: wr).map AV.str = WS at *
  simp [sp,st,i0,q1,-fLen,-ybo,-fIx,-fEq]
theorem zcq {h : AH} {p : Nat} {ps : List Pc} {z : Str} {v : AV} {o : AO} (S : ShelfAt h p ps) (hl : z.length <= 100) (hp : ∀ c ∈ z.cps.toList,c < 200) (er : yat [.str z] h = .ok v (h++[o])) : yaq [.ref p,.str (Str.ofString "leaf " ++ z)] h = yay [.ref p,v] (h++[o]):=by
 have l5 : (Str.ofString "leaf ").length = 5:=by decide +kernel
 have sp:=zaE (Str.ofString "leaf " ++ z) 32 (by rw [zaf,l5]; lia) (ybW (by decide +kernel) hp) h
 rw [<- ydl] at sp
 have st : yaX (.str (Str.ofString "leaf " ++ z)) [.str "leaf "] h = .ok (.bl true) h:=by
  have : Txt.startswith (Str.ofString "leaf " ++ z) (Str.ofString "leaf ") = true:=by rw [zaW rfl]; simp
  unfold yaX
  simp only [this]
 have fl : fLen [.str "leaf "] h = .ok (.int 5) h:=by simp [l5]
 have ct : ybo (.str (Str.ofString "leaf " ++ z)) (some 5) none h = .ok (.str z) h:=by
  have:=ze1 (Str.ofString "leaf ") z
  rw [l5] at this
  show Out.ok (AV.str (cutS ((Str.ofString "leaf ")++z) (some 5) none)) h = _
  rw [show (5 : Int) = ((5 : Nat) : Int) from rfl,this]
 have ob:=(S.app [o]).ob
 have ob0:=S.ob
 unfold yaq
 generalize yat = G1 at *
 generalize yay = G2 at *
 generalize yan = G3 at *
 generalize yax = G4 at *
 generalize Str.ofString "leaf " ++ z = R at *
 generalize (Txt.split R (Str.ofString " ")).map AV.str = WS at *
 generalize h++[o] = HO at *
 generalize hG : G2 [.ref p,v] HO = W at *
 cases W<;>simp [sp,st,fl,ct,er,ob,ob0,hG,-fLen,-ybo]
theorem zcr {h : AH} {p : Nat} {ps : List Pc} {a b : Str} {u v : AV} (S : ShelfAt h p ps) (ha : a.length <= 100 /\ (∀ c ∈ a.cps.toList,c < 200) /\ 32 ∉ a.cps.toList) (hb : b.length <= 100 /\ (∀ c ∈ b.cps.toList,c < 200) /\ 32 ∉ b.cps.toList) (ea : yan [.str a] h = .ok u h) (eb : yan [.str b] h = .ok v h) : yaq [.ref p,.str (Str.ofString "fork " ++ a++Str.ofString " " ++ b)] h = yax [.ref p,u,v] h:=by
 have l5 : (Str.ofString "fork ").length = 5:=by decide +kernel
 have l1 : (Str.ofString " ").length = 1:=by decide +kernel
 have rj : Str.ofString "fork " ++ a++Str.ofString " " ++ b = Str.join ⟨#[32]⟩ [Str.ofString "fork",a,b]:=ycn (by
  have e : (Str.ofString "fork ").cps.toList = (Str.ofString "fork").cps.toList++[32]:=by decide +kernel
  have e2 : (Str.ofString " ").cps.toList = [32]:=by decide +kernel
  rw [yb2,yb2]
  show ((((Str.ofString "fork ")++a)++(Str.ofString " "))++b).cps.toList = (Str.ofString "fork").cps.toList++32 :: (a.cps.toList++32 :: b.cps.toList)
  rw [zah,zah,zah,e,e2]
  simp)
 have sp:=zaE (Str.ofString "fork " ++ a++Str.ofString " " ++ b) 32 (by rw [zaf,zaf,zaf,l5,l1]; lia) (ybW (ybW (ybW (by decide +kernel) ha.2.1) (by decide +kernel)) hb.2.1) h
 have sj:=zby 32 [Str.ofString "fork",a,b] (by simp) (λq hq=>by
  rcases List.mem_cons.mp hq with rfl | hq
  ·decide +kernel
  ·rcases List.mem_cons.mp hq with rfl | hq
   ·exact ha.2.2
   ·rw [List.mem_singleton.mp hq]; exact hb.2.2)
 rw [<- rj] at sj
 rw [sj,<- ydl] at sp
 have st : yaX (.str (Str.ofString "fork " ++ a++Str.ofString " " ++ b)) [.str "leaf "] h = .ok (.bl false) h:=by
  have : Txt.startswith (Str.ofString "fork " ++ a++Str.ofString " " ++ b) (Str.ofString "leaf ") = false:=by
   rw [zaA,zaA,zaW (by decide +kernel)]
   exact decide_eq_false (by decide +kernel)
  unfold yaX
  simp only [this]
 have i0 : fIx (.fl ([Str.ofString "fork",a,b].map AV.str)) (.int 0) h = .ok (.str (Str.ofString "fork")) h:=rfl
 have j1 : fIx (.fl ([Str.ofString "fork",a,b].map AV.str)) (.int 1) h = .ok (.str a) h:=rfl
 have j2 : fIx (.fl ([Str.ofString "fork",a,b].map AV.str)) (.int 2) h = .ok (.str b) h:=rfl
 have ln : fLen [.fl ([Str.ofString "fork",a,b].map AV.str)] h = .ok (.int 3) h:=rfl
 have ob0:=S.ob
 unfold yaq
 generalize yat = G1 at *
 generalize yay = G2 at *
 generalize yan = G3 at *
 generalize yax = G4 at *
 generalize Str.ofString "fork " ++ a++Str.ofString " " ++ b = R at *
 generalize [Str.ofString "fork",a,b].map AV.str = WS at *
 generalize hG : G4 [.ref p,u,v] h = W at *
 cases W<;>simp [sp,st,i0,j1,j2,ln,ea,eb,ob0,hG,-fLen,-ybo,-fIx]
end Sk
namespace Sk
open PySem PySem.Spec L2 Sm
theorem rp_z (z : Str) (h : AH) : iVal (sVar 0) [some (.str z),some (.ref h.length),some (.bl false),none,none] (h++[.lst []]) = .ok (z.cps.toList.map λc=>AV.str ⟨#[c]⟩,none) (h++[.lst []]):=by simp
theorem yfy {z : Str} {h : AH} {o : AO} (q : ∀ all,yaH none all (.nm 3) yal (z.cps.toList.map λc=>AV.str ⟨#[c]⟩) [some (.str z),some (.ref h.length),some (.bl false),none,none] (h++[.lst []]) = .rt .non (h++[o])) : yat [.str z] h = .ok .non (h++[o]):=by
 have f1:=(ybU (t:=.nm 3) (b:=yal) (rp_z z h)).trans (q _)
 generalize hF : sFor (iVal (sVar 0)) (.nm 3) yal = F1 at f1
 unfold yat
 rw [hF]
 generalize h++[o] = HR at *
 simp [f1]
theorem yfz {z : Str} {h : AH} {o : AO} {a1 a3 a4 : Option AV} (q : ∀ all,yaH none all (.nm 3) yal (z.cps.toList.map λc=>AV.str ⟨#[c]⟩) [some (.str z),some (.ref h.length),some (.bl false),none,none] (h++[.lst []]) = .nx [some (.str z),a1,some (.bl true),a3,a4] (h++[o])) : yat [.str z] h = .ok .non (h++[o]):=by
 have f1:=(ybU (t:=.nm 3) (b:=yal) (rp_z z h)).trans (q _)
 generalize hF : sFor (iVal (sVar 0)) (.nm 3) yal = F1 at f1
 unfold yat
 rw [hF]
 generalize h++[o] = HR at *
 simp [f1]
theorem yf5 {all : List AV} {b : SS} {x v : AV} {xs : List AV} {en e1 : En} {h h2 : AH} (s : setT (.nm 3) x en = some e1) (e : b e1 h = .rt v h2) : yaH none all (.nm 3) b (x :: xs) en h = .rt v h2:=by
 rw [yaH]
 show (if yaZ none all h = true then _ else _) = _
 rw [if_pos (show yaZ none all h = true from rfl),s]
 simp only [e]
theorem yfA {all : List AV} {b : SS} {en : En} {h : AH} : yaH none all (.nm 3) b [] en h = .nx en h:=by
 rw [yaH]
 show (if yaZ none all h = true then _ else _) = _
 rw [if_pos (show yaZ none all h = true from rfl)]
theorem rp_4 {h : AH} {L c : Nat} (pc : ybV c = false) (n1 : c ≠ 92) (n2 : c ≠ 10) (o0 o4 : Option AV) : yal [o0,some (.ref L),some (.bl false),some (.str ⟨#[c]⟩),o4] h = .rt .non h:=by
 have fs:=yeD c h
 rw [pc] at fs
 have q1 : fEq (.str ⟨#[c]⟩) (.str "\\") h = .ok (.bl false) h:=by simp [ydJ,n1]
 have q2 : fNe (.str ⟨#[c]⟩) (.str "\n") h = .ok (.bl true) h:=by simp [ybw,n2]
 unfold yal
 generalize ya1 = G at *
 simp [fs,q1,q2,-fEq,-fNe]
theorem rp_5 {h : AH} {L c : Nat} (hc : getG D_MARKED ⟨#[c]⟩ = none) (o0 o4 : Option AV) : yal [o0,some (.ref L),some (.bl true),some (.str ⟨#[c]⟩),o4] h = .rt .non h:=by
 unfold yal
 simp [yeq,hc]
theorem yed (h : AH) (a b : AO) : (h++[a]).set h.length b = h++[b]:=by rw [List.set_append_right _ _ (Nat.le_refl _),Nat.sub_self]; rfl
theorem yee (h : AH) (a : AO) : (h++[a])[h.length]? = some a:=by simp
theorem rn_1 (h : AH) : ∃ o,yat [.str "\\"] h = .ok .non (h++[o]):=by
 refine ⟨.lst ([]++[.str ""]),yfz (a1:=some (.ref h.length)) (a3:=some (.str ⟨#[92]⟩)) (a4:=some (.str "")) λall=>?_⟩
 rw [ydJ]
 show yaH none all (.nm 3) yal [AV.str ⟨#[92]⟩] _ _ = _
 rw [ycA rfl (rp_2 (yee h _) (by decide) _ none),yfA,yed]
theorem rn_2 (h : AH) : ∃ o,yat [.str "q\\"] h = .ok .non (h++[o]):=by
 refine ⟨.lst (([]++[.str ⟨#[113]⟩])++[.str ""]),yfz (a1:=some (.ref h.length)) (a3:=some (.str ⟨#[92]⟩)) (a4:=some (.str "")) λall=>?_⟩
 rw [show (Str.ofString "q\\") = ⟨#[113,92]⟩ by decide +kernel]
 show yaH none all (.nm 3) yal [AV.str ⟨#[113]⟩,AV.str ⟨#[92]⟩] _ _ = _
 rw [ycA rfl (rp_1 (yee h _) (by decide) (by decide) (by decide) (by decide) _ none),yed,ycA rfl (rp_2 (yee h _) (by decide) _ _),yfA,yed]
theorem rn_3 (h : AH) : ∃ o,yat [.str "\\x"] h = .ok .non (h++[o]):=by
 refine ⟨.lst ([]++[.str ""]),yfy λall=>?_⟩
 rw [show (Str.ofString "\\x") = ⟨#[92,120]⟩ by decide +kernel]
 show yaH none all (.nm 3) yal [AV.str ⟨#[92]⟩,AV.str ⟨#[120]⟩] _ _ = _
 rw [ycA rfl (rp_2 (yee h _) (by decide) _ none),yed,yf5 rfl (rp_5 (by decide +kernel) _ _)]
theorem rn_4 (h : AH) : ∃ o,yat [.str "q\tq"] h = .ok .non (h++[o]):=by
 refine ⟨.lst ([]++[.str ⟨#[113]⟩]),yfy λall=>?_⟩
 rw [show (Str.ofString "q\tq") = ⟨#[113,9,113]⟩ by decide +kernel]
 show yaH none all (.nm 3) yal [AV.str ⟨#[113]⟩,AV.str ⟨#[9]⟩,AV.str ⟨#[113]⟩] _ _ = _
 rw [ycA rfl (rp_1 (yee h _) (by decide) (by decide) (by decide) (by decide) _ none),yed,yf5 rfl (rp_4 (by decide) (by decide) (by decide) _ _)]
theorem yhw (p : Nat) (h : AH) : yay [.ref p,.non] h = .ex 1 h:=by
 have e : ybC [.non] h = .ok (.bl false) h:=by simp [ybC,yck]
 unfold yay
 generalize ybC = G at *
 simp [e]
theorem yis {x : Str} (hx : ybc x = false) (hl : x.length <= 100) (p : Nat) (h : AH) : yay [.ref p,.str x] h = .ex 1 h:=by
 have e:=zcW x h (Nat.le_trans hl (by decide))
 rw [hx] at e
 unfold yay
 generalize ybC = G at *
 simp [e]
def NoPc (ps : List Pc) (u : AV) : Prop:=u = .non \/ ∃ i : Int,u = .int i /\ ¬ (1 <= i /\ i <= ps.length)
theorem yfB {h : AH} {p : Nat} {ps : List Pc} (S : ShelfAt h p ps) {u : AV} (n : NoPc ps u) : yau [.ref p,u] h = .ex 2 h:=by
 rcases n with rfl | ⟨i,rfl,hi⟩
 ·have e : yaY [.ref p,.non] h = .ok (.bl false) h:=by
   have w : ybM [.non] h = .ok (.bl false) h:=by simp [ybM]
   unfold yaY
   generalize ybM = G at *
   simp [w]
  have ob:=S.ob
  unfold yau
  generalize yaY = G at *
  simp [e,ob]
 ·exact zhq S hi
theorem yit {h : AH} {p : Nat} {ps : List Pc} (S : ShelfAt h p ps) {u v : AV} (n : NoPc ps u \/ ((∃ i : Int,u = .int i) /\ NoPc ps v)) : yax [.ref p,u,v] h = .ex 2 h:=by
 have ob:=S.ob
 have key : yas [.ref p,u,v] h = .ex 2 h:=by
  by_cases nu : NoPc ps u
  ·have e:=yfB S nu
   unfold yas
   generalize yau = G at *
   simp [e,ob]
  ·obtain ⟨⟨i,rfl⟩,nv⟩:=n.resolve_left nu
   have hi : 1 <= i /\ i <= ps.length:=Classical.byContradiction λz=>nu (.inr ⟨i,rfl,z⟩)
   have e1:=zbv S hi
   have e2:=yfB S nv
   unfold yas
   generalize yau = G at *
   simp [e1,e2,ob]
 unfold yax
 generalize yas = G at *
 simp [key,ob]
end Sk
namespace Sk
open PySem PySem.Spec L2 Sm
def Rw (r : Str) : Prop:=r.length <= 100 /\ (∀ c ∈ r.cps.toList,c < 200) /\ 10 ∉ r.cps.toList
instance (r : Str) : Decidable (Rw r):=by unfold Rw; infer_instance
theorem zaN {ps : List Pc} (g : Good ps) (hz : ps.length <= 30000) : ∀ r ∈ ps.map rowS,Rw r:=λr hr=>by
 obtain ⟨q,hq,rfl⟩:=List.mem_map.mp hr
 obtain ⟨i,hi⟩:=List.getElem?_of_mem hq
 have k:=zco g hz hi
 have l:=yea k
 refine ⟨l.1,l.2,yht k λa b e=>?_⟩
 subst e
 have:=ze2 g hi
 have:=(List.getElem?_eq_some_iff.mp hi).1
 lia
abbrev glx (rs : List Str) : Str:=Builtin.Str.glued (Str.ofString "\n") rs
theorem zbN {rs : List Str} (hr : ∀ r ∈ rs,Rw r) (hz : rs.length <= 40000) (hn : rs ≠ []) : (∀ h,ybI (.str (glx rs)) [.str "\n"] h = .ok (.fl (rs.map AV.str)) h) /\ (rs ≠ [Str.ofString ""] -> glx rs ≠ Str.ofString ""):=by
 have ej : glx rs = Str.join ⟨#[10]⟩ rs:=by
  show Builtin.Str.glued (Str.ofString "\n") rs = _
  rw [ybw,StrLaws.glued_eq_join]
 have sj:=zby 10 rs hn λx hx=>(hr x hx).2.2
 have lt : ∀ d ∈ (glx rs).cps.toList,d < 200:=zd6 (by decide +kernel) _ λx hx=>(hr x hx).2.1
 have ln : (glx rs).length <= 5000000:=by
  have sm:=yeb rs λx hx=>(hr x hx).1
  have sz:=size_glued (Str.ofString "\n") rs
  have l1 : Str.length (Str.ofString "\n") = 1:=by decide +kernel
  rw [l1,Nat.mul_one] at sz
  show (Builtin.Str.glued (Str.ofString "\n") rs).length <= _
  lia
 refine ⟨λh=>?_,λhne e=>?_⟩
 ·have sp:=zaE (glx rs) 10 ln lt h
  rw [<- ybw] at sp
  rw [sp]
  have : Txt.split (glx rs) (Str.ofString "\n") = rs:=by rw [ej,ybw]; exact sj
  rw [this]
 ·have : Txt.split (glx rs) ⟨#[10]⟩ = [Str.ofString ""]:=by rw [e]; decide +kernel
  rw [ej,sj] at this
  exact hne this
theorem yb6 {qs : List Pc} (g : Good qs) (hz : qs.length <= 30000) {b : Str} {rest : List Str} (hr : ∀ r ∈ b :: rest,Rw r) (hl : rest.length <= 5000) (ne : qs.map rowS++b :: rest ≠ [Str.ofString ""]) (no : yby qs b) (h : AH) :
  ∃ h' : AH,yap [.str (glx (qs.map rowS++b :: rest))] h = .ok (.int (qs.length : Int)) h' /\ ∀ i,i < h.length -> h'[i]? = h[i]? := by
 have sp:=zbN (rs:=qs.map rowS++b :: rest) (λr hh=>(List.mem_append.mp hh).elim (zaN g hz r) (hr r)) (by simp; lia) (by simp)
 obtain ⟨h',e,fr⟩:=(ze3 g hz sp.1 (sp.2 ne) h).2 b rest rfl no
 exact ⟨h',ziL e,fr⟩
theorem yfC {qs : List Pc} (g : Good qs) (hz : qs.length <= 30000) (h : AH) : ∃ h' : AH,yap [.str (glx (qs.map rowS))] h = .ok .non h' /\ ∀ i,i < h.length -> h'[i]? = h[i]? := by
 by_cases hn : qs = []
 ·subst hn
  have t0 : glx (([] : List Pc).map rowS) = Str.ofString "" := by decide +kernel
  have mk:=yeE [some (.str (Str.ofString "")),none,none,none] h
  have q0:=(yf2 (Str.ofString "") (h++ycz h.length)).2
  refine ⟨h++ycz h.length,ze4 (v:=.ref h.length) ?_,λi hi=>List.getElem?_append_left hi⟩
  rw [t0]
  unfold yaU
  generalize ycG 0 8 ya2 sNil = MK at *
  generalize h++ycz h.length = HH at *
  simp [mk,q0,-fEq]
 ·have sp:=zbN (rs:=qs.map rowS) (zaN g hz) (by simp; lia) (by simpa using hn)
  have ne : qs.map rowS ≠ [Str.ofString ""]:=λe=>by
   cases qs with
   | nil=>exact hn rfl
   | cons q l =>
    rw [List.map_cons,List.cons.injEq] at e
    have l0 : (Str.ofString "").length = 0:=by decide +kernel
    have:=congrArg Str.length e.1
    rw [l0] at this
    cases q with
    | leaf x =>
     have e5 : (rowS (.leaf x)).length = (Str.ofString "leaf ").length + (escS x).length:=zaf _ _
     have : (Str.ofString "leaf ").length = 5:=by decide +kernel
     lia
    | fork a b =>
     have e5 : (rowS (.fork a b)).length = (((Str.ofString "fork ")++strI a)++(Str.ofString " ")).length + (strI b).length:=zaf _ _
     have e6:=zaf ((Str.ofString "fork ")++strI a) (Str.ofString " ")
     have : (Str.ofString " ").length = 1:=by decide +kernel
     lia
  obtain ⟨h',e,fr⟩:=(ze3 g hz (tl:=[]) (T:=glx (qs.map rowS)) (λhh=>by rw [List.append_nil]; exact sp.1 hh) (sp.2 ne) h).1 rfl
  exact ⟨h',ze4 e,fr⟩
theorem rd_0 (h : AH) : yan [.str "0"] h = .ok (.int 0) h:=by kernel_rfl
theorem yiu (h : AH) : yan [.str "01"] h = .ok .non h:=by kernel_rfl
theorem yiv (h : AH) : yan [.str "+1"] h = .ok .non h:=by kernel_rfl
theorem yiw (h : AH) : yan [.str "-1"] h = .ok .non h:=by kernel_rfl
theorem yix (h : AH) : yan [.str "a"] h = .ok .non h:=by kernel_rfl
theorem yiy (h : AH) : yan [.str "9999999999999999999999999999999999999999"] h = .ok .non h:=by kernel_rfl
theorem yiz : (Str.ofString "1") = strI 1:=by decide +kernel
theorem rd_1 (h : AH) : yan [.str "1"] h = .ok (.int 1) h:=by rw [yiz]; exact yco (a:=1) (by decide) (by decide) h
def okB (ps : List Pc) : Pc -> Bool
 | .leaf x=>ybc x
 | .fork a b=>decide (1 <= a) && decide (1 <= b) && (match (meas ps)[a]?,(meas ps)[b]? with
  | some ma,some mb=>(match (meas ps)[ma.ll]?,(meas ps)[mb.fl]? with
   | some la,some fb=>decide (8 < la.sg + fb.sg) && decide ((ma.ht - mb.ht).natAbs <= 1) && decide (ma.sg + mb.sg <= 1000000000000000000)
   | _,_=>false)
  | _,_=>false)
theorem yiA {ps : List Pc} {q : Pc} (h : okB ps q = true) : PcOk ps q:=by
 cases q with
 | leaf x=>exact h
 | fork a b =>
  unfold okB at h
  simp only [Bool.and_eq_true,decide_eq_true_eq] at h
  obtain ⟨⟨h1,h2⟩,h3⟩:=h
  split at h3
  ·rename_i ma mb e1 e2
   split at h3
   ·rename_i la fb e3 e4
    simp only [Bool.and_eq_true,decide_eq_true_eq] at h3
    exact ⟨h1,h2,ma,mb,la,fb,e1,e2,e3,e4,h3.1.1,h3.1.2,h3.2⟩
   ·cases h3
  ·cases h3
def yeY : List Pc -> List Pc -> Bool
 | _,[]=>true
 | ps,q :: l=>okB ps q && !ps.contains q && yeY (ps++[q]) l
theorem zb0 : ∀ {l ps : List Pc},Good ps -> yeY ps l = true -> Good (ps++l)
 | [],ps,g,_=>by rw [List.append_nil]; exact g
 | q :: l,ps,g,h=>by
  unfold yeY at h
  simp only [Bool.and_eq_true,Bool.not_eq_true'] at h
  obtain ⟨⟨h1,h2⟩,h3⟩:=h
  have:=zb0 (.snoc g (by simpa using h2) (yiA h1)) h3
  rwa [List.append_assoc] at this
end Sk
namespace Sk
open PySem PySem.Spec L2 Sm
theorem ycp {ps : List Pc} {r w0 : Str} {wr : List Str} (hl : Rw r) (h1 : Txt.startswith r (Str.ofString "leaf ") = false) (e : Txt.split r ⟨#[32]⟩ = w0 :: wr) (h2 : w0 ≠ Str.ofString "fork" \/ wr.length ≠ 2) : yby ps r :=
 yec λh p S=>⟨7,[],by rw [List.append_nil]; exact ziM S (Nat.le_trans hl.1 (by decide)) hl.2.1 h1 e h2,rfl⟩
theorem yet {ps : List Pc} {z : Str} (hl : z.length <= 100) (hp : ∀ c ∈ z.cps.toList,c < 200) (er : ∀ h,∃ o,yat [.str z] h = .ok .non (h++[o])) : yby ps (Str.ofString "leaf " ++ z) :=
 yec λh p S=>by
  obtain ⟨o,e⟩:=er h
  exact ⟨1,[o],by rw [zcq S hl hp e]; exact yhw p _,rfl⟩
theorem yf6 {ps : List Pc} {x : Str} (px : yaT x = true) (hl : x.length <= 40) (hx : ybc x = false) : yby ps (Str.ofString "leaf " ++ escS x) :=
 yec λh p S=>by
  obtain ⟨o,e⟩:=zcp px (by lia) h
  have:=zbZ x
  exact ⟨1,[o],by rw [zcq S (by lia) (yeH (zcn px)) e]; exact yis hx (by lia) p _,rfl⟩
def Wd (a : Str) : Prop:=a.length <= 100 /\ (∀ c ∈ a.cps.toList,c < 200) /\ 32 ∉ a.cps.toList
instance (r : Str) : Decidable (Wd r):=by unfold Wd; infer_instance
theorem ycq {ps : List Pc} {a b : Str} {u v : AV} (ha : Wd a) (hb : Wd b) (ea : ∀ h,yan [.str a] h = .ok u h) (eb : ∀ h,yan [.str b] h = .ok v h) (n : NoPc ps u \/ ((∃ i : Int,u = .int i) /\ NoPc ps v)) : yby ps (Str.ofString "fork " ++ a++Str.ofString " " ++ b) :=
 yec λh p S=>⟨2,[],by rw [List.append_nil,zcr S ha hb (ea h) (eb h)]; exact yit S n,rfl⟩
theorem wd_n {a : Nat} (h1 : 1 <= a) (h2 : a < 10 ^ 10) : Wd (strI a):=by
 obtain ⟨n1,n2,_⟩:=ydv h1 h2
 exact ⟨by lia,λc hc=>by have:=(n2 c hc).2; lia,λz=>absurd (n2 32 z).1 (by decide)⟩
theorem rw_n {a : Nat} (h1 : 1 <= a) (h2 : a < 10 ^ 10) : (strI a).length <= 30 /\ 10 ∉ (strI a).cps.toList:=by
 obtain ⟨n1,n2,_⟩:=ydv h1 h2
 exact ⟨n1,λz=>absurd (n2 10 z).1 (by decide)⟩
def bad0 : List Str:=["", " ", "leaf", "leaf ", "Leaf a", "leaf\tq", "leaf abcdefghi", "leaf \\", "leaf q\\", "leaf \\x", "leaf q\tq", " leaf q", "fork", "fork 1", "fork 0 1", "fork 1 0", "fork 1 1 1", "fork 1  1", "fork 01 1", "fork +1 1", "fork -1 1", "fork a 1", "fork 1 1 ", "fork 1 9999999999999999999999999999999999999999"]
def fkS (a b : Str) : Str:=Str.ofString "fork " ++ a++Str.ofString " " ++ b
def ycN (k n : Nat) : List Str:=bad0++[fkS (strI (k + 1)) (strI 1),fkS (strI 1) (strI (k + 1)),fkS (strI 1) (strI (k + 2)),fkS (strI (n + 9)) (strI 1)]
theorem np_0 (ps : List Pc) : NoPc ps (.int 0):=.inr ⟨0,rfl,by lia⟩
theorem np_n {ps : List Pc} {a : Nat} (h : ps.length < a) : NoPc ps (.int a):=.inr ⟨a,rfl,by lia⟩
theorem nr0 (ps : List Pc) : ∀ r ∈ bad0,yby ps r:=by
 intro r hr
 simp only [bad0,List.mem_cons,List.not_mem_nil,or_false] at hr
 rcases hr with rfl | rfl | rfl | rfl | rfl | rfl | rfl | rfl | rfl | rfl | rfl | rfl | rfl | rfl | rfl | rfl | rfl | rfl | rfl | rfl | rfl | rfl | rfl | rfl
 ·exact ycp (w0 := "") (wr:=[]) (by decide +kernel) (by decide +kernel) (by decide +kernel) (.inl (by decide +kernel))
 ·exact ycp (w0 := "") (wr:=[""]) (by decide +kernel) (by decide +kernel) (by decide +kernel) (.inl (by decide +kernel))
 ·exact ycp (w0 := "leaf") (wr:=[]) (by decide +kernel) (by decide +kernel) (by decide +kernel) (.inl (by decide +kernel))
 ·rw [show (Str.ofString "leaf ") = Str.ofString "leaf " ++ escS "" by decide +kernel]; exact yf6 (by decide +kernel) (by decide +kernel) (by decide +kernel)
 ·exact ycp (w0 := "Leaf") (wr:=["a"]) (by decide +kernel) (by decide +kernel) (by decide +kernel) (.inl (by decide +kernel))
 ·exact ycp (w0 := "leaf\tq") (wr:=[]) (by decide +kernel) (by decide +kernel) (by decide +kernel) (.inl (by decide +kernel))
 ·rw [show (Str.ofString "leaf abcdefghi") = Str.ofString "leaf " ++ escS "abcdefghi" by decide +kernel]; exact yf6 (by decide +kernel) (by decide +kernel) (by decide +kernel)
 ·rw [show (Str.ofString "leaf \\") = Str.ofString "leaf " ++ Str.ofString "\\" by decide +kernel]; exact yet (by decide +kernel) (by decide +kernel) rn_1
 ·rw [show (Str.ofString "leaf q\\") = Str.ofString "leaf " ++ Str.ofString "q\\" by decide +kernel]; exact yet (by decide +kernel) (by decide +kernel) rn_2
 ·rw [show (Str.ofString "leaf \\x") = Str.ofString "leaf " ++ Str.ofString "\\x" by decide +kernel]; exact yet (by decide +kernel) (by decide +kernel) rn_3
 ·rw [show (Str.ofString "leaf q\tq") = Str.ofString "leaf " ++ Str.ofString "q\tq" by decide +kernel]; exact yet (by decide +kernel) (by decide +kernel) rn_4
 ·exact ycp (w0 := "") (wr:=["leaf", "q"]) (by decide +kernel) (by decide +kernel) (by decide +kernel) (.inl (by decide +kernel))
 ·exact ycp (w0 := "fork") (wr:=[]) (by decide +kernel) (by decide +kernel) (by decide +kernel) (.inr (by decide))
 ·exact ycp (w0 := "fork") (wr:=["1"]) (by decide +kernel) (by decide +kernel) (by decide +kernel) (.inr (by decide))
 ·rw [show (Str.ofString "fork 0 1") = fkS "0" "1" by decide +kernel]; exact ycq (by decide +kernel) (by decide +kernel) rd_0 rd_1 (.inl (np_0 ps))
 ·rw [show (Str.ofString "fork 1 0") = fkS "1" "0" by decide +kernel]; exact ycq (by decide +kernel) (by decide +kernel) rd_1 rd_0 (.inr ⟨⟨1,rfl⟩,np_0 ps⟩)
 ·exact ycp (w0 := "fork") (wr:=["1", "1", "1"]) (by decide +kernel) (by decide +kernel) (by decide +kernel) (.inr (by decide))
 ·exact ycp (w0 := "fork") (wr:=["1", "", "1"]) (by decide +kernel) (by decide +kernel) (by decide +kernel) (.inr (by decide))
 ·rw [show (Str.ofString "fork 01 1") = fkS "01" "1" by decide +kernel]; exact ycq (by decide +kernel) (by decide +kernel) yiu rd_1 (.inl (.inl rfl))
 ·rw [show (Str.ofString "fork +1 1") = fkS "+1" "1" by decide +kernel]; exact ycq (by decide +kernel) (by decide +kernel) yiv rd_1 (.inl (.inl rfl))
 ·rw [show (Str.ofString "fork -1 1") = fkS "-1" "1" by decide +kernel]; exact ycq (by decide +kernel) (by decide +kernel) yiw rd_1 (.inl (.inl rfl))
 ·rw [show (Str.ofString "fork a 1") = fkS "a" "1" by decide +kernel]; exact ycq (by decide +kernel) (by decide +kernel) yix rd_1 (.inl (.inl rfl))
 ·exact ycp (w0 := "fork") (wr:=["1", "1", ""]) (by decide +kernel) (by decide +kernel) (by decide +kernel) (.inr (by decide))
 ·rw [show (Str.ofString "fork 1 9999999999999999999999999999999999999999") = fkS "1" "9999999999999999999999999999999999999999" by decide +kernel]; exact ycq (by decide +kernel) (by decide +kernel) rd_1 yiy (.inr ⟨⟨1,rfl⟩,.inl rfl⟩)
theorem rw0 : ∀ r ∈ bad0,Rw r:=by decide +kernel
theorem ydb {a b : Nat} (a1 : 1 <= a) (a2 : a < 10 ^ 10) (b1 : 1 <= b) (b2 : b < 10 ^ 10) : Rw (fkS (strI a) (strI b)):=by
 have l5 : (Str.ofString "fork ").length = 5:=by decide +kernel
 have l1 : (Str.ofString " ").length = 1:=by decide +kernel
 have wa:=wd_n a1 a2
 have wb:=wd_n b1 b2
 have ra:=rw_n a1 a2
 have rb:=rw_n b1 b2
 refine ⟨?_,ybW (ybW (ybW (by decide +kernel) wa.2.1) (by decide +kernel)) wb.2.1,?_⟩
 ·unfold fkS; rw [zaf,zaf,zaf,l5,l1]; lia
 ·unfold fkS
  rw [zah,zah,zah]
  intro z
  rcases List.mem_append.mp z with z | z
  ·rcases List.mem_append.mp z with z | z
   ·rcases List.mem_append.mp z with z | z
    ·revert z; decide +kernel
    ·exact ra.2 z
   ·revert z; decide +kernel
  ·exact rb.2 z
theorem nr88 {ps : List Pc} {k n : Nat} (hk : ps.length = k) (hn : k <= n) (hz : n <= 30000) : ∀ r ∈ ycN k n,yby ps r /\ Rw r:=by
 intro r hr
 rcases List.mem_append.mp hr with z | z
 ·exact ⟨nr0 ps r z,rw0 r z⟩
 ·simp only [List.mem_cons,List.not_mem_nil,or_false] at z
  have e1 : ∀ h,yan [.str (strI 1)] h = .ok (.int ((1 : Nat) : Int)) h:=λh=>yco (by decide) (by decide) h
  have e2 : ∀ a : Nat,1 <= a -> a < 10 ^ 10 -> ∀ h,yan [.str (strI a)] h = .ok (.int a) h:=λa b c h=>yco b c h
  rcases z with rfl | rfl | rfl | rfl
  ·exact ⟨ycq (wd_n (by lia) (by lia)) (wd_n (by decide) (by decide)) (e2 _ (by lia) (by lia)) e1 (.inl (np_n (by lia))),ydb (by lia) (by lia) (by decide) (by decide)⟩
  ·exact ⟨ycq (wd_n (by decide) (by decide)) (wd_n (by lia) (by lia)) e1 (e2 _ (by lia) (by lia)) (.inr ⟨⟨_,rfl⟩,np_n (by lia)⟩),ydb (by decide) (by decide) (by lia) (by lia)⟩
  ·exact ⟨ycq (wd_n (by decide) (by decide)) (wd_n (by lia) (by lia)) e1 (e2 _ (by lia) (by lia)) (.inr ⟨⟨_,rfl⟩,np_n (by lia)⟩),ydb (by decide) (by decide) (by lia) (by lia)⟩
  ·exact ⟨ycq (wd_n (by lia) (by lia)) (wd_n (by decide) (by decide)) (e2 _ (by lia) (by lia)) e1 (.inl (np_n (by lia))),ydb (by lia) (by lia) (by decide) (by decide)⟩
end Sk
namespace Sk
open PySem PySem.Spec L2 Sm
theorem yhx {ps : List Pc} (g : Good ps) (hz : ps.length <= 30000) {i : Nat} {q : Pc} (e : ps[i]? = some q) : yby ps (rowS q):=by
 have li:=(List.getElem?_eq_some_iff.mp e).1
 have ok:=g.get e
 refine yhv λh p S=>?_
 cases q with
 | leaf x =>
  obtain ⟨s1,s2,s3⟩:=zaU ok
  obtain ⟨o,er⟩:=zcp s3 (Nat.le_trans s2 (by decide)) h
  have el:=zbZ x
  refine ⟨i + 1,[o],?_,li⟩
  show yaq [.ref p,.str (Str.ofString "leaf " ++ escS x)] h = _
  rw [zcq S (by lia) (yeH (zcn s3)) er]
  exact zcE (S.app [o]) g.nodup ok (Nat.le_trans s2 (by decide)) e
 | fork a b =>
  have F : ForkOk ps a b:=ForkOk.pre ok (List.take_prefix _ _)
  have lt:=ze2 g e
  refine ⟨i + 1,[],?_,li⟩
  rw [List.append_nil]
  show yaq [.ref p,.str (Str.ofString "fork " ++ strI a++Str.ofString " " ++ strI b)] h = _
  rw [zcr S (wd_n (by lia) (by lia)) (wd_n (by lia) (by lia)) (yco (by lia) (by lia) h) (yco (by lia) (by lia) h)]
  exact zcG S g.nodup F e
def ckB (ps : List Pc) (a b : Nat) : Nat:=match (meas ps)[a]?,(meas ps)[b]? with
 | some ma,some mb=>(match (meas ps)[ma.ll]?,(meas ps)[mb.fl]? with
  | some la,some fb=>if la.sg + fb.sg <= 8 then 3 else if 1 < (ma.ht - mb.ht).natAbs then 4 else if 1000000000000000000 < ma.sg + mb.sg then 5 else 0
  | _,_=>0)
 | _,_=>0
theorem yeZ {ps : List Pc} {a b : Nat} (a1 : 1 <= a) (b1 : 1 <= b) (a2 : a < 10 ^ 10) (b2 : b < 10 ^ 10) {c : Nat} (h0 : ckB ps a b = c) (hc : c = 3 \/ c = 4 \/ c = 5) : yby ps (fkS (strI a) (strI b)):=by
 refine yec λh p S=>⟨c,[],?_,by rcases hc with rfl | rfl | rfl<;>rfl⟩
 rw [List.append_nil]
 show yaq [.ref p,.str (Str.ofString "fork " ++ strI a++Str.ofString " " ++ strI b)] h = _
 rw [zcr S (wd_n a1 a2) (wd_n b1 b2) (yco a1 a2 h) (yco b1 b2 h)]
 have key : yas [.ref p,.int a,.int b] h = .ex c h:=by
  unfold ckB at h0
  split at h0
  ·rename_i ma mb e1 e2
   split at h0
   ·rename_i la fb e3 e4
    rw [zd0 S e1 e2 a1 b1 e3 e4]
    subst h0
    by_cases d1 : la.sg + fb.sg <= 8
    ·rw [if_pos d1,if_pos d1]
    ·rw [if_neg d1,if_neg d1] at *
     by_cases d2 : 1 < (ma.ht - mb.ht).natAbs
     ·rw [if_pos d2,if_pos d2]
     ·rw [if_neg d2,if_neg d2] at *
      by_cases d3 : 1000000000000000000 < ma.sg + mb.sg
      ·rw [if_pos d3,if_pos d3]
      ·rw [if_neg d3] at hc; lia
   ·subst h0; lia
  ·subst h0; lia
 have ob:=S.ob
 unfold yax
 generalize yas = G at *
 simp [key,ob]
def q3 : List Pc:=[.leaf "abc",.leaf "abcde"]
def q4 : List Pc:=[.leaf "abcdefgh",.fork 1 1,.fork 2 2]
def q57 (n : Nat) : List Pc:=.leaf "abcdefgh" :: (List.range n).map λk=>.fork (k + 1) (k + 1)
theorem g3 : Good q3:=zb0 (ps:=[]) .nil (by decide +kernel)
theorem g4 : Good q4:=zb0 (ps:=[]) .nil (by decide +kernel)
theorem g57 : Good (q57 56):=zb0 (ps:=[]) .nil (by decide +kernel)
theorem n3 : yby q3 (fkS (strI 1) (strI 2)):=yeZ (by decide) (by decide) (by decide) (by decide) (c:=3) (by decide +kernel) (.inl rfl)
theorem n4 : yby q4 (fkS (strI 3) (strI 1)):=yeZ (by decide) (by decide) (by decide) (by decide) (c:=4) (by decide +kernel) (.inr (.inl rfl))
theorem n57 : yby (q57 56) (fkS (strI 57) (strI 57)):=yeZ (by decide) (by decide) (by decide) (by decide) (c:=5) (by decide +kernel) (.inr (.inr rfl))
theorem r3 : ([Str.ofString "leaf abc", "leaf abcde", "fork 1 2"] : List Str) = q3.map rowS++[fkS (strI 1) (strI 2)]:=by decide +kernel
theorem r4 : ([Str.ofString "leaf abcdefgh", "fork 1 1", "fork 2 2", "fork 3 1"] : List Str) = q4.map rowS++[fkS (strI 3) (strI 1)]:=by decide +kernel
def lng : List Str:=Str.ofString "leaf abcdefgh" :: (List.range 61).map λk=>fkS (strI (k + 1)) (strI (k + 1))
theorem ye0 : lng = (q57 56).map rowS++fkS (strI 57) (strI 57) :: (List.range 4).map (λk=>fkS (strI (k + 58)) (strI (k + 58))):=by
 have e : Str.ofString "leaf abcdefgh" = rowS (.leaf "abcdefgh"):=by decide +kernel
 have e2 : List.range 61 = List.range 56++56 :: (List.range 4).map (· + 57):=by decide +kernel
 unfold lng q57
 rw [e2,e,List.map_cons,List.map_append,List.map_cons,List.map_map,List.map_map,List.cons_append]
 rfl
theorem yiB : lng.take 57 = (q57 56).map rowS:=by
 rw [ye0,List.take_append_of_le_length (by decide +kernel),List.take_of_length_le (by decide +kernel)]
theorem rw57 : ∀ r ∈ fkS (strI 57) (strI 57) :: (List.range 4).map (λk=>fkS (strI (k + 58)) (strI (k + 58))),Rw r:=by
 intro r hr
 rcases List.mem_cons.mp hr with rfl | hr
 ·exact ydb (by decide) (by decide) (by decide) (by decide)
 ·obtain ⟨k,hk,rfl⟩:=List.mem_map.mp hr
  have:=List.mem_range.mp hk
  exact ydb (by lia) (by lia) (by lia) (by lia)
theorem ydw {x y : Str} (hl : x.length + y.length <= 1000) (h : AH) : fAdd (.str x) (.str y) h = .ok (.str (x++y)) h:=by
 have : x.length + y.length <= sizeLine:=Nat.le_trans hl (by decide)
 simp [this]
theorem yiC {x y : List AV} (hl : x.length + y.length <= 1000) (h : AH) : fAdd (.fl x) (.fl y) h = .ok (.fl (x++y)) h:=by
 have : x.length + y.length <= sizeLine:=Nat.le_trans hl (by decide)
 simp [this]
theorem yiD {k n : Nat} (hk : k <= 30000) (hn : n <= 30000) (h : AH) : ybg [.int k,.int n] h = .ok (.fl ((ycN k n).map AV.str)) h:=by
 have d1:=(yb1 (k + 1) (by lia)).2.2 h
 have d2:=(yb1 (k + 2) (by lia)).2.2 h
 have d3:=(yb1 (n + 9) (by lia)).2.2 h
 have z1 : fAdd (.int k) (.int 1) h = .ok (.int ((k + 1 : Nat) : Int)) h:=by simp
 have z2 : fAdd (.int k) (.int 2) h = .ok (.int ((k + 2 : Nat) : Int)) h:=by simp
 have z3 : fAdd (.int n) (.int 9) h = .ok (.int ((n + 9 : Nat) : Int)) h:=by simp
 have l1:=(yb1 (k + 1) (by lia)).2.1
 have l2:=(yb1 (k + 2) (by lia)).2.1
 have l3:=(yb1 (n + 9) (by lia)).2.1
 have f5 : (Str.ofString "fork ").length = 5:=by decide +kernel
 have f2 : (Str.ofString " 1").length = 2:=by decide +kernel
 have f7 : (Str.ofString "fork 1 ").length = 7:=by decide +kernel
 have m9 : yd5 (.str "9") (.int 40) h = .ok (.str "9999999999999999999999999999999999999999") h:=by kernel_rfl
 have a9 : fAdd (.str "fork 1 ") (.str "9999999999999999999999999999999999999999") h = .ok (.str "fork 1 9999999999999999999999999999999999999999") h:=by
  rw [ydw (by decide +kernel)]; rw [show Str.ofString "fork 1 " ++ Str.ofString "9999999999999999999999999999999999999999" = Str.ofString "fork 1 9999999999999999999999999999999999999999" by decide +kernel]
 have e1 : ∀ s : Str,Str.ofString "fork " ++ s++Str.ofString " 1" = fkS s (strI 1):=λs=>by
  unfold fkS; rw [zaA,zaA,zaA,show Str.ofString " 1" = Str.ofString " " ++ strI 1 by decide +kernel]
 have e2 : ∀ s : Str,Str.ofString "fork 1 " ++ s = fkS (strI 1) s:=λs=>by
  unfold fkS; rw [show Str.ofString "fork 1 " = Str.ofString "fork " ++ strI 1++Str.ofString " " by decide +kernel]
 have b1:=ydw (x := "fork ") (y:=strI (k + 1)) (by lia) h
 have b2:=ydw (x:=Str.ofString "fork " ++ strI (k + 1)) (y := " 1") (by rw [zaf]; lia) h
 have b3:=ydw (x := "fork 1 ") (y:=strI (k + 1)) (by lia) h
 have b4:=ydw (x := "fork 1 ") (y:=strI (k + 2)) (by lia) h
 have b5:=ydw (x := "fork ") (y:=strI (n + 9)) (by lia) h
 have b6:=ydw (x:=Str.ofString "fork " ++ strI (n + 9)) (y := " 1") (by rw [zaf]; lia) h
 rw [e1] at b2 b6
 rw [e2] at b3 b4
 generalize ((k + 1 : Nat) : Int) = K1 at *
 generalize ((k + 2 : Nat) : Int) = K2 at *
 generalize ((n + 9 : Nat) : Int) = K3 at *
 simp [ybg,m9,a9,z1,z2,z3,d1,d2,d3,b1,b2,b3,b4,b5,b6,yiC,ycN,bad0,-fAdd,-ya7,-yd5]
end Sk
namespace Sk
open PySem PySem.Spec L2 Sm
theorem zhy {α : Type} (l : List α) (k : Nat) : cutA l none (some (k : Int)) = l.take k:=by
 unfold cutA
 rw [HT.sIx_nat,HT.sIx_none]
 by_cases hk : k <= l.length
 ·rw [Nat.min_eq_left hk]; simp
 ·rw [Nat.min_eq_right (by lia),List.take_of_length_le (l:=l) (by lia)]; simp
theorem zhz {α : Type} (l : List α) (k : Nat) : cutA l (some (k : Int)) none = l.drop k:=by
 unfold cutA
 rw [HT.sIx_nat,HT.sIx_none]
 by_cases hk : k <= l.length
 ·rw [Nat.min_eq_left hk,List.take_of_length_le (by rw [List.length_drop]; lia)]
 ·rw [Nat.min_eq_right (by lia),List.drop_of_length_le (l:=l) (by lia),List.drop_of_length_le (by lia)]; simp
theorem ze5 (l : List Str) (k : Nat) (h : AH) : ybo (.fl (l.map AV.str)) none (some (k : Int)) h = .ok (.fl ((l.take k).map AV.str)) h:=by
 simp only [ybo,zhy,List.map_take]
theorem ze6 (l : List Str) (k : Nat) (h : AH) : ybo (.fl (l.map AV.str)) (some (k : Int)) none h = .ok (.fl ((l.drop k).map AV.str)) h:=by
 simp only [ybo,zhz,List.map_drop]
theorem ydm {x y : List Str} (hl : x.length + y.length <= 100000) (h : AH) : fAdd (.fl (x.map AV.str)) (.fl (y.map AV.str)) h = .ok (.fl ((x++y).map AV.str)) h:=by
 have : (x.map AV.str).length + (y.map AV.str).length <= sizeLine:=by rw [List.length_map,List.length_map]; exact Nat.le_trans hl (by decide)
 rw [List.map_append]
 simp only [fAdd,ybi]
 rw [if_pos this]
theorem ycZ {zs : List Str} (hr : ∀ r ∈ zs,Rw r) (hz : zs.length <= 30000) (h : AH) : ybj (.str "\n") [.fl (zs.map AV.str)] h = .ok (.str (glx zs)) h:=yft zs hz (λx hx=>⟨(hr x hx).1,(hr x hx).2.1⟩) _ h rfl
theorem zgC {ps : List Pc} (g : Good ps) (k : Nat) : Good (ps.take k):=by
 induction g with
 | nil=>rw [List.take_nil]; exact .nil
 | @snoc ps q g hq ok ih =>
  by_cases hk : k <= ps.length
  ·rw [List.take_append_of_le_length hk]; exact ih
  ·rw [List.take_of_length_le (by simp; lia)]; exact .snoc g hq ok
theorem ne_i (i : Int) (h : AH) : fNe (.int i) (.int i) h = .ok (.bl false) h:=by simp [toD,PyData.eqv]
theorem ziN {ps : List Pc} (g : Good ps) (hz : ps.length <= 300) {k : Nat} (hk : k <= ps.length) {b : Str} (no : yby (ps.take k) b) (rb : Rw b) (ne : ps = [] -> b ≠ Str.ofString "") (o0 o1 o2 o4 o5 o8 o9 o10 o11 : Option AV) (h : AH) :
  ∃ h' : AH,yct [o0,o1,o2,some (.fl ((ps.map rowS).map AV.str)),o4,o5,some (.int (k : Int)),some (.str b),o8,o9,o10,o11] h = .nx [o0,o1,o2,some (.fl ((ps.map rowS).map AV.str)),o4,o5,some (.int (k : Int)),some (.str b),o8,o9,o10,o11] h' /\ ∀ i,i < h.length -> h'[i]? = h[i]? := by
 have rk:=zaN g (by lia)
 have r0 : Rw (Str.ofString "fork 0 0"):=by decide +kernel
 have gt:=zgC g k
 have lt : (ps.take k).length = k:=by rw [List.length_take]; lia
 have mt : (ps.map rowS).take k = (ps.take k).map rowS:=by rw [List.map_take]
 have rd : ∀ r ∈ (ps.map rowS).drop k,Rw r:=λr hr=>rk r (List.mem_of_mem_drop hr)
 have rt : ∀ r ∈ (ps.take k).map rowS,Rw r:=zaN gt (by lia)
 have ld : ((ps.map rowS).drop k).length <= 300:=by rw [List.length_drop,List.length_map]; lia
 have n1 : (ps.take k).map rowS++b :: (ps.map rowS).drop k ≠ [Str.ofString ""]:=λe=>by
  have l:=congrArg List.length e
  rw [List.length_append,List.length_cons,List.length_map,lt,List.length_drop,List.length_map,List.length_singleton] at l
  have hp : ps = []:=List.eq_nil_of_length_eq_zero (by lia)
  subst hp
  rw [List.take_nil,List.map_nil,List.nil_append] at e
  exact ne rfl (List.cons.inj e).1
 have n2 : (ps.take k).map rowS++b :: (Str.ofString "fork 0 0" :: (ps.map rowS).drop k) ≠ [Str.ofString ""]:=λe=>by
  have l:=congrArg List.length e
  rw [List.length_append,List.length_cons,List.length_cons,List.length_singleton] at l
  lia
 obtain ⟨h1,t1,f1⟩:=yb6 gt (by lia) (b:=b) (rest:=(ps.map rowS).drop k) (λr hr=>(List.mem_cons.mp hr).elim (λz=>z ▸ rb) (rd r)) (by lia) n1 no h
 obtain ⟨h2,t2,f2⟩:=yb6 gt (by lia) (b:=b) (rest:=Str.ofString "fork 0 0" :: (ps.map rowS).drop k) (λr hr=>(List.mem_cons.mp hr).elim (λz=>z ▸ rb) λz=>(List.mem_cons.mp z).elim (λz=>z ▸ r0) (rd r)) (by rw [List.length_cons]; lia) n2 no h1
 rw [lt] at t1 t2
 have c1:=λhh=>ze5 (ps.map rowS) k hh
 have c2:=λhh=>ze6 (ps.map rowS) k hh
 rw [mt] at c1
 have a1:=λhh=>ydm (x:=(ps.take k).map rowS) (y:=[b]) (by rw [List.length_map,lt]; simp; lia) hh
 have a2:=λhh=>ydm (x:=(ps.take k).map rowS++[b]) (y:=(ps.map rowS).drop k) (by rw [List.length_append,List.length_map,lt]; simp; lia) hh
 have a3:=λhh=>ydm (x:=(ps.take k).map rowS) (y:=[b,Str.ofString "fork 0 0"]) (by rw [List.length_map,lt]; simp; lia) hh
 have a4:=λhh=>ydm (x:=(ps.take k).map rowS++[b,Str.ofString "fork 0 0"]) (y:=(ps.map rowS).drop k) (by rw [List.length_append,List.length_map,lt]; simp; lia) hh
 have e1 : (ps.take k).map rowS++[b]++(ps.map rowS).drop k = (ps.take k).map rowS++b :: (ps.map rowS).drop k:=by simp
 have e2 : (ps.take k).map rowS++[b,Str.ofString "fork 0 0"]++(ps.map rowS).drop k = (ps.take k).map rowS++b :: (Str.ofString "fork 0 0" :: (ps.map rowS).drop k):=by simp
 rw [e1] at a2
 rw [e2] at a4
 have j1:=λhh=>ycZ (zs:=(ps.take k).map rowS++b :: (ps.map rowS).drop k) (λr hr=>(List.mem_append.mp hr).elim (rt r) λz=>(List.mem_cons.mp z).elim (λz=>z ▸ rb) (rd r)) (by rw [List.length_append,List.length_map,lt,List.length_cons]; lia) hh
 have j2:=λhh=>ycZ (zs:=(ps.take k).map rowS++b :: (Str.ofString "fork 0 0" :: (ps.map rowS).drop k)) (λr hr=>(List.mem_append.mp hr).elim (rt r) λz=>(List.mem_cons.mp z).elim (λz=>z ▸ rb) λz=>(List.mem_cons.mp z).elim (λz=>z ▸ r0) (rd r)) (by rw [List.length_append,List.length_map,lt,List.length_cons,List.length_cons]; lia) hh
 refine ⟨h2,?_,λi hi=>?_⟩
 ·generalize (ps.take k).map rowS++b :: (Str.ofString "fork 0 0" :: (ps.map rowS).drop k) = Z2 at *
  generalize (ps.take k).map rowS++b :: (ps.map rowS).drop k = Z1 at *
  have s1 : [AV.str b] = [b].map AV.str:=rfl
  have s2 : [AV.str b,AV.str (Str.ofString "fork 0 0")] = [b,Str.ofString "fork 0 0"].map AV.str:=rfl
  have x1:=a1 h
  have x3:=a3 h1
  rw [<- s1] at x1
  rw [<- s2] at x3
  have y2:=a2 h
  have y4:=a4 h1
  generalize ((ps.take k).map rowS++[b]).map AV.str = V1 at *
  generalize ((ps.take k).map rowS++[b,Str.ofString "fork 0 0"]).map AV.str = V2 at *
  have z1:=c1 h
  have z2:=c2 h
  have z3:=c1 h1
  have z4:=c2 h1
  generalize ((ps.take k).map rowS).map AV.str = V3 at *
  generalize ((ps.map rowS).drop k).map AV.str = V4 at *
  generalize (ps.map rowS).map AV.str = V5 at *
  have w1:=j1 h
  have w2:=j2 h1
  generalize Z1.map AV.str = V6 at *
  generalize Z2.map AV.str = V7 at *
  generalize glx Z1 = T1 at *
  generalize glx Z2 = T2 at *
  have q1:=ne_i (k : Int) h1
  have q2:=ne_i (k : Int) h2
  generalize (k : Int) = K at *
  unfold yct
  generalize yap = G at *
  simp [z1,z2,z3,z4,x1,x3,y2,y4,w1,w2,t1,t2,q1,q2,-ybo,-fAdd,-fNe]
 ·rw [f2 i (by have:=f1 i hi; rw [List.getElem?_eq_getElem hi] at this; exact ybF this),f1 i hi]
end Sk
namespace Sk
open PySem PySem.Spec L2 Sm
theorem ziO {ps : List Pc} (g : Good ps) (hz : ps.length <= 300) (hp : 1 <= ps.length) {L : Nat} {h : AH} (eL : ∃ N : Int,h[L]? = some (.lst [.int N])) (o0 o1 o2 o6 o7 o8 o9 o10 o11 : Option AV) :
  ∃ h' : AH,ycu [o0,o1,o2,some (.fl ((ps.map rowS).map AV.str)),some (.int (ps.length : Int)),some (.ref L),o6,o7,o8,o9,o10,o11] h = .nx [o0,o1,o2,some (.fl ((ps.map rowS).map AV.str)),some (.int (ps.length : Int)),some (.ref L),o6,o7,o8,o9,o10,o11] h' /\ (∃ N : Int,h'[L]? = some (.lst [.int N])):=by
 obtain ⟨N,eL⟩:=eL
 have na : (ps.length : Int).natAbs < 2 ^ 200:=by
  rw [Int.natAbs_natCast]
  exact Nat.lt_of_le_of_lt hz (by decide)
 have dg:=zcY (m:=(ps.length : Int)) eL (by lia) na
 have i0 : 0 <= N % (ps.length : Int):=Int.emod_nonneg _ (by lia)
 have i1 : N % (ps.length : Int) < ps.length:=Int.emod_lt_of_pos _ (by lia)
 obtain ⟨j,ej⟩ : ∃ j : Nat,N % (ps.length : Int) = j:=⟨(N % (ps.length : Int)).toNat,by lia⟩
 rw [ej] at dg
 have lj : j < ps.length:=by lia
 have eq : ps[j]? = some ps[j]:=List.getElem?_eq_getElem lj
 obtain ⟨h1,eh1⟩ : ∃ x,x = h.set L (.lst [.int (N / (ps.length : Int))]):=⟨_,rfl⟩
 rw [<- eh1] at dg
 have eL1 : h1[L]? = some (.lst [.int (N / (ps.length : Int))]):=by rw [eh1]; exact List.getElem?_set_self (ybF eL)
 have rk:=zaN g (by lia)
 have rq : Rw (rowS ps[j]):=rk _ (List.mem_map_of_mem (List.getElem_mem lj))
 have ne : ps.map rowS++[rowS ps[j]] ≠ [Str.ofString ""]:=λe=>by
  have l:=congrArg List.length e
  rw [List.length_append,List.length_map,List.length_singleton,List.length_singleton] at l
  lia
 obtain ⟨h2,t1,f1⟩:=yb6 g (by lia) (b:=rowS ps[j]) (rest:=[]) (λr hr=>by rw [List.mem_singleton.mp hr]; exact rq) (by decide) ne (yhx g (by lia) eq) h1
 have ix : fIx (.fl ((ps.map rowS).map AV.str)) (.int (j : Int)) h1 = .ok (.str (rowS ps[j])) h1:=by
  have : atI ((ps.map rowS).map AV.str) (j : Int) = some (.str (rowS ps[j])):=zdZ (by rw [List.getElem?_map,eq]; rfl)
  simp only [fIx,this]
 have a1:=ydm (x:=ps.map rowS) (y:=[rowS ps[j]]) (by rw [List.length_map]; simp; lia) h1
 have j1:=ycZ (zs:=ps.map rowS++[rowS ps[j]]) (λr hr=>(List.mem_append.mp hr).elim (rk r) λz=>by rw [List.mem_singleton.mp z]; exact rq) (by rw [List.length_append,List.length_map]; simp; lia) h1
 have s1 : [AV.str (rowS ps[j])] = [rowS ps[j]].map AV.str:=rfl
 rw [<- s1] at a1
 refine ⟨h2,?_,_,(f1 L (ybF eL1)).trans eL1⟩
 generalize ps.map rowS++[rowS ps[j]] = Z1 at *
 generalize rowS ps[j] = R at *
 generalize (ps.map rowS).map AV.str = V5 at *
 generalize Z1.map AV.str = V6 at *
 generalize glx Z1 = T1 at *
 have q1:=ne_i (ps.length : Int) h2
 generalize (ps.length : Int) = K at *
 generalize (j : Int) = J at *
 unfold ycu
 generalize yap = G at *
 generalize yai = G2 at *
 simp [dg,ix,a1,j1,t1,q1,-fAdd,-fNe,-fIx]
theorem ziP {rs : List Str} (hn : rs ≠ []) : Str.ofString "\n" ++ glx rs = glx (Str.ofString "" :: rs):=by
 cases rs with
 | nil=>exact absurd rfl hn
 | cons r l =>
  refine ycn ?_
  show _ = (Builtin.Str.glued (Str.ofString "\n") (Str.ofString "" :: r :: l)).cps.toList
  rw [zah,ybw,StrLaws.glued_eq_join,yb2]
  show [10]++(Builtin.Str.glued (Str.ofString "\n") (r :: l)).cps.toList = _
  rw [ybw,StrLaws.glued_eq_join]
  have : (Str.ofString "").cps.toList = []:=by decide +kernel
  rw [this]; rfl
theorem ze7 : ∀ {rs : List Str},rs ≠ [] -> glx rs++Str.ofString "\n" = glx (rs++[Str.ofString ""])
 | [],hn=>absurd rfl hn
 | [r],_=>ycn (by
  show _ = (Builtin.Str.glued (Str.ofString "\n") [r,Str.ofString ""]).cps.toList
  rw [zah,ybw,StrLaws.glued_eq_join,yb2]
  show (Builtin.Str.glued (Str.ofString "\n") [r]).cps.toList++[10] = _
  rw [ybw,StrLaws.glued_eq_join]
  have e : (Str.ofString "").cps.toList = []:=by decide +kernel
  have f : ∀ z : Str,(Str.join ⟨#[10]⟩ [z]).cps.toList = z.cps.toList:=λz=>by
   rw [<- StrLaws.glued_eq_join]; rfl
  rw [f,f,e])
 | r :: s :: l,_=>by
  have ih:=congrArg (λz : Str=>z.cps.toList) (ze7 (rs:=s :: l) (by simp))
  refine ycn ?_
  simp only [zah] at ih ⊢
  rw [show r :: s :: l++[Str.ofString ""] = r :: s :: (l++[Str.ofString ""]) from rfl]
  show (Builtin.Str.glued (Str.ofString "\n") (r :: s :: l)).cps.toList++_ = (Builtin.Str.glued (Str.ofString "\n") (r :: s :: (l++[Str.ofString ""]))).cps.toList
  rw [ybw,StrLaws.glued_eq_join,StrLaws.glued_eq_join,yb2,yb2,List.append_assoc,List.cons_append]
  congr 2
  have ih' : (Builtin.Str.glued (Str.ofString "\n") (s :: l)).cps.toList++(Str.ofString "\n").cps.toList = (Builtin.Str.glued (Str.ofString "\n") (s :: (l++[Str.ofString ""]))).cps.toList:=ih
  rw [ybw,StrLaws.glued_eq_join,StrLaws.glued_eq_join] at ih'
  exact ih'
end Sk
namespace Sk
open PySem PySem.Spec L2 Sm
theorem ziQ {rs : List Str} (hr : ∀ r ∈ rs,Rw r) (hz : rs.length <= 400) : (glx rs).length <= 50000:=by
 have sm:=yeb rs λx hx=>(hr x hx).1
 have sz:=size_glued (Str.ofString "\n") rs
 have l1 : Str.length (Str.ofString "\n") = 1:=by decide +kernel
 rw [l1,Nat.mul_one] at sz
 show (Builtin.Str.glued (Str.ofString "\n") rs).length <= _
 lia
theorem yfD {x y : Str} (hl : x.length + y.length <= 100000) (h : AH) : fAdd (.str x) (.str y) h = .ok (.str (x++y)) h:=by
 have : x.length + y.length <= sizeLine:=Nat.le_trans hl (by decide)
 simp [this]
theorem rw_e : Rw (Str.ofString ""):=by decide +kernel
theorem nr_e (ps : List Pc) : yby ps (Str.ofString ""):=nr0 ps _ (by simp [bad0])
theorem nl2 : Str.ofString "\n" = glx (([] : List Pc).map rowS++Str.ofString "" :: [Str.ofString ""]):=by decide +kernel
theorem yhy (en : En) (h : AH) : ybl [] (ybq (sLit (.int 1)) (sLit (.int 62))) sYes (sOp2 fAdd (sOp2 fAdd (sOp2 fAdd (sLit (.str "fork ")) (yad ya7 (yaa (sVar 0) sNil))) (sLit (.str " "))) (yad ya7 (yaa (sVar 0) sNil))) en h = .ok (.fl (((List.range 61).map λk=>fkS (strI (k + 1)) (strI (k + 1))).map AV.str)) h:=by
 have rg : yaC 1 61 = (List.range 61).map (λk : Nat=>AV.int ((k + 1 : Nat) : Int)):=by kernel_rfl
 have it : ybq (sLit (.int 1)) (sLit (.int 62)) en h = .ok (yaC 1 61,none) h:=rfl
 have cp:=zdX (js:=[]) (en:=en) (w:=none) (all:=yaC 1 61) (e:=sOp2 fAdd (sOp2 fAdd (sOp2 fAdd (sLit (.str "fork ")) (yad ya7 (yaa (sVar 0) sNil))) (sLit (.str " "))) (yad ya7 (yaa (sVar 0) sNil))) (g:=λk : Nat=>AV.int ((k + 1 : Nat) : Int)) (f:=λk : Nat=>AV.str (fkS (strI (k + 1)) (strI (k + 1)))) (h:=h) rfl (List.range 61) [] (λk hk=>by
  have hk' := List.mem_range.mp hk
  have d:=(yb1 (k + 1) (by lia)).2.2 h
  obtain ⟨a1,a2,a3⟩:=zd5 (a:=k + 1) (b:=k + 1) (by lia) (by lia) h
  have a3' : fAdd (.str (Str.ofString "fork " ++ strI (k + 1)++Str.ofString " ")) (.str (strI (k + 1))) h = .ok (.str (fkS (strI (k + 1)) (strI (k + 1)))) h:=a3
  generalize ((k + 1 : Nat) : Int) = K at *
  simp [d,a1,a2,a3',-fAdd,-ya7]) (by decide)
 rw [<- rg] at cp
 rw [List.nil_append] at cp
 unfold ybl
 rw [it]
 dsimp only
 rw [cp,List.map_map]
 rfl
end Sk
namespace Sk
open PySem PySem.Spec L2 Sm
theorem yhz {k n : Nat} : ∀ r ∈ (ycN k n).drop 1,r ≠ Str.ofString "" := by
 intro r hr e
 have l0 : (Str.ofString "").length = 0:=by decide +kernel
 have hf : ∀ a b : Str,fkS a b ≠ Str.ofString "" := λa b z=>by
  have:=congrArg Str.length z
  unfold fkS at this
  rw [zaf,zaf,zaf,l0] at this
  have : (Str.ofString " ").length = 1:=by decide +kernel
  lia
 have : (ycN k n).drop 1 = bad0.drop 1++[fkS (strI (k + 1)) (strI 1),fkS (strI 1) (strI (k + 1)),fkS (strI 1) (strI (k + 2)),fkS (strI (n + 9)) (strI 1)]:=rfl
 rw [this] at hr
 rcases List.mem_append.mp hr with z | z
 ·subst e
  revert z
  decide +kernel
 ·simp only [List.mem_cons,List.not_mem_nil,or_false] at z
  rcases z with z | z | z | z<;>exact hf _ _ (z.symm.trans e)
theorem ybx {a b : SS} {en e : En} {h h' : AH} (q : a en h = .nx e h') : sSeq a b en h = b e h' := by simp only [sSeq,q]
theorem yiE {n m : Nat} {b : SS} {args : List AV} {h h' : AH} {v : AV} (hl : args.length = n) (q : b (args.map some++List.replicate (m - n) none) h = .rt v h') : mkFn n m b args h = .ok v h' := by
 unfold mkFn
 rw [if_pos hl,q]
theorem yiF {G : Fn} {en : En} {W5 W6 : List AV} {T5 T6 : Str} {h0 h1 h2 : AH} (a : en[11]? = some (some (.fl W5))) (c57 : ybo (.fl W5) none (some 57) h0 = .ok (.fl W6) h0) (x7 : ybj (.str "\n") [.fl W6] h0 = .ok (.str T6) h0) (u5 : G [.str T6] h0 = .ok .non h1) (x8 : ybj (.str "\n") [.fl W5] h1 = .ok (.str T5) h1) (v6 : G [.str T5] h1 = .ok (.int 57) h2) : sRet (ydo (sOp2 fIsN (yad G (yaa (sBM ya0 ybj (sLit (.str "\n")) (yaa (sCut (sVar 11) none (some (sLit (.int 57)))) sNil)) sNil)) (sLit .non)) (sOp2 fEq (yad G (yaa (sBM ya0 ybj (sLit (.str "\n")) (yaa (sVar 11) sNil)) sNil)) (sLit (.int 57)))) en h0 = .rt (.bl true) h2:=by
 have w5 : fEq (.int 57) (.int 57) h2 = .ok (.bl true) h2:=by simp
 simp [a,c57,x7,u5,x8,v6,w5,-fEq,-ybo]
theorem law_true (ns : List Int) (hl : ns.length <= 63) : ∃ h',yeX [.fl (ns.map AV.int)] [] = .ok (.bl true) h' := by
 obtain ⟨ps,H1,ed,S1,g,z1⟩:=ziI ns hl []
 have l0 : ([] : AH).length = 0:=rfl
 rw [l0] at ed S1
 obtain ⟨r,et⟩:=ziH S1 g (by lia)
 have et : ybf [.ref 0] H1 = .ok (.str (glx (ps.map rowS))) (H1++r):=et
 have S2:=S1.app r
 obtain ⟨H2,eH2⟩ : ∃ x,x = H1++r:=⟨_,rfl⟩
 rw [<- eH2] at et S2
 have rk:=zaN g (by lia)
 have fm:=ydI S2
 have ob:=S2.ob
 have e0 : ps = [] -> glx (ps.map rowS) = Str.ofString "" := λe=>by subst e; decide +kernel
 obtain ⟨RS,sp,eRS⟩ : ∃ RS,ybI (.str (glx (ps.map rowS))) [.str "\n"] H2 = .ok (.fl RS) H2 /\ (ps ≠ [] -> RS = (ps.map rowS).map AV.str):=by
  by_cases hn : ps = []
  ·have:=zaE (Str.ofString "") 10 (by decide +kernel) (by decide +kernel) H2
   rw [<- ybw] at this
   rw [e0 hn]
   exact ⟨_,this,λz=>absurd hn z⟩
  ·exact ⟨_,(zbN rk (by simp; lia) (by simpa using hn)).1 H2,λ_=>rfl⟩
 obtain ⟨N,es⟩:=zcm ns hl 3 (by decide) H2
 obtain ⟨L,eLL⟩ : ∃ L,L = H2.length:=⟨_,rfl⟩
 obtain ⟨H3,eH3⟩ : ∃ x,x = H2++[AO.lst [.int N]]:=⟨_,rfl⟩
 rw [<- eLL,<- eH3] at es
 have es' : yaM [.fl (ns.map AV.int),.int 3] H2 = .ok (.ref L) H3:=es
 have eL3 : H3[L]? = some (.lst [.int N]):=by rw [eH3,eLL]; simp
 have na : ((ps.length + 1 : Nat) : Int).natAbs < 2 ^ 200:=by
  rw [Int.natAbs_natCast]
  exact Nat.lt_of_le_of_lt (Nat.succ_le_succ z1) (by decide)
 have dg:=zcY (m:=((ps.length + 1 : Nat) : Int)) eL3 (by lia) na
 have i0 : 0 <= N % ((ps.length + 1 : Nat) : Int):=Int.emod_nonneg _ (by lia)
 have i1 : N % ((ps.length + 1 : Nat) : Int) < ((ps.length + 1 : Nat) : Int):=Int.emod_lt_of_pos _ (by lia)
 obtain ⟨k,ek⟩ : ∃ k : Nat,N % ((ps.length + 1 : Nat) : Int) = k:=⟨(N % ((ps.length + 1 : Nat) : Int)).toNat,by lia⟩
 rw [ek] at dg
 have hk : k <= ps.length:=by lia
 obtain ⟨H4,eH4⟩ : ∃ x,x = H3.set L (.lst [.int (N / ((ps.length + 1 : Nat) : Int))]):=⟨_,rfl⟩
 rw [<- eH4] at dg
 have eL4 : ∃ N : Int,H4[L]? = some (.lst [.int N]):=⟨_,by rw [eH4]; exact List.getElem?_set_self (ybF eL3)⟩
 have kp : ∀ {h h' : AH},(∃ N : Int,h[L]? = some (.lst [.int N])) -> (∀ i,i < h.length -> h'[i]? = h[i]?) -> ∃ N : Int,h'[L]? = some (.lst [.int N]):=λ⟨N,e⟩ f=>⟨N,(f L (ybF e)).trans e⟩
 obtain ⟨H5,t1,f5⟩:=yfC g (by lia) H4
 have eL5:=kp eL4 f5
 obtain ⟨H6,t2,f6⟩:=yb6 Good.nil (by decide) (b:=Str.ofString "") (rest:=[Str.ofString ""]) (λr hr=>by simp at hr; rw [hr]; exact rw_e) (by decide) (by decide +kernel) (nr_e []) H5
 rw [<- nl2] at t2
 have t2 : yap [.str (Str.ofString "\n")] H5 = .ok (.int 0) H6:=t2
 have eL6:=kp eL5 f6
 have lT:=ziQ rk (by rw [List.length_map]; lia)
 have ln1 : (Str.ofString "\n").length = 1:=by decide +kernel
 have a3:=yfD (x:=Str.ofString "\n") (y:=glx (ps.map rowS)) (by lia) H6
 obtain ⟨H7,t3,f7⟩ : ∃ H7 : AH,yap [.str (Str.ofString "\n" ++ glx (ps.map rowS))] H6 = .ok (.int 0) H7 /\ ∀ i,i < H6.length -> H7[i]? = H6[i]? := by
  by_cases hn : ps = []
  ·rw [e0 hn,show Str.ofString "\n" ++ Str.ofString "" = Str.ofString "\n" by decide +kernel]
   obtain ⟨H7,t,f⟩:=yb6 Good.nil (by decide) (b:=Str.ofString "") (rest:=[Str.ofString ""]) (λr hr=>by simp at hr; rw [hr]; exact rw_e) (by decide) (by decide +kernel) (nr_e []) H6
   rw [<- nl2] at t
   exact ⟨H7,t,f⟩
  ·rw [ziP (by simpa using hn)]
   have:=yb6 Good.nil (by decide) (b:=Str.ofString "") (rest:=ps.map rowS) (λr hr=>(List.mem_cons.mp hr).elim (λz=>z ▸ rw_e) (rk r)) (by rw [List.length_map]; lia) (λe=>hn (by simpa using e)) (nr_e []) H6
   exact this
 have eL7:=kp eL6 f7
 have gt : fGt (.int (ps.length : Int)) (.int 0) H7 = .ok (.bl (decide (ps ≠ []))) H7:=by
  cases ps with
  | nil=>rfl
  | cons q l=>simp
 obtain ⟨H8,c2,eL8⟩ : ∃ H8 : AH,(∀ en : En,en[2]? = some (some (.str (glx (ps.map rowS)))) -> en[4]? = some (some (.int (ps.length : Int))) -> sIf (sAnd (yaz (sOp2 fGt (sVar 4) (sLit (.int 0)))) (yaz (sOp2 fNe (yad yap (yaa (sOp2 fAdd (sVar 2) (sLit (.str "\n"))) sNil)) (sVar 4)))) (sRet (sLit (.bl false))) yaL en H7 = .nx en H8) /\ ∃ N : Int,H8[L]? = some (.lst [.int N]):=by
  by_cases hn : ps = []
  ·rw [show decide (ps ≠ []) = false by simp [hn]] at gt
   refine ⟨H7,λen x y=>?_,eL7⟩
   generalize yap = G at *
   generalize (ps.length : Int) = M at *
   simp [x,y,gt,-fGt,-fAdd,-fNe]
  ·rw [show decide (ps ≠ []) = true by simp [hn]] at gt
   have a4:=yfD (x:=glx (ps.map rowS)) (y:=Str.ofString "\n") (by lia) H7
   rw [ze7 (by simpa using hn)] at a4
   obtain ⟨H8,t4,f8⟩:=yb6 g (by lia) (b:=Str.ofString "") (rest:=[]) (λr hr=>by simp at hr; rw [hr]; exact rw_e) (by decide) (λe=>hn (by
    have:=congrArg List.length e
    rw [List.length_append,List.length_map] at this
    simp at this
    exact this)) (nr_e ps) H7
   have q:=ne_i (ps.length : Int) H8
   refine ⟨H8,λen x y=>?_,kp eL7 f8⟩
   generalize glx (ps.map rowS++[Str.ofString ""]) = T3 at *
   generalize glx (ps.map rowS) = T at *
   generalize yap = G at *
   generalize (ps.length : Int) = M at *
   simp [x,y,gt,a4,t4,q,-fGt,-fAdd,-fNe]
 obtain ⟨Z,eZ⟩ : ∃ Z : AV,Z = .fl (ns.map AV.int):=⟨_,rfl⟩
 obtain ⟨T,eT⟩ : ∃ T : Str,T = glx (ps.map rowS):=⟨_,rfl⟩
 obtain ⟨BL,eBL⟩ : ∃ BL : List Str,BL = (ycN k ps.length).drop (if ps = [] then 1 else 0):=⟨_,rfl⟩
 have it1 : iVal (sCut (yad ybg (yaa (sVar 6) (yaa (sVar 4) sNil))) (some (yad fInt (yaa (sOp2 fEq (sVar 4) (sLit (.int 0))) sNil))) none) [some Z,some (.ref 0),some (.str T),some (.fl ((ps.map rowS).map AV.str)),some (.int (ps.length : Int)),some (.ref L),some (.int (k : Int)),none,none,none,none,none] H8 = .ok (BL.map AV.str,none) H8:=by
  have fb:=yiD (k:=k) (n:=ps.length) (by lia) (by lia) H8
  have q : fEq (.int (ps.length : Int)) (.int 0) H8 = .ok (.bl (decide (ps = []))) H8:=by
   cases ps with
   | nil=>rfl
   | cons q l=>simp; lia
  have fi : fInt [.bl (decide (ps = []))] H8 = .ok (.int ((if ps = [] then 1 else 0 : Nat) : Int)) H8:=by
   by_cases hn : ps = []<;>simp [hn]
  have cu:=ze6 (ycN k ps.length) (if ps = [] then 1 else 0) H8
  rw [<- eBL] at cu
  generalize ((if ps = [] then 1 else 0 : Nat) : Int) = D at *
  generalize decide (ps = []) = DB at *
  generalize (ycN k ps.length).map AV.str = BV at *
  generalize BL.map AV.str = BW at *
  generalize ybg = G at *
  generalize (ps.length : Int) = M at *
  generalize (k : Int) = KK at *
  generalize (ps.map rowS).map AV.str = V5 at *
  simp [fb,q,fi,cu,-fEq,-fInt,-ybo]
 obtain ⟨e',H9,lp1,o7,eL9,rfl⟩:=yda (w:=none) (all:=BL.map AV.str) (t:=.nm 7) (b:=yct) (xs:=BL.map AV.str) (en:=[some Z,some (.ref 0),some (.str T),some (.fl ((ps.map rowS).map AV.str)),some (.int (ps.length : Int)),some (.ref L),some (.int (k : Int)),none,none,none,none,none]) (h:=H8)
  (λi en h' => ∃ o7 : Option AV,(∃ N : Int,h'[L]? = some (.lst [.int N])) /\ en = [some Z,some (.ref 0),some (.str T),some (.fl ((ps.map rowS).map AV.str)),some (.int (ps.length : Int)),some (.ref L),some (.int (k : Int)),o7,none,none,none,none])
  ⟨none,eL8,rfl⟩ (λ_ _ _ _=>rfl) (by
   rintro j y en h' hx ⟨o7,eL',rfl⟩
   rw [List.getElem?_map] at hx
   cases eb : BL[j]? with
   | none=>rw [eb] at hx; cases hx
   | some b =>
    rw [eb] at hx
    cases hx
    have mb : b ∈ BL:=List.mem_of_getElem? eb
    have mb' : b ∈ ycN k ps.length:=by rw [eBL] at mb; exact List.mem_of_mem_drop mb
    have nb:=nr88 (ps:=ps.take k) (k:=k) (n:=ps.length) (by rw [List.length_take]; lia) hk (by lia) b mb'
    obtain ⟨h2,e,f⟩:=ziN g z1 hk nb.1 nb.2 (λhn=>by
     rw [eBL,if_pos hn] at mb
     exact yhz b mb) (some Z) (some (.ref 0)) (some (.str T)) (some (.int (ps.length : Int))) (some (.ref L)) none none none none h'
    show thn (yct [some Z,some (.ref 0),some (.str T),some (.fl ((ps.map rowS).map AV.str)),some (.int (ps.length : Int)),some (.ref L),some (.int (k : Int)),some (.str b),none,none,none,none] h') _
    rw [e]
    exact ⟨_,kp eL' f,rfl⟩)
 have L1:=(ybU (t:=.nm 7) (b:=yct) it1).trans lp1
 obtain ⟨m5,em5⟩ : ∃ m5 : Nat,m5 = min ps.length 5:=⟨_,rfl⟩
 have mn : ∀ en : En,en[4]? = some (some (.int (ps.length : Int))) -> yad yc7 (yaa (sVar 4) (yaa (sLit (.int 5)) sNil)) en H9 = .ok (.int (m5 : Int)) H9:=λen z=>by
  have : yc7 [.int (ps.length : Int),.int 5] H9 = .ok (.int (m5 : Int)) H9:=by
   rw [em5]
   by_cases h5 : (5 : Int) < ps.length
   ·rw [Nat.min_eq_right (by lia)]; simp [h5]
   ·rw [Nat.min_eq_left (by lia)]; simp [h5]
  generalize (m5 : Int) = Q at *
  generalize (ps.length : Int) = M at *
  simp [z,this,-yc7]
 obtain ⟨e',H10,lp2,o8,eL10,rfl⟩:=yda (w:=none) (all:=yaC 0 m5) (t:=.nm 8) (b:=ycu) (xs:=yaC 0 m5) (en:=[some Z,some (.ref 0),some (.str T),some (.fl ((ps.map rowS).map AV.str)),some (.int (ps.length : Int)),some (.ref L),some (.int (k : Int)),o7,none,none,none,none]) (h:=H9)
  (λi en h' => ∃ o8 : Option AV,(∃ N : Int,h'[L]? = some (.lst [.int N])) /\ en = [some Z,some (.ref 0),some (.str T),some (.fl ((ps.map rowS).map AV.str)),some (.int (ps.length : Int)),some (.ref L),some (.int (k : Int)),o7,o8,none,none,none])
  ⟨none,eL9,rfl⟩ (λ_ _ _ _=>rfl) (by
   rintro j y en h' hx ⟨o8,eL',rfl⟩
   rw [zaH] at hx
   split at hx
   ·rename_i hj
    cases hx
    obtain ⟨h2,e,f⟩:=ziO g z1 (by lia) eL' (some Z) (some (.ref 0)) (some (.str T)) (some (.int (k : Int))) o7 (some (.int (0 + (j : Int)))) none none none
    show thn (ycu [some Z,some (.ref 0),some (.str T),some (.fl ((ps.map rowS).map AV.str)),some (.int (ps.length : Int)),some (.ref L),some (.int (k : Int)),o7,some (.int (0 + (j : Int))),none,none,none] h') _
    rw [e]
    exact ⟨_,f,rfl⟩
   ·cases hx)
 have L2:=(ybU (t:=.nm 8) (b:=ycu) (zaT (a:=yad yc7 (yaa (sVar 4) (yaa (sLit (.int 5)) sNil))) (en:=[some Z,some (.ref 0),some (.str T),some (.fl ((ps.map rowS).map AV.str)),some (.int (ps.length : Int)),some (.ref L),some (.int (k : Int)),o7,none,none,none,none]) (h:=H9) (n:=m5) (mn _ rfl) (by lia))).trans lp2
 have r33 : ∀ r ∈ [fkS (strI 1) (strI 2)],Rw r:=λr hr=>by rw [List.mem_singleton.mp hr]; exact ydb (by decide) (by decide) (by decide) (by decide)
 have r44 : ∀ r ∈ [fkS (strI 3) (strI 1)],Rw r:=λr hr=>by rw [List.mem_singleton.mp hr]; exact ydb (by decide) (by decide) (by decide) (by decide)
 have j3:=λhh=>ycZ (zs:=[Str.ofString "leaf abc", "leaf abcde", "fork 1 2"]) (by decide +kernel) (by decide) hh
 have j4:=λhh=>ycZ (zs:=[Str.ofString "leaf abcdefgh", "fork 1 1", "fork 2 2", "fork 3 1"]) (by decide +kernel) (by decide) hh
 rw [r3] at j3
 rw [r4] at j4
 obtain ⟨H11,u3,_⟩:=yb6 g3 (by decide) (b:=fkS (strI 1) (strI 2)) (rest:=[]) r33 (by decide) (by decide +kernel) n3 H10
 obtain ⟨H12,u4,_⟩:=yb6 g4 (by decide) (b:=fkS (strI 3) (strI 1)) (rest:=[]) r44 (by decide) (by decide +kernel) n4 H11
 have w57:=zaN g57 (by decide)
 have j5:=λhh=>ycZ (zs:=(q57 56).map rowS) w57 (by decide) hh
 have j6:=λhh=>ycZ (zs:=lng) (λr hr=>by
  rw [ye0] at hr
  exact (List.mem_append.mp hr).elim (w57 r) (rw57 r)) (by decide +kernel) hh
 obtain ⟨H13,u5,_⟩:=yfC g57 (by decide) H12
 obtain ⟨H14,u6,_⟩:=yb6 g57 (by decide) (b:=fkS (strI 57) (strI 57)) (rest:=(List.range 4).map (λk=>fkS (strI (k + 58)) (strI (k + 58)))) rw57 (by decide) (by decide +kernel) n57 H13
 rw [<- ye0] at u6
 have c57 : ybo (.fl (lng.map AV.str)) none (some 57) H12 = .ok (.fl ((lng.take 57).map AV.str)) H12:=ze5 lng 57 H12
 rw [yiB] at c57
 have s3 : ∀ en hh,sLst (yaa (sLit (.str "leaf abc")) (yaa (sLit (.str "leaf abcde")) (yaa (sLit (.str "fork 1 2")) sNil))) en hh = .ok (.fl ((q3.map rowS++[fkS (strI 1) (strI 2)]).map AV.str)) hh:=λen hh=>by rw [<- r3]; rfl
 have s4 : ∀ en hh,sLst (yaa (sLit (.str "leaf abcdefgh")) (yaa (sLit (.str "fork 1 1")) (yaa (sLit (.str "fork 2 2")) (yaa (sLit (.str "fork 3 1")) sNil)))) en hh = .ok (.fl ((q4.map rowS++[fkS (strI 3) (strI 1)]).map AV.str)) hh:=λen hh=>by rw [<- r4]; rfl
 have s5 : ∀ en hh,sOp2 fAdd (sLst (yaa (sLit (.str "leaf abcdefgh")) sNil)) (ybl [] (ybq (sLit (.int 1)) (sLit (.int 62))) sYes (sOp2 fAdd (sOp2 fAdd (sOp2 fAdd (sLit (.str "fork ")) (yad ya7 (yaa (sVar 0) sNil))) (sLit (.str " "))) (yad ya7 (yaa (sVar 0) sNil)))) en hh = .ok (.fl (lng.map AV.str)) hh:=λen hh=>by
  have c:=yhy en hh
  have a:=ydm (x:=[Str.ofString "leaf abcdefgh"]) (y:=(List.range 61).map λk=>fkS (strI (k + 1)) (strI (k + 1))) (by simp) hh
  have ls : sLst (yaa (sLit (.str "leaf abcdefgh")) sNil) en hh = .ok (.fl ([Str.ofString "leaf abcdefgh"].map AV.str)) hh:=rfl
  generalize ybl [] (ybq (sLit (.int 1)) (sLit (.int 62))) sYes (sOp2 fAdd (sOp2 fAdd (sOp2 fAdd (sLit (.str "fork ")) (yad ya7 (yaa (sVar 0) sNil))) (sLit (.str " "))) (yad ya7 (yaa (sVar 0) sNil))) = CC at c ⊢
  generalize sLst (yaa (sLit (.str "leaf abcdefgh")) sNil) = LS at ls ⊢
  show (LS en hh).bind _ = _
  rw [ls]
  show (CC en hh).bind _ = _
  rw [c]
  exact a
 have v3 : yap [.str (glx (q3.map rowS++[fkS (strI 1) (strI 2)]))] H10 = .ok (.int 2) H11:=u3
 have v4 : yap [.str (glx (q4.map rowS++[fkS (strI 3) (strI 1)]))] H11 = .ok (.int 3) H12:=u4
 have v6 : yap [.str (glx lng)] H13 = .ok (.int 57) H14:=by
  rw [u6,show (((q57 56).length : Nat) : Int) = 57 by decide +kernel]
 obtain ⟨V5,eV5⟩ : ∃ V5,V5 = (ps.map rowS).map AV.str:=⟨_,rfl⟩
 have hrow : sIf (yaz (sOp2 fEq (sVar 4) (sLit (.int 0)))) (sSet 3 (sLst sNil)) yaL [some Z,some (.ref 0),some (.str T),some (.fl RS),some (.int (ps.length : Int)),none,none,none,none,none,none,none] H2 = .nx [some Z,some (.ref 0),some (.str T),some (.fl V5),some (.int (ps.length : Int)),none,none,none,none,none,none,none] H2:=by
  by_cases hn : ps = []
  ·have q : fEq (.int (ps.length : Int)) (.int 0) H2 = .ok (.bl true) H2:=by simp [hn]
   have e5 : V5 = []:=by rw [eV5,hn]; rfl
   generalize (ps.length : Int) = M at *
   simp [q,e5,-fEq]
  ·have q : fEq (.int (ps.length : Int)) (.int 0) H2 = .ok (.bl false) H2:=by simp [hn]
   have e5 : RS = V5:=by rw [eV5]; exact eRS hn
   generalize (ps.length : Int) = M at *
   simp [q,e5,-fEq]
 have y5 : fAdd (.int (ps.length : Int)) (.int 1) H3 = .ok (.int ((ps.length + 1 : Nat) : Int)) H3:=by simp
 have w1:=ne_i 0 H6
 have w2:=ne_i 0 H7
 have w3:=ne_i 2 H11
 have w4:=ne_i 3 H12
 have x5:=j3 H10
 have x6:=j4 H11
 have x7:=j5 H12
 have x8:=j6 H13
 have c2' := c2 [some Z,some (.ref 0),some (.str T),some (.fl V5),some (.int (ps.length : Int)),some (.ref L),some (.int (k : Int)),none,none,none,none,none] (by rw [eT]; rfl) rfl
 rw [<- eT] at et sp t1 a3 t3
 rw [<- eZ] at ed es'
 rw [<- eV5] at L1 L2
 refine ⟨H14,?_⟩
 rw [<- eZ]
 clear c2 j3 j4 j5 j6 u3 u4 u6 it1 lp1 lp2 mn kp eL4 eL5 eL6 eL7 eL8 eL9 eL10 f5 f6 f7 r33 r44 w57 rk
 generalize (q3.map rowS++[fkS (strI 1) (strI 2)]).map AV.str = W3 at *
 generalize (q4.map rowS++[fkS (strI 3) (strI 1)]).map AV.str = W4 at *
 generalize ((q57 56).map rowS).map AV.str = W6 at *
 generalize lng.map AV.str = W5 at *
 generalize glx (q3.map rowS++[fkS (strI 1) (strI 2)]) = T3 at *
 generalize glx (q4.map rowS++[fkS (strI 3) (strI 1)]) = T4 at *
 generalize glx ((q57 56).map rowS) = T6 at *
 generalize glx lng = T5 at *
 generalize Str.ofString "\n" ++ T = TT at *
 generalize ((ps.length + 1 : Nat) : Int) = M1 at *
 generalize (ps.length : Int) = M at *
 generalize (k : Int) = KK at *
 unfold yeX
 generalize sFor (iVal (sCut (yad ybg (yaa (sVar 6) (yaa (sVar 4) sNil))) (some (yad fInt (yaa (sOp2 fEq (sVar 4) (sLit (.int 0))) sNil))) none)) (.nm 7) yct = FF1 at *
 generalize sFor (ybk (yad yc7 (yaa (sVar 4) (yaa (sLit (.int 5)) sNil)))) (.nm 8) ycu = FF2 at *
 generalize sIf (sAnd (yaz (sOp2 fGt (sVar 4) (sLit (.int 0)))) (yaz (sOp2 fNe (yad yap (yaa (sOp2 fAdd (sVar 2) (sLit (.str "\n"))) sNil)) (sVar 4)))) (sRet (sLit (.bl false))) yaL = IF2 at *
 generalize sIf (yaz (sOp2 fEq (sVar 4) (sLit (.int 0)))) (sSet 3 (sLst sNil)) yaL = IF1 at *
 generalize sLst (yaa (sLit (.str "leaf abc")) (yaa (sLit (.str "leaf abcde")) (yaa (sLit (.str "fork 1 2")) sNil))) = SL3 at *
 generalize sLst (yaa (sLit (.str "leaf abcdefgh")) (yaa (sLit (.str "fork 1 1")) (yaa (sLit (.str "fork 2 2")) (yaa (sLit (.str "fork 3 1")) sNil)))) = SL4 at *
 generalize sOp2 fAdd (sLst (yaa (sLit (.str "leaf abcdefgh")) sNil)) (ybl [] (ybq (sLit (.int 1)) (sLit (.int 62))) sYes (sOp2 fAdd (sOp2 fAdd (sOp2 fAdd (sLit (.str "fork ")) (yad ya7 (yaa (sVar 0) sNil))) (sLit (.str " "))) (yad ya7 (yaa (sVar 0) sNil)))) = SL5 at *
 generalize yap = G1 at *
 generalize yba = G2 at *
 generalize ybf = G3 at *
 generalize yaM = G4 at *
 generalize yai = G5 at *
 generalize yaN = G6 at *
 refine yiE rfl ?_
 refine (ybx (e:=[some Z,some (.ref 0),none,none,none,none,none,none,none,none,none,none]) (h' := H1) (by simp [ed])).trans ?_
 refine (ybx (e:=[some Z,some (.ref 0),some (.str T),none,none,none,none,none,none,none,none,none]) (h' := H2) (by simp [et])).trans ?_
 refine (ybx (e:=[some Z,some (.ref 0),some (.str T),some (.fl RS),none,none,none,none,none,none,none,none]) (h' := H2) (by simp [sp])).trans ?_
 refine (ybx (e:=[some Z,some (.ref 0),some (.str T),some (.fl RS),some (.int M),none,none,none,none,none,none,none]) (h' := H2) (by simp [fm,ob])).trans ?_
 refine (ybx hrow).trans ?_
 refine (ybx (e:=[some Z,some (.ref 0),some (.str T),some (.fl V5),some (.int M),some (.ref L),none,none,none,none,none,none]) (h' := H3) (by simp [es'])).trans ?_
 refine (ybx (e:=[some Z,some (.ref 0),some (.str T),some (.fl V5),some (.int M),some (.ref L),some (.int KK),none,none,none,none,none]) (h' := H4) (by simp [y5,dg,-fAdd])).trans ?_
 refine (ybx (e:=[some Z,some (.ref 0),some (.str T),some (.fl V5),some (.int M),some (.ref L),some (.int KK),none,none,none,none,none]) (h' := H7) (by simp [t1,t2,a3,t3,w1,w2,-fAdd,-fNe])).trans ?_
 refine (ybx c2').trans ?_
 refine (ybx L1).trans ?_
 refine (ybx L2).trans ?_
 refine (ybx (e:=[some Z,some (.ref 0),some (.str T),some (.fl V5),some (.int M),some (.ref L),some (.int KK),o7,o8,some (.fl W3),none,none]) (h' := H10) (by simp [s3])).trans ?_
 refine (ybx (e:=[some Z,some (.ref 0),some (.str T),some (.fl V5),some (.int M),some (.ref L),some (.int KK),o7,o8,some (.fl W3),some (.fl W4),none]) (h' := H10) (by simp [s4])).trans ?_
 refine (ybx (e:=[some Z,some (.ref 0),some (.str T),some (.fl V5),some (.int M),some (.ref L),some (.int KK),o7,o8,some (.fl W3),some (.fl W4),some (.fl W5)]) (h' := H10) (by simp [s5])).trans ?_
 refine (ybx (e:=[some Z,some (.ref 0),some (.str T),some (.fl V5),some (.int M),some (.ref L),some (.int KK),o7,o8,some (.fl W3),some (.fl W4),some (.fl W5)]) (h' := H12) (by simp [x5,v3,x6,v4,w3,w4,-fNe])).trans ?_
 exact yiF rfl c57 x7 u5 x8 v6
end Sk
namespace Sk
open PySem PySem.Spec L2 Sm
def top (i : Nat) : Stmt:=PySem.Challenge.pw_skeinwood_k88_texts_of_no_shelf.main.body.getD i (.Pass ⟨0,0,0,0⟩)
abbrev yc0 : Stmt:=ybz (top 19) 0
abbrev ydc : Stmt:=top 31
abbrev ycr : Stmt:=top 32
abbrev ydd : Stmt:=top 33
abbrev ycD : Stmt:=top 34
abbrev ydx : Stmt:=top 12
abbrev yb3 : Stmt:=ybz (top 19) 11
abbrev ybR : Stmt:=ybz (top 19) 12
abbrev ybX : Stmt:=ybz (top 19) 14
abbrev yde : Stmt:=ybz (top 19) 17
abbrev ycb : Stmt:=ybz (top 19) 16
abbrev yc1 : Stmt:=ybz (top 19) 2
abbrev ycs : Stmt:=top 14
abbrev ycO : Stmt:=top 13
abbrev ydy : Stmt:=top 15
abbrev ydK : Stmt:=top 16
abbrev ycc : Stmt:=ybz (top 19) 15
abbrev yc2 : Stmt:=ybz (top 19) 1
abbrev ycP : Stmt:=top 35
abbrev ydz : Stmt:=top 36
abbrev ydA : Stmt:=top 37
abbrev yb4 : Stmt:=top 38
abbrev ycE : Stmt:=ybz (top 19) 4
abbrev yc3 : Stmt:=ybz (top 19) 3
abbrev ycF : Stmt:=top 39
abbrev ycd : Stmt:=top 40
abbrev ycv : Stmt:=top 43
abbrev yc4 : Stmt:=top 23
abbrev yca : Stmt:=top 24
abbrev yc5 : Stmt:=top 29
abbrev ydL : Stmt:=top 28
abbrev yc6 : Stmt:=top 27
abbrev ydf : Stmt:=top 41
abbrev ydB : Stmt:=top 42
abbrev yef : Stmt:=top 44
abbrev ye1 : Stmt:=ybz (top 8) 0
def flds : Nat -> List Str
 | 0=>["pieces", "numbers", "sign_counts", "end_counts", "leaf_counts", "heights", "first_leaves", "last_leaves"]
 | _=>[]
theorem ziR : ∀ c,(flds c).Nodup
 | 0=>by decide +kernel
 | _ + 1=>List.nodup_nil
theorem zhA : ∀ c,(flds c).length <= 500
 | 0=>by decide +kernel
 | _ + 1=>Nat.zero_le _
abbrev mkT (K : PySem.W.Frag) (cls exc : Nat -> Option Addr) : Tb:=⟨K,cls,exc,flds,ziR,zhA⟩
structure Facts (P : Program) (w : World) (K : PySem.W.Frag) (cls exc : Nat -> Option Addr) (mg : Str -> Option Value) (base : Heap) : Prop where
 b_ValueError : mg "ValueError" = none
 b_abs : mg "abs" = none
 b_all : mg "all" = none
 b_bool : mg "bool" = none
 b_enumerate : mg "enumerate" = none
 b_int : mg "int" = none
 b_isinstance : mg "isinstance" = none
 b_len : mg "len" = none
 b_max : mg "max" = none
 b_min : mg "min" = none
 b_range : mg "range" = none
 b_str : mg "str" = none
 b_sum : mg "sum" = none
 c_LEAF_SIGNS : ∃ t,mg "LEAF_SIGNS" = some (.int 8 t)
 c_MOST_SIGNS : ∃ t,mg "MOST_SIGNS" = some (.int 1000000000000000000 t)
 c_MOST_FIGURES : ∃ t,mg "MOST_FIGURES" = some (.int 30 t)
 c_LEAF_WORD : ∃ t,mg "LEAF_WORD" = some (.str "leaf " t)
 cf_Shelf : CF (mkT K cls exc) 0
 x_NoText : GX (mkT K cls exc) mg base 1 "NoText"
 x_NoPiece : GX (mkT K cls exc) mg base 2 "NoPiece"
 x_Loose : GX (mkT K cls exc) mg base 3 "Loose"
 x_Unlevel : GX (mkT K cls exc) mg base 4 "Unlevel"
 x_TooLong : GX (mkT K cls exc) mg base 5 "TooLong"
 g_Torn : GI P w (mkT K cls exc) mg base 6 "Torn" "row"
 x_NoLine : GX (mkT K cls exc) mg base 7 "NoLine"
 kx_Loose : ∃ C,mg "Loose" = some (.ref C) /\ ∀ c C',exc c = some C' -> ExcK K C' /\ PySem.W.kitOne K (.ref C') (.ref C) = some (ydt c)
 kx_NoPiece : ∃ C,mg "NoPiece" = some (.ref C) /\ ∀ c C',exc c = some C' -> ExcK K C' /\ PySem.W.kitOne K (.ref C') (.ref C) = some (ycJ c)
 kx_NoText : ∃ C,mg "NoText" = some (.ref C) /\ ∀ c C',exc c = some C' -> ExcK K C' /\ PySem.W.kitOne K (.ref C') (.ref C) = some (yc8 c)
 kx_TooLong : ∃ C,mg "TooLong" = some (.ref C) /\ ∀ c C',exc c = some C' -> ExcK K C' /\ PySem.W.kitOne K (.ref C') (.ref C) = some (ycK c)
 kx_Torn : ∃ C,mg "Torn" = some (.ref C) /\ ∀ c C',exc c = some C' -> ExcK K C' /\ PySem.W.kitOne K (.ref C') (.ref C) = some (ydU c)
 kx_Unlevel : ∃ C,mg "Unlevel" = some (.ref C) /\ ∀ c C',exc c = some C' -> ExcK K C' /\ PySem.W.kitOne K (.ref C') (.ref C) = some (ycL c)
 kx_ValueError : ∀ c C',exc c = some C' -> ExcK K C' /\ PySem.W.kitOne K (.ref C') (.type "ValueError") = some (yb9 c)
 ct_SkeinError : ∃ C,mg "SkeinError" = some (.ref C) /\ ∀ c C',ybe c = true -> exc c = some C' -> PySem.W.exmOne K (.ref C') (.ref C) = some true
 d_Shelf_init : DI K cls mg 0 "Shelf" "Shelf.__init__" yc0 ["self"]
 d_law_mixed : DG K mg "_law_mixed" ydc ["cell", "k"]
 d_law_stream : DG K mg "_law_stream" ycr ["script", "k"]
 d_law_digit : DG K mg "_law_digit" ydd ["row", "many"]
 d_law_letters : DG K mg "_law_letters" ycD ["row"]
 d_is_whole : DG K mg "is_whole" ydx ["thing"]
 d_Shelf_has_piece : DMm K cls 0 "has_piece" "Shelf.has_piece" yb3 ["self", "number"]
 d_Shelf_check_piece : DMm K cls 0 "check_piece" "Shelf.check_piece" ybR ["self", "number"]
 d_Shelf_check_fork : DMm K cls 0 "check_fork" "Shelf.check_fork" ybX ["self", "one", "other"]
 d_Shelf_lay : DMm K cls 0 "lay" "Shelf.lay" yde ["self", "made"]
 d_Shelf_lay_fork : DMm K cls 0 "lay_fork" "Shelf.lay_fork" ycb ["self", "made"]
 d_Shelf_fork : DMm K cls 0 "fork" "Shelf.fork" yc1 ["self", "one", "other"]
 d_is_plain_sign : DG K mg "is_plain_sign" ycs ["sign"]
 d_is_plain : DG K mg "is_plain" ycO ["thing"]
 d_is_short : DG K mg "is_short" ydy ["thing"]
 d_ends_in : DG K mg "ends_in" ydK ["plain"]
 d_Shelf_lay_leaf : DMm K cls 0 "lay_leaf" "Shelf.lay_leaf" ycc ["self", "made"]
 d_Shelf_leaf : DMm K cls 0 "leaf" "Shelf.leaf" yc2 ["self", "plain"]
 d_law_tree : DG K mg "_law_tree" ycP ["shelf", "row", "letters", "height", "last"]
 d_law_text : DG K mg "_law_text" ydz ["shelf", "row", "most"]
 d_law_long : DG K mg "_law_long" ydA ["shelf", "row"]
 d_law_drawn_shelf : DG K mg "_law_drawn_shelf" yb4 ["script"]
 d_Shelf_piece : DMm K cls 0 "piece" "Shelf.piece" ycE ["self", "number"]
 d_Shelf_many : DMm K cls 0 "many" "Shelf.many" yc3 ["self"]
 d_law_written : DG K mg "_law_written" ycF ["plain"]
 d_law_shelf_text : DG K mg "_law_shelf_text" ycd ["shelf"]
 d_law_bad_rows : DG K mg "_law_bad_rows" ycv ["at", "many"]
 d_read_plain : DG K mg "read_plain" yc4 ["row"]
 d_read_number : DG K mg "read_number" yca ["word"]
 d_piece_told : DG K mg "piece_told" yc5 ["shelf", "row"]
 d_is_laid : DG K mg "is_laid" ydL ["shelf", "row"]
 d_read_shelf : DG K mg "read_shelf" yc6 ["plain"]
 d_law_whole : DG K mg "_law_whole" ydf ["thing"]
 d_law_torn : DG K mg "_law_torn" ydB ["text"]
 d_law : DG K mg "law" yef ["script"]
 x64 : ∀ c,exc c = exc (c % 64)
 kg_MARKED : KG P w K mg "MARKED" D_MARKED
theorem zdq : FnScope ["self"] ["self"] (yae yc0):=fsk
theorem zd9 : FnScope ["cell", "k", "stir"] ["cell", "k"] (yae ydc):=fsk
theorem zdr : FnScope ["script", "k", "cell", "j", "found"] ["script", "k"] (yae ycr):=fsk
theorem zea : FnScope ["row", "many", "digit"] ["row", "many"] (yae ydd):=fsk
theorem zc0 : FnScope ["row", "every", "some"] ["row"] (yae ycD):=fsk
theorem zen : FnScope ["thing"] ["thing"] (yae ydx):=fsk
theorem zbO : FnScope ["self", "number"] ["self", "number"] (yae yb3):=fsk
theorem zbz : FnScope ["self", "number"] ["self", "number"] (yae ybR):=fsk
theorem zbD : FnScope ["self", "one", "other", "seam"] ["self", "one", "other"] (yae ybX):=fsk
theorem zeb : FnScope ["self", "made", "number"] ["self", "made"] (yae yde):=fsk
theorem zb2 : FnScope ["self", "made", "one", "other"] ["self", "made"] (yae ycb):=fsk
theorem zds : FnScope ["self", "one", "other", "made"] ["self", "one", "other"] (yae yc1):=fsk
theorem zcs : FnScope ["sign"] ["sign"] (yae ycs):=fsk
theorem zeo : FnScope ["thing"] ["thing"] (yae ycO):=fsk
theorem zep : FnScope ["thing"] ["thing"] (yae ydy):=fsk
theorem zfx : FnScope ["plain"] ["plain"] (yae ydK):=fsk
theorem zb3 : FnScope ["self", "made", "number", "plain"] ["self", "made"] (yae ycc):=fsk
theorem zdt : FnScope ["self", "plain", "made"] ["self", "plain"] (yae yc2):=fsk
theorem zcb : FnScope ["shelf", "row", "letters", "height", "last", "least", "many", "plain", "lower", "turn", "one", "other"] ["shelf", "row", "letters", "height", "last"] (yae ycP):=fsk
theorem zeq : FnScope ["shelf", "row", "most", "letters", "found"] ["shelf", "row", "most"] (yae ydz):=fsk
theorem zer : FnScope ["shelf", "row", "letters", "number", "plain", "last", "many", "turn"] ["shelf", "row"] (yae ydA):=fsk
theorem zbP : FnScope ["script", "shelf", "row", "k"] ["script"] (yae yb4):=fsk
theorem zc1 : FnScope ["self", "number"] ["self", "number"] (yae ycE):=fsk
theorem zdu : FnScope ["self"] ["self"] (yae yc3):=fsk
theorem zc2 : FnScope ["plain", "found", "sign"] ["plain"] (yae ycF):=fsk
theorem zb4 : FnScope ["shelf", "rows", "number", "piece"] ["shelf"] (yae ycd):=fsk
theorem zcI : FnScope ["at", "many", "found", "here"] ["at", "many"] (yae ycv):=fsk
theorem zdv : FnScope ["row", "found", "marked", "sign", "read"] ["row"] (yae yc4):=fsk
theorem zc3 : FnScope ["word"] ["word"] (yae yca):=fsk
theorem zdw : FnScope ["shelf", "row", "words"] ["shelf", "row"] (yae yc5):=fsk
theorem zfy : FnScope ["shelf", "row", "many", "number"] ["shelf", "row"] (yae ydL):=fsk
theorem zdx : FnScope ["plain", "shelf", "place", "row"] ["plain"] (yae yc6):=fsk
theorem zbQ : FnScope ["thing"] ["thing"] (yae ydf):=fsk
theorem zes : FnScope ["text", "told", "e", "others"] ["text"] (yae ydB):=fsk
theorem yhA : FnScope ["script", "shelf", "text", "rows", "many", "row", "at", "bad", "k", "loose", "level", "long"] ["script"] (yae yef):=fsk
section
variable {P : Program} {w : World} {K : PySem.W.Frag} {cls exc : Nat -> Option Addr} {mg : Str -> Option Value} {base : Heap} (Z : Facts P w K cls exc mg base)
include Z
theorem zbR : GK P w (mkT K cls exc) mg base 1 0 "Shelf" ya2:=gk Z.d_Shelf_init zdq λhr C hu nd =>
 (zab (zaz rfl Z.cf_Shelf (yab 0) (ybT yac))
  (zab (zaz rfl Z.cf_Shelf (yab 0) zie)
  (zab (zaz rfl Z.cf_Shelf (yab 0) (ybT (zaa yaf yac)))
  (zab (zaz rfl Z.cf_Shelf (yab 0) (ybT (zaa yaf yac)))
  (zab (zaz rfl Z.cf_Shelf (yab 0) (ybT (zaa yaf yac)))
  (zab (zaz rfl Z.cf_Shelf (yab 0) (ybT (zaa (yfP yaf) yac)))
  (zab (zaz rfl Z.cf_Shelf (yab 0) (ybT (zaa yaf yac)))
  (yag (zaz rfl Z.cf_Shelf (yab 0) (ybT (zaa yaf yac)))))))))))
theorem zet : GF P w (mkT K cls exc) mg base 1 "_law_mixed" ycx:=gf Z.d_law_mixed zd9 λhr C hu nd =>
 (zab (yam (i:=2) nd (yaj ydp (yaj yb0 (yaj (yav rfl) (yaj (yav rfl) (yaj ydp (yab 0) yaf) (yaj yb0 yaf (yab 1))) yaf) yaf) yaf))
  (yag (yaw (yaj ydp (yaj yb0 (yaj ydp (yaj yb0 (yab 2) (yab 2)) yaf) yaf) yaf))))
theorem za5 : GF P w (mkT K cls exc) mg base 2 "_law_stream" yaM:=gf Z.d_law_stream zdr λ{f cdv A outer s H E} hr C hu nd =>
 (zab (yam (i:=2) nd yaf)
  (zab (ycI rfl (zgi (E:=EN) rfl Z.b_range (yab 1) (r_bi (b_len rfl) rfl Z.b_len PySem.boot_len (zaa (yab 0) yac)) yaf) (zaC (i:=3) nd) (yag (yam (i:=2) nd (yaj (yav rfl) (yaj yb0 (yab 2) (yaj yd2 yaf yaf)) (yaj ydp (r_ix rfl hu (yab 0) (yab 3)) (yaj yd2 yaf yaf))))))
  (zab (r_if (yaI o_ge (yab 2) (yaj yd2 yaf yaf) (yaA _)) (yag (yaw (ybT (zaa (yab 2) yac)))) yaJ)
  (zab (yam (i:=2) nd (yaj (yav rfl) (yab 2) (r_bi (b_sum rfl) rfl Z.b_sum PyProof.Rows.boot_sum (zaa (ydG (jf:=[]) (zaS (N:=["script", "k", "cell", "j", "found"]) (sc:=yae ycr) rfl (λ_=>rfl) (by decide +kernel)) rfl (ydj (E:=(λ_=>E)) rfl (yab 0)) (λ_ _ _ _ _=>zbj) (λ_ _ _ _ _=>(yaj ydp (yab 0) (yaj yd2 yaf yaf)))) yac))))
  (zab (yam (i:=4) nd yaf)
  (zab (ycI rfl (zaR (E:=EN) rfl Z.b_range yaf) (zaC (i:=3) nd) (yag (yam (i:=4) nd (yaj (yav rfl) (yaj yb0 (yab 4) yaf) (yao rfl (C.nox) (zet Z) hr.m rfl (zaa (yaj (yav rfl) (yaj (yav rfl) (yab 2) (yaj yb0 yaf (yab 1))) (r_bi (b_len rfl) rfl Z.b_len PySem.boot_len (zaa (yab 0) yac))) (zaa (yab 3) yac)))))))
  (yag (yaw (ybT (zaa (yaj yfO (yab 4) yaf) yac))))))))))
theorem zaj : GF P w (mkT K cls exc) mg base 1 "_law_digit" yai:=gf Z.d_law_digit zea λhr C hu nd =>
 (zab (yam (i:=2) nd (yaj ydp (r_ix rfl hu (yab 0) yaf) (yab 1)))
  (zab (zeP hu (yab 0) yaf (yaj yfO (r_ix rfl hu (yab 0) yaf) (yab 1)))
  (yag (yaw (yab 2)))))
theorem zbB : GF P w (mkT K cls exc) mg base 2 "_law_letters" ybO:=gf Z.d_law_letters zc0 λhr C hu nd =>
 (zab (yam (i:=1) nd yah)
  (zab (yam (i:=1) nd (yaj (yav rfl) (yab 1) yah))
  (zab (yam (i:=2) nd (ybL (zaa yah (zaa yah (zaa yah (zaa (yab 1) (zaa yah yac)))))))
  (yag (yaw (r_ix rfl hu (yab 2) (yao rfl C (zaj Z) hr.m rfl (zaa (yab 0) (zaa yaf yac)))))))))
theorem zfz : GF P w (mkT K cls exc) mg base 1 "is_whole" ybM:=gf Z.d_is_whole zen λhr C hu nd =>
 (yag (yaw (ydQ (yds rfl rfl Z.b_isinstance (yab 0) rfl Z.b_int ydg (by decide)) (ydq (yeR (yds rfl rfl Z.b_isinstance (yab 0) rfl Z.b_bool zcL (by decide)))))))
theorem zb5 : GM P w (mkT K cls exc) mg base 2 0 "has_piece" yaY:=gm Z.d_Shelf_has_piece zbO (show ("has_piece" : Str) ∉ flds 0 by decide +kernel) λhr C hu nd =>
 (yag (yaw (ydQ (yao rfl C (zfz Z) hr.m rfl (zaa (yab 1) yac)) (ydq (zbX o_le o_le yaf (yab 1) (r_bi (b_len rfl) rfl Z.b_len PySem.boot_len (zaa (yaD rfl Z.cf_Shelf (yab 0)) yac)))))))
theorem zay : GM P w (mkT K cls exc) mg base 3 0 "check_piece" yau:=gm Z.d_Shelf_check_piece zbz (show ("check_piece" : Str) ∉ flds 0 by decide +kernel) λhr C hu nd =>
 (yag (r_if (ycW (zan rfl (ybt rfl C (zb5 Z) hr.m (yab 0) (zaa (yab 1) yac)))) (yag (za0 Z.x_NoPiece zaJ rfl (zaa yah yac))) yaJ))
theorem zbS : GM P w (mkT K cls exc) mg base 4 0 "check_fork" yas:=gm Z.d_Shelf_check_fork zbD (show ("check_fork" : Str) ∉ flds 0 by decide +kernel) λhr C hu nd =>
 (zab (yaP (ybt rfl C (zay Z) hr.m (yab 0) (zaa (yab 1) yac)))
  (zab (yaP (ybt rfl C (zay Z) hr.m (yab 0) (zaa (yab 2) yac)))
  (zab (yam (i:=3) nd (yaj (yav rfl) (r_ix rfl hu (yaD rfl Z.cf_Shelf (yab 0)) (r_ix rfl hu (yaD rfl Z.cf_Shelf (yab 0)) (yab 1))) (r_ix rfl hu (yaD rfl Z.cf_Shelf (yab 0)) (r_ix rfl hu (yaD rfl Z.cf_Shelf (yab 0)) (yab 2)))))
  (zab (r_if (yaI o_le (yab 3) (r_gI rfl Z.c_LEAF_SIGNS) (yaA _)) (yag (za0 Z.x_Loose zaJ rfl (zaa yah yac))) yaJ)
  (zab (r_if (yaI o_gt (r_bi (b_abs) rfl Z.b_abs PyProof.Rows.boot_abs (zaa (yaj ycH (r_ix rfl hu (yaD rfl Z.cf_Shelf (yab 0)) (yab 1)) (r_ix rfl hu (yaD rfl Z.cf_Shelf (yab 0)) (yab 2))) yac)) yaf (yaA _)) (yag (za0 Z.x_Unlevel zaJ rfl (zaa yah yac))) yaJ)
  (yag (r_if (yaI o_gt (yaj (yav rfl) (r_ix rfl hu (yaD rfl Z.cf_Shelf (yab 0)) (yab 1)) (r_ix rfl hu (yaD rfl Z.cf_Shelf (yab 0)) (yab 2))) (r_gI rfl Z.c_MOST_SIGNS) (yaA _)) (yag (za0 Z.x_TooLong zaJ rfl (zaa yah yac))) yaJ)))))))
theorem zcc : GM P w (mkT K cls exc) mg base 1 0 "lay" yb5:=gm Z.d_Shelf_lay zeb (show ("lay" : Str) ∉ flds 0 by decide +kernel) λhr C hu nd =>
 (zab (yaP (r_bm rfl PySem.F.plainAttrs_list PySem.F.slot_list_append PySem.F.type_list_append (zam) zaq (yaD rfl Z.cf_Shelf (yab 0)) (zaa (yab 1) yac)))
  (zab (yam (i:=2) nd (r_bi (b_len rfl) rfl Z.b_len PySem.boot_len (zaa (yaD rfl Z.cf_Shelf (yab 0)) yac)))
  (zab (zeP hu (yaD rfl Z.cf_Shelf (yab 0)) (yab 1) (yab 2))
  (yag (yaw (yab 2))))))
theorem zct : GM P w (mkT K cls exc) mg base 2 0 "lay_fork" ybu:=gm Z.d_Shelf_lay_fork zb2 (show ("lay_fork" : Str) ∉ flds 0 by decide +kernel) λhr C hu nd =>
 (zab (yaP (ybt rfl C (zcc Z) hr.m (yab 0) (zaa (yab 1) yac)))
  (zab (yam (i:=2) nd (r_ix rfl hu (yab 1) yaf))
  (zab (yam (i:=3) nd (r_ix rfl hu (yab 1) yaf))
  (zab (yaP (r_bm rfl PySem.F.plainAttrs_list PySem.F.slot_list_append PySem.F.type_list_append (zam) zaq (yaD rfl Z.cf_Shelf (yab 0)) (zaa (yaj (yav rfl) (r_ix rfl hu (yaD rfl Z.cf_Shelf (yab 0)) (yab 2)) (r_ix rfl hu (yaD rfl Z.cf_Shelf (yab 0)) (yab 3))) yac)))
  (zab (yaP (r_bm rfl PySem.F.plainAttrs_list PySem.F.slot_list_append PySem.F.type_list_append (zam) zaq (yaD rfl Z.cf_Shelf (yab 0)) (zaa (yaj (yav rfl) (r_ix rfl hu (yaD rfl Z.cf_Shelf (yab 0)) (yab 2)) (r_ix rfl hu (yaD rfl Z.cf_Shelf (yab 0)) (yab 3))) yac)))
  (zab (yaP (r_bm rfl PySem.F.plainAttrs_list PySem.F.slot_list_append PySem.F.type_list_append (zam) zaq (yaD rfl Z.cf_Shelf (yab 0)) (zaa (yaj (yav rfl) (r_ix rfl hu (yaD rfl Z.cf_Shelf (yab 0)) (yab 2)) (r_ix rfl hu (yaD rfl Z.cf_Shelf (yab 0)) (yab 3))) yac)))
  (zab (yaP (r_bm rfl PySem.F.plainAttrs_list PySem.F.slot_list_append PySem.F.type_list_append (zam) zaq (yaD rfl Z.cf_Shelf (yab 0)) (zaa (yaj (yav rfl) (r_bi (yfl) rfl Z.b_max PyProof.Rows.boot_max (zaa (r_ix rfl hu (yaD rfl Z.cf_Shelf (yab 0)) (yab 2)) (zaa (r_ix rfl hu (yaD rfl Z.cf_Shelf (yab 0)) (yab 3)) yac))) yaf) yac)))
  (zab (yaP (r_bm rfl PySem.F.plainAttrs_list PySem.F.slot_list_append PySem.F.type_list_append (zam) zaq (yaD rfl Z.cf_Shelf (yab 0)) (zaa (r_ix rfl hu (yaD rfl Z.cf_Shelf (yab 0)) (yab 2)) yac)))
  (yag (yaP (r_bm rfl PySem.F.plainAttrs_list PySem.F.slot_list_append PySem.F.type_list_append (zam) zaq (yaD rfl Z.cf_Shelf (yab 0)) (zaa (r_ix rfl hu (yaD rfl Z.cf_Shelf (yab 0)) (yab 3)) yac))))))))))))
theorem za6 : GM P w (mkT K cls exc) mg base 5 0 "fork" yax:=gm Z.d_Shelf_fork zds (show ("fork" : Str) ∉ flds 0 by decide +kernel) λhr C hu nd =>
 (zab (yaP (ybt rfl C (zbS Z) hr.m (yab 0) (zaa (yab 1) (zaa (yab 2) yac))))
  (zab (yam (i:=3) nd (ydr (zaa yah (zaa (yab 1) (zaa (yab 2) yac)))))
  (zab (r_if (yaI (zeQ rfl hu) (yab 3) (yaD rfl Z.cf_Shelf (yab 0)) rfl) (yag (yaP (ybt rfl C (zct Z) hr.m (yab 0) (zaa (yab 3) yac)))) yaJ)
  (yag (yaw (r_ix rfl hu (yaD rfl Z.cf_Shelf (yab 0)) (yab 3)))))))
theorem zbe : GF P w (mkT K cls exc) mg base 1 "is_plain_sign" ya1:=gf Z.d_is_plain_sign zcs λhr C hu nd =>
 (yag (yaw (r_or (ydP (o_eq rfl hu) (yab 0) yah (yaA _)) (ydq (zbX o_le o_le yah (yab 0) yah)))))
theorem zfA : GF P w (mkT K cls exc) mg base 2 "is_plain" yck:=gf Z.d_is_plain zeo λ{f cdv A outer s H E} hr C hu nd =>
 (zab (r_if (ycW (zan rfl (yds rfl rfl Z.b_isinstance (yab 0) rfl Z.b_str ycB (by decide)))) (yag (yaw r_bl)) yaJ)
  (yag (yaw (r_bi (b_all rfl) rfl Z.b_all PyProof.Rows.boot_all (zaa (ydG (jf:=[]) (zaS (N:=["thing"]) (sc:=yae ycO) rfl (λ_=>rfl) (by decide +kernel)) rfl (ydj (E:=(λ_=>E)) rfl (yab 0)) (λ_ _ _ _ _=>zbj) (λ_ _ _ _ _=>(yao rfl (CA.never rfl) (zbe Z) hr.m rfl (zaa (yab 0) yac)))) yac)))))
theorem zfB : GF P w (mkT K cls exc) mg base 3 "is_short" ybC:=gf Z.d_is_short zep λhr C hu nd =>
 (yag (yaw (ydQ (yao rfl C (zfA Z) hr.m rfl (zaa (yab 0) yac)) (ydq (zbX o_le o_le yaf (r_bi (b_len rfl) rfl Z.b_len PySem.boot_len (zaa (yab 0) yac)) (r_gI rfl Z.c_LEAF_SIGNS))))))
theorem zgD : GF P w (mkT K cls exc) mg base 1 "ends_in" yc9:=gf Z.d_ends_in zfx λhr C hu nd =>
 (yag (yaw (r_bm rfl PySem.F.plainAttrs_str PySem.F.slot_str_count PySem.F.type_str_count (zhh) zar (yab 0) (zaa yah yac))))
theorem zcu : GM P w (mkT K cls exc) mg base 2 0 "lay_leaf" ybv:=gm Z.d_Shelf_lay_leaf zb3 (show ("lay_leaf" : Str) ∉ flds 0 by decide +kernel) λhr C hu nd =>
 (zab (yam (i:=2) nd (ybt rfl C (zcc Z) hr.m (yab 0) (zaa (yab 1) yac)))
  (zab (yam (i:=3) nd (r_ix rfl hu (yab 1) yaf))
  (zab (yaP (r_bm rfl PySem.F.plainAttrs_list PySem.F.slot_list_append PySem.F.type_list_append (zam) zaq (yaD rfl Z.cf_Shelf (yab 0)) (zaa (r_bi (b_len rfl) rfl Z.b_len PySem.boot_len (zaa (yab 3) yac)) yac)))
  (zab (yaP (r_bm rfl PySem.F.plainAttrs_list PySem.F.slot_list_append PySem.F.type_list_append (zam) zaq (yaD rfl Z.cf_Shelf (yab 0)) (zaa (yao rfl C (zgD Z) hr.m rfl (zaa (yab 3) yac)) yac)))
  (zab (yaP (r_bm rfl PySem.F.plainAttrs_list PySem.F.slot_list_append PySem.F.type_list_append (zam) zaq (yaD rfl Z.cf_Shelf (yab 0)) (zaa yaf yac)))
  (zab (yaP (r_bm rfl PySem.F.plainAttrs_list PySem.F.slot_list_append PySem.F.type_list_append (zam) zaq (yaD rfl Z.cf_Shelf (yab 0)) (zaa yaf yac)))
  (zab (yaP (r_bm rfl PySem.F.plainAttrs_list PySem.F.slot_list_append PySem.F.type_list_append (zam) zaq (yaD rfl Z.cf_Shelf (yab 0)) (zaa (yab 2) yac)))
  (yag (yaP (r_bm rfl PySem.F.plainAttrs_list PySem.F.slot_list_append PySem.F.type_list_append (zam) zaq (yaD rfl Z.cf_Shelf (yab 0)) (zaa (yab 2) yac)))))))))))
theorem zbT : GM P w (mkT K cls exc) mg base 4 0 "leaf" yay:=gm Z.d_Shelf_leaf zdt (show ("leaf" : Str) ∉ flds 0 by decide +kernel) λhr C hu nd =>
 (zab (r_if (ycW (zan rfl (yao rfl C (zfB Z) hr.m rfl (zaa (yab 1) yac)))) (yag (za0 Z.x_NoText zaJ rfl (zaa yah yac))) yaJ)
  (zab (yam (i:=2) nd (ydr (zaa yah (zaa (yab 1) yac))))
  (zab (r_if (yaI (zeQ rfl hu) (yab 2) (yaD rfl Z.cf_Shelf (yab 0)) rfl) (yag (yaP (ybt rfl C (zcu Z) hr.m (yab 0) (zaa (yab 2) yac)))) yaJ)
  (yag (yaw (r_ix rfl hu (yaD rfl Z.cf_Shelf (yab 0)) (yab 2)))))))
theorem zaX : ∀ d,GF P w (mkT K cls exc) mg base (5 + d + 1) "_law_tree" (ybp d)
 | 0=>gf Z.d_law_tree zcb λ_ _ _ _=>yg4
 | d + 1=>gf Z.d_law_tree zcb λ{f cdv A outer s H E} hr C hu nd =>
  (zab (r_if (yaI (o_eq rfl hu) (yab 3) yaf (yaA _)) (zab (yam (i:=5) nd (r_bi (yfl) rfl Z.b_max PyProof.Rows.boot_max (zaa yaf (zaa (yaj ycH yaf (yab 4)) yac))))
  (zab (yam (i:=6) nd (yaj (yav rfl) (yab 5) (yao rfl C (zaj Z) (hr.mono (show 1 <= 5 + (d + 1) by lia)) rfl (zaa (yab 1) (zaa (yaj ycH yaf (yab 5)) yac)))))
  (zab (yam (i:=7) nd (r_bm rfl PySem.F.plainAttrs_str PySem.F.slot_str_join PySem.F.type_str_join (yfn rfl) zar yah (zaa (ydG (jf:=[(2, "letters"),(1, "row")]) (zaS (N:=["shelf", "row", "letters", "height", "last", "least", "many", "plain", "lower", "turn", "one", "other"]) (sc:=yae ycP) rfl (λ_=>rfl) (by decide +kernel)) rfl (zaR (E:=(λ_=>E)) rfl Z.b_range (yab 6)) (λ_ _ _ _ _=>zbj) (λ_ _ _ _ _=>(r_ix rfl hu (yab 1) (yao rfl (CA.never rfl) (zaj Z) (hr.mono (show 1 <= 5 + (d + 1) by lia)) rfl (zaa (yab 2) (zaa (r_bi (b_len rfl) rfl Z.b_len PySem.boot_len (zaa (yab 1) yac)) yac)))))) yac)))
  (yag (yaw (ydr (zaa (ybt rfl C (zbT Z) (hr.mono (show 4 <= 5 + (d + 1) by lia)) (yab 0) (zaa (yab 7) yac)) (zaa (yab 7) (zaa (yab 6) yac))))))))) yaJ)
  (zab (yam (i:=8) nd (yaj yb0 (r_ix rfl hu (ybL (zaa yaf (zaa yaf (zaa yaf yac)))) (yao rfl C (zaj Z) (hr.mono (show 1 <= 5 + (d + 1) by lia)) rfl (zaa (yab 1) (zaa yaf yac)))) (r_ty (b_int) rfl Z.b_int ydg (zaa (ydP o_gt (yab 3) yaf (yaA _)) yac))))
  (zab (yam (i:=9) nd (yao rfl C (zaj Z) (hr.mono (show 1 <= 5 + (d + 1) by lia)) rfl (zaa (yab 1) (zaa yaf yac))))
  (zab (yam (i:=10) nd (yao rfl C (zaX d) (hr.mono (by lia)) rfl (zaa (yab 0) (zaa (yab 1) (zaa (yab 2) (zaa (yaj ycH (yaj ycH (yab 3) yaf) (yaj yb0 (yab 8) (yab 9))) (zaa (yab 4) yac)))))))
  (zab (yam (i:=11) nd (yao rfl C (zaX d) (hr.mono (by lia)) rfl (zaa (yab 0) (zaa (yab 1) (zaa (yab 2) (zaa (yaj ycH (yaj ycH (yab 3) yaf) (yaj yb0 (yab 8) (yaj ycH yaf (yab 9)))) (zaa (r_ix rfl hu (yab 10) yaf) yac)))))))
  (yag (yaw (ydr (zaa (ybt rfl C (za6 Z) (hr.mono (show 5 <= 5 + (d + 1) by lia)) (yab 0) (zaa (r_ix rfl hu (yab 10) yaf) (zaa (r_ix rfl hu (yab 11) yaf) yac))) (zaa (yaj (yav rfl) (r_ix rfl hu (yab 10) yaf) (r_ix rfl hu (yab 11) yaf)) (zaa (r_ix rfl hu (yab 11) yaf) yac)))))))))))
theorem zfC : GF P w (mkT K cls exc) mg base 17 "_law_text" ybN:=gf Z.d_law_text zeq λhr C hu nd =>
 (zab (yam (i:=3) nd (yao rfl C (zbB Z) hr.m rfl (zaa (yab 1) yac)))
  (zab (r_if (yaI (o_eq rfl hu) (yao rfl C (zaj Z) hr.m rfl (zaa (yab 1) (zaa yaf yac))) yaf (yaA _)) (yag (yaw (ydr (zaa yaf (zaa yah yac))))) yaJ)
  (zab (yam (i:=4) nd (yao rfl C (zaX Z 10) hr.m rfl (zaa (yab 0) (zaa (yab 1) (zaa (yab 3) (zaa (yao rfl C (zaj Z) hr.m rfl (zaa (yab 1) (zaa (yaj (yav rfl) (yab 2) yaf) yac))) (zaa yaf yac)))))))
  (yag (yaw (ydr (zaa (r_ix rfl hu (yab 4) yaf) (zaa (r_ix rfl hu (yab 4) yaf) yac))))))))
theorem zfD : GF P w (mkT K cls exc) mg base 17 "_law_long" ycm:=gf Z.d_law_long zer λhr C hu nd =>
 (zab (yam (i:=2) nd (yao rfl C (zbB Z) hr.m rfl (zaa (yab 1) yac)))
  (zab (ygX (yao rfl C (zaX Z 10) hr.m rfl (zaa (yab 0) (zaa (yab 1) (zaa (yab 2) (zaa (yao rfl C (zaj Z) hr.m rfl (zaa (yab 1) (zaa yaf yac))) (zaa yaf yac)))))) (yfh rfl rfl (za3 (i:=3) nd (za3 (i:=4) nd (za3 (i:=5) nd zeK)))))
  (zab (yam (i:=6) nd yaf)
  (zab (ycI rfl (zaR (E:=EN) rfl Z.b_range (yao rfl (C.nox) (zaj Z) hr.m rfl (zaa (yab 1) (zaa yaf yac)))) (zaC (i:=7) nd) (yag (r_if (yaI o_le (yaj yb0 (yaj yb0 (r_bi (b_len rfl) rfl Z.b_len PySem.boot_len (zaa (yab 4) yac)) (yab 6)) yaf) (yaj yd2 yaf yaf) (yaA _)) (zab (yam (i:=3) nd (ybt rfl (C.nox) (za6 Z) hr.m (yab 0) (zaa (yab 3) (zaa (yab 3) yac))))
  (yag (yam (i:=6) nd (yaj yb0 (yab 6) yaf)))) yaJ)))
  (yag (yaw (ydr (zaa (yab 3) (zaa (yab 4) (zaa (yab 6) yac))))))))))
theorem zb6 : GF P w (mkT K cls exc) mg base 18 "_law_drawn_shelf" yba:=gf Z.d_law_drawn_shelf zbP λhr C hu nd =>
 (zab (yam (i:=1) nd (zeN rfl C (zbR Z) hr.m rfl))
  (zab (yam (i:=2) nd (yao rfl C (za5 Z) hr.m rfl (zaa (yab 0) (zaa yaf yac))))
  (zab (ycI rfl (zaR (E:=EN) rfl Z.b_range (yao rfl (C.nox) (zaj Z) hr.m rfl (zaa (yab 2) (zaa yaf yac)))) (zaC (i:=3) nd) (yag (yaP (yao rfl (C.nox) (zfC Z) hr.m rfl (zaa (yab 1) (zaa (yab 2) (zaa yaf yac)))))))
  (zab (r_if (yaI (o_eq rfl hu) (yao rfl C (zaj Z) hr.m rfl (zaa (yab 2) (zaa yaf yac))) yaf (yaA _)) (yag (yaP (yao rfl C (zfD Z) hr.m rfl (zaa (yab 1) (zaa (yao rfl C (za5 Z) hr.m rfl (zaa (yab 0) (zaa yaf yac))) yac))))) yaJ)
  (yag (yaw (yab 1)))))))
theorem zdy : GM P w (mkT K cls exc) mg base 4 0 "piece" ybB:=gm Z.d_Shelf_piece zc1 (show ("piece" : Str) ∉ flds 0 by decide +kernel) λhr C hu nd =>
 (zab (yaP (ybt rfl C (zay Z) hr.m (yab 0) (zaa (yab 1) yac)))
  (yag (yaw (r_ix rfl hu (yaD rfl Z.cf_Shelf (yab 0)) (yaj ycH (yab 1) yaf)))))
theorem za7 : GM P w (mkT K cls exc) mg base 1 0 "many" yaN:=gm Z.d_Shelf_many zdu (show ("many" : Str) ∉ flds 0 by decide +kernel) λhr C hu nd =>
 (yag (yaw (r_bi (b_len rfl) rfl Z.b_len PySem.boot_len (zaa (yaD rfl Z.cf_Shelf (yab 0)) yac))))
theorem zdz : GF P w (mkT K cls exc) mg base 1 "_law_written" ybP:=gf Z.d_law_written zc2 λhr C hu nd =>
 (zab (yam (i:=1) nd yah)
  (zab (ycI rfl (ydj (E:=EN) rfl (yab 0)) (zaC (i:=2) nd) (yag (yam (i:=1) nd (yaj (yav rfl) (yab 1) (yie hu ziv (yab 2) (yab 2))))))
  (yag (yaw (yab 1)))))
theorem zcv : GF P w (mkT K cls exc) mg base 5 "_law_shelf_text" ybf:=gf Z.d_law_shelf_text zb4 λhr C hu nd =>
 (zab (yam (i:=1) nd (ybT yac))
  (zab (ycI rfl (zdg (E:=EN) rfl Z.b_range yaf (yaj (yav rfl) (zcP rfl (C.nox) (za7 Z) hr.m (yab 0)) yaf)) (zaC (i:=2) nd) (zab (yam (i:=3) nd (ybt rfl (C.nox) (zdy Z) hr.m (yab 0) (zaa (yab 2) yac)))
  (yag (r_if (yaI (o_eq rfl hu) (r_ix rfl hu (yab 3) yaf) yah (yaA _)) (yag (yaP (r_bm rfl PySem.F.plainAttrs_list PySem.F.slot_list_append PySem.F.type_list_append (zam) zaq (yab 1) (zaa (yaj (yav rfl) yah (yao rfl (C.nox) (zdz Z) hr.m rfl (zaa (r_ix rfl hu (yab 3) yaf) yac))) yac)))) (yag (yaP (r_bm rfl PySem.F.plainAttrs_list PySem.F.slot_list_append PySem.F.type_list_append (zam) zaq (yab 1) (zaa (yaj (yav rfl) (yaj (yav rfl) (yaj (yav rfl) yah (r_ty (b_str) rfl Z.b_str ycB (zaa (r_ix rfl hu (yab 3) yaf) yac))) yah) (r_ty (b_str) rfl Z.b_str ycB (zaa (r_ix rfl hu (yab 3) yaf) yac))) yac))))))))
  (yag (yaw (r_bm rfl PySem.F.plainAttrs_str PySem.F.slot_str_join PySem.F.type_str_join (zaG rfl) zar yah (zaa (yab 1) yac))))))
theorem zc4 : GF P w (mkT K cls exc) mg base 1 "_law_bad_rows" ybg:=gf Z.d_law_bad_rows zcI λhr C hu nd =>
 (@zab _ _ _ _ _ _ _ (@yam _ _ _ _ _ _ 2 _ _ nd (@ybL _ _ _ _ _ _ (@zax _ _ _ _ _ _ _ yah (@zax _ _ _ _ _ _ _ yah (@zax _ _ _ _ _ _ _ yah (@zax _ _ _ _ _ _ _ yah (@zax _ _ _ _ _ _ _ yah (@zax _ _ _ _ _ _ _ yah (@zax _ _ _ _ _ _ _ yah (@zax _ _ _ _ _ _ _ yah (@zax _ _ _ _ _ _ _ yah (@zax _ _ _ _ _ _ _ yah yac rfl) rfl) rfl) rfl) rfl) rfl) rfl) rfl) rfl) rfl)) rfl (Or.inl rfl) rfl (.inl rfl))
  (zab (yam (i:=2) nd (yaj (yav rfl) (yab 2) (ybL (zaa yah (zaa yah (zaa yah (zaa yah (zaa yah (zaa yah (zaa yah (zaa yah yac)))))))))))
  (zab (yam (i:=2) nd (yaj (yav rfl) (yab 2) (ybL (zaa yah (zaa yah (zaa yah (zaa yah (zaa yah (zaa (yaj (yav rfl) yah (yaj yg6 yah yaf)) yac)))))))))
  (zab (yam (i:=3) nd (r_ty (b_str) rfl Z.b_str ycB (zaa (yaj (yav rfl) (yab 0) yaf) yac)))
  (yag (yaw (yaj (yav rfl) (yab 2) (ybL (zaa (yaj (yav rfl) (yaj (yav rfl) yah (yab 3)) yah) (zaa (yaj (yav rfl) yah (yab 3)) (zaa (yaj (yav rfl) yah (r_ty (b_str) rfl Z.b_str ycB (zaa (yaj (yav rfl) (yab 0) yaf) yac))) (zaa (yaj (yav rfl) (yaj (yav rfl) yah (r_ty (b_str) rfl Z.b_str ycB (zaa (yaj (yav rfl) (yab 1) yaf) yac))) yah) yac))))))))))))
theorem zec : GF P w (mkT K cls exc) mg base 2 "read_plain" yat:=gf Z.d_read_plain zdv λhr C hu nd =>
 (zab (yam (i:=1) nd (ybT yac))
  (zab (yam (i:=2) nd r_bl)
  (zab (ycI rfl (ydj (E:=EN) rfl (yab 0)) (zaC (i:=3) nd) (zab (r_if (zan rfl (yab 2)) (zab (yam (i:=4) nd (yhe rfl Z.kg_MARKED (yab 3)))
  (yag (yam (i:=2) nd r_bl))) (yag (r_if (yaI (o_eq rfl hu) (yab 3) yah (yaA _)) (zab (yam (i:=4) nd yah)
  (yag (yam (i:=2) nd r_bl))) (yag (yam (i:=4) nd (yfS (rt_w (ycX (yaI (o_ne rfl hu) (yab 3) yah (yaA _)) (zaZ (zan rfl (yao rfl (C.nox) (zbe Z) hr.m rfl (zaa (yab 3) yac)))))) (yab 3) ycw))))))
  (zab (r_if (yaI yfQ (yab 4) ycw (yaA _)) (yag (yaw ycw)) yaJ)
  (yag (yaP (r_bm rfl PySem.F.plainAttrs_list PySem.F.slot_list_append PySem.F.type_list_append (zam) zaq (yab 1) (zaa (yab 4) yac)))))))
  (yag (yaw (yfS (zan rfl (yab 2)) ycw (r_bm rfl PySem.F.plainAttrs_str PySem.F.slot_str_join PySem.F.type_str_join (yfn rfl) zar yah (zaa (yab 1) yac))))))))
theorem zbC : GF P w (mkT K cls exc) mg base 1 "read_number" yan:=gf Z.d_read_number zc3 λ{f cdv A outer s H E} hr C hu nd =>
 (zab (r_if (ycW (zhg o_le o_le yaf (r_bi (b_len rfl) rfl Z.b_len PySem.boot_len (zaa (yab 0) yac)) (r_gI rfl Z.c_MOST_FIGURES))) (yag (yaw ycw)) yaJ)
  (zab (r_if (ycW (zan rfl (r_bi (b_all rfl) rfl Z.b_all PyProof.Rows.boot_all (zaa (ydG (jf:=[]) (zaS (N:=["word"]) (sc:=yae yca) rfl (λ_=>rfl) (by decide +kernel)) rfl (ydj (E:=(λ_=>E)) rfl (yab 0)) (λ_ _ _ _ _=>zbj) (λ_ _ _ _ _=>(zbX o_le o_le yah (yab 0) yah))) yac)))) (yag (yaw ycw)) yaJ)
  (zab (r_if (rt_w (ycX (yaI (o_ne rfl hu) (yab 0) yah (yaA _)) (zaZ (zan rfl (r_bm rfl PySem.F.plainAttrs_str PySem.F.slot_str_startswith PySem.F.type_str_startswith (zdj) zar (yab 0) (zaa yah yac)))))) (yag (yaw ycw)) yaJ)
  (yag (yaw (r_ty yhf rfl Z.b_int ydg (zaa (yab 0) yac)))))))
theorem zed : GF P w (mkT K cls exc) mg base 6 "piece_told" yaq:=gf Z.d_piece_told zdw λhr C hu nd =>
 (zab (yam (i:=2) nd (r_bm rfl PySem.F.plainAttrs_str PySem.F.slot_str_split PySem.F.type_str_split (zcU) zar (yab 1) (zaa yah yac)))
  (zab (r_if (zan rfl (r_bm rfl PySem.F.plainAttrs_str PySem.F.slot_str_startswith PySem.F.type_str_startswith (zdj) zar (yab 1) (zaa (r_gS rfl Z.c_LEAF_WORD) yac))) (yag (yaw (ybt rfl C (zbT Z) hr.m (yab 0) (zaa (yao rfl C (zec Z) hr.m rfl (zaa (zaM rfl (yab 1) (zaL (r_bi (b_len rfl) rfl Z.b_len PySem.boot_len (zaa (r_gS rfl Z.c_LEAF_WORD) yac))) zaK) yac)) yac)))) yaJ)
  (zab (r_if (rt_w (ycX (yaI (o_eq rfl hu) (r_ix rfl hu (yab 2) yaf) yah (yaA _)) (zaZ (yaI (o_eq rfl hu) (r_bi (b_len rfl) rfl Z.b_len PySem.boot_len (zaa (yab 2) yac)) yaf (yaA _))))) (yag (yaw (ybt rfl C (za6 Z) hr.m (yab 0) (zaa (yao rfl C (zbC Z) hr.m rfl (zaa (r_ix rfl hu (yab 2) yaf) yac)) (zaa (yao rfl C (zbC Z) hr.m rfl (zaa (r_ix rfl hu (yab 2) yaf) yac)) yac))))) yaJ)
  (yag (za0 Z.x_NoLine zaJ rfl (zaa yah yac))))))
theorem zgE : GF P w (mkT K cls exc) mg base 7 "is_laid" ybD:=gf Z.d_is_laid zfy λhr C hu nd =>
 (zab (yam (i:=2) nd (zcP rfl C (za7 Z) hr.m (yab 0)))
  (zab (yg8 rfl rfl Z.ct_SkeinError (λ_ _ Ex2 C2 R2=>(yag (yam (i:=3) nd (yao rfl C2 (zed Z) hr.m rfl (zaa (yab 0) (zaa (yab 1) yac)))))) (λ_ C3=>(yag (yaw r_bl))))
  (yag (yaw (ydP o_gt (yab 3) (yab 2) (yaA _))))))
theorem zee : GF P w (mkT K cls exc) mg base 8 "read_shelf" yaU:=gf Z.d_read_shelf zdx λhr C hu nd =>
 (zab (yam (i:=1) nd (zeN rfl C (zbR Z) hr.m rfl))
  (zab (r_if (yaI (o_eq rfl hu) (yab 0) yah (yaA _)) (yag (yaw (yab 1))) yaJ)
  (zab (yhc ziw rfl (zih (E:=EN) rfl rfl Z.b_enumerate (r_bm rfl PySem.F.plainAttrs_str PySem.F.slot_str_split PySem.F.type_str_split (zcU) zar (yab 0) (zaa yah yac))) (yfh rfl rfl (za3 (i:=2) nd (za3 (i:=3) nd zeK))) (yag (r_if (ycW (zan rfl (yao rfl C (zgE Z) hr.m rfl (zaa (yab 1) (zaa (yab 3) yac))))) (yag (zhp rfl Z.g_Torn Z.x64 zaJ hr.m rfl (zaa (yab 2) yac))) yaJ)))
  (yag (yaw (yab 1))))))
theorem zef : GFH P w (mkT K cls exc) mg base 1 "_law_whole" ybQ:=gh Z.d_law_whole zbQ λhr hu nd =>
 (yag (yaw (ydQ (yds rfl rfl Z.b_isinstance (yab 0) rfl Z.b_int ydg (by decide)) (ydq (yeR (yds rfl rfl Z.b_isinstance (yab 0) rfl Z.b_bool zcL (by decide)))))))
theorem ziS : GF P w (mkT K cls exc) mg base 1 "_law_whole" ybQ:=gf Z.d_law_whole zbQ λhr C hu nd =>
 (yag (yaw (ydQ (yds rfl rfl Z.b_isinstance (yab 0) rfl Z.b_int ydg (by decide)) (ydq (yeR (yds rfl rfl Z.b_isinstance (yab 0) rfl Z.b_bool zcL (by decide)))))))
theorem zap : GF P w (mkT K cls exc) mg base 9 "_law_torn" yap:=gf Z.d_law_torn zes λhr C hu nd =>
 (zab (yam (i:=1) nd ycw)
  (zab (yg3 (i:=2) rfl nd rfl Z.ct_SkeinError (λ_ _ Ex2 C2 R2=>(yag (yaP (yao rfl C2 (zee Z) hr.m rfl (zaa (yab 0) yac))))) (λ_ C3=>(zab (yam (i:=1) nd (yfP yaf))
  (zab (yam (i:=3) nd (ybL (zaa (ydR rfl rfl Z.b_isinstance (yab 2) rfl Z.kx_NoText) (zaa (ydR rfl rfl Z.b_isinstance (yab 2) rfl Z.kx_NoPiece) (zaa (ydR rfl rfl Z.b_isinstance (yab 2) rfl Z.kx_Loose) (zaa (ydR rfl rfl Z.b_isinstance (yab 2) rfl Z.kx_Unlevel) yac))))))
  (yag (r_if (rt_w (ycX (zan rfl (ydR rfl rfl Z.b_isinstance (yab 2) rfl Z.kx_Torn)) (ycX (zan rfl (yg2 rfl rfl Z.b_isinstance (yab 2) rfl Z.b_ValueError yid Z.kx_ValueError)) (zaZ (yaI (o_eq rfl hu) (yab 3) (yaj (yg7 rfl) (ybL (zaa r_bl yac)) yaf) (yaA _)))))) (yag (r_if (rt_w (ycX (ycW (zan rfl (ydR rfl rfl Z.b_isinstance (yab 2) rfl Z.kx_TooLong))) (zaZ (zan rfl (ziq rfl (zef Z) ((hr.mono (show 1 <= 8 by decide)).h.mark _) rfl (zaa (yfY Z.g_Torn Z.x64 (yab 2)) yac)))))) (yag (yam (i:=1) nd (yfY Z.g_Torn Z.x64 (yab 2)))) yaJ)) yaJ))))))
  (yag (yaw (yab 1)))))
theorem yiG {f : Addr} {fd : FuncData} (h4 : Fun K "law" "law" yef f fd) : FnOk P w K mg base (CXE P w) 19 f fd ["script"] (spA (mkT K cls exc) yeX):=gl (T:=mkT K cls exc) h4 yhA λ{cdv A outer s H E} hr C hu nd =>
 (zab (yam (i:=1) nd (yao rfl C (zb6 Z) hr.m rfl (zaa (yab 0) yac)))
  (zab (yam (i:=2) nd (yao rfl C (zcv Z) hr.m rfl (zaa (yab 1) yac)))
  (zab (yam (i:=3) nd (r_bm rfl PySem.F.plainAttrs_str PySem.F.slot_str_split PySem.F.type_str_split (zcU) zar (yab 2) (zaa yah yac)))
  (zab (yam (i:=4) nd (zcP rfl C (za7 Z) hr.m (yab 1)))
  (zab (r_if (yaI (o_eq rfl hu) (yab 4) yaf (yaA _)) (yag (yam (i:=3) nd (ybL yac))) yaJ)
  (zab (yam (i:=5) nd (yao rfl C (za5 Z) hr.m rfl (zaa (yab 0) (zaa yaf yac))))
  (zab (yam (i:=6) nd (yao rfl C (zaj Z) hr.m rfl (zaa (yab 5) (zaa (yaj (yav rfl) (yab 4) yaf) yac))))
  (zab (r_if (rt_w (yeQ (yaI ygU (yao rfl C (zap Z) hr.m rfl (zaa (yab 2) yac)) ycw (yaA _)) (yeQ (yaI (o_ne rfl hu) (yao rfl C (zap Z) hr.m rfl (zaa yah yac)) yaf (yaA _)) (yfg (yaI (o_ne rfl hu) (yao rfl C (zap Z) hr.m rfl (zaa (yaj (yav rfl) yah (yab 2)) yac)) yaf (yaA _)))))) (yag (yaw r_bl)) yaJ)
  (zab (r_if (rt_w (ycX (yaI o_gt (yab 4) yaf (yaA _)) (zaZ (yaI (o_ne rfl hu) (yao rfl C (zap Z) hr.m rfl (zaa (yaj (yav rfl) (yab 2) yah) yac)) (yab 4) (yaA _))))) (yag (yaw r_bl)) yaJ)
  (zab (ycI rfl (ydj (E:=EN) rfl (zaM rfl (yao rfl (C.nox) (zc4 Z) hr.m rfl (zaa (yab 6) (zaa (yab 4) yac))) (zaL (r_ty (b_int) rfl Z.b_int ydg (zaa (ydP (o_eq rfl hu) (yab 4) yaf (yaA _)) yac))) zaK)) (zaC (i:=7) nd) (zab (r_if (yaI (o_ne rfl hu) (yao rfl (C.nox) (zap Z) hr.m rfl (zaa (r_bm rfl PySem.F.plainAttrs_str PySem.F.slot_str_join PySem.F.type_str_join (zaG rfl) zar yah (zaa (yaj (yav rfl) (yaj (yav rfl) (zaM rfl (yab 3) zaK (zaL (yab 6))) (ybL (zaa (yab 7) yac))) (zaM rfl (yab 3) (zaL (yab 6)) zaK)) yac)) yac)) (yab 6) (yaA _)) (yag (yaw r_bl)) yaJ)
  (yag (r_if (yaI (o_ne rfl hu) (yao rfl (C.nox) (zap Z) hr.m rfl (zaa (r_bm rfl PySem.F.plainAttrs_str PySem.F.slot_str_join PySem.F.type_str_join (zaG rfl) zar yah (zaa (yaj (yav rfl) (yaj (yav rfl) (zaM rfl (yab 3) zaK (zaL (yab 6))) (ybL (zaa (yab 7) (zaa yah yac)))) (zaM rfl (yab 3) (zaL (yab 6)) zaK)) yac)) yac)) (yab 6) (yaA _)) (yag (yaw r_bl)) yaJ))))
  (zab (ycI rfl (zaR (E:=EN) rfl Z.b_range (r_bi (ygZ) rfl Z.b_min PyProof.Rows.boot_min (zaa (yab 4) (zaa yaf yac)))) (zaC (i:=8) nd) (yag (r_if (yaI (o_ne rfl hu) (yao rfl (C.nox) (zap Z) hr.m rfl (zaa (r_bm rfl PySem.F.plainAttrs_str PySem.F.slot_str_join PySem.F.type_str_join (zaG rfl) zar yah (zaa (yaj (yav rfl) (yab 3) (ybL (zaa (r_ix rfl hu (yab 3) (yao rfl (C.nox) (zaj Z) hr.m rfl (zaa (yab 5) (zaa (yab 4) yac)))) yac))) yac)) yac)) (yab 4) (yaA _)) (yag (yaw r_bl)) yaJ)))
  (zab (yam (i:=9) nd (ybL (zaa yah (zaa yah (zaa yah yac)))))
  (zab (yam (i:=10) nd (ybL (zaa yah (zaa yah (zaa yah (zaa yah yac))))))
  (zab (yam (i:=11) nd (yaj (yav rfl) (ybL (zaa yah yac)) (ydG (jf:=[]) (zaS (N:=["script", "shelf", "text", "rows", "many", "row", "at", "bad", "k", "loose", "level", "long"]) (sc:=yae yef) rfl (λ_=>rfl) (by decide +kernel)) rfl (zdg (E:=(λ_=>E)) rfl Z.b_range yaf yaf) (λ_ _ _ _ _=>zbj) (λ_ _ _ _ _=>(yaj (yav rfl) (yaj (yav rfl) (yaj (yav rfl) yah (r_ty (b_str) rfl Z.b_str ycB (zaa (yab 0) yac))) yah) (r_ty (b_str) rfl Z.b_str ycB (zaa (yab 0) yac)))))))
  (zab (r_if (rt_w (yeQ (yaI (o_ne rfl hu) (yao rfl C (zap Z) hr.m rfl (zaa (r_bm rfl PySem.F.plainAttrs_str PySem.F.slot_str_join PySem.F.type_str_join (zaG rfl) zar yah (zaa (yab 9) yac)) yac)) yaf (yaA _)) (yfg (yaI (o_ne rfl hu) (yao rfl C (zap Z) hr.m rfl (zaa (r_bm rfl PySem.F.plainAttrs_str PySem.F.slot_str_join PySem.F.type_str_join (zaG rfl) zar yah (zaa (yab 10) yac)) yac)) yaf (yaA _))))) (yag (yaw r_bl)) yaJ)
  (yag (yaw (ydQ (ydP yfQ (yao rfl C (zap Z) hr.m rfl (zaa (r_bm rfl PySem.F.plainAttrs_str PySem.F.slot_str_join PySem.F.type_str_join (zaG rfl) zar yah (zaa (zaM rfl (yab 11) zaK (zaL yaf)) yac)) yac)) ycw (yaA _)) (ydq (ydP (o_eq rfl hu) (yao rfl C (zap Z) hr.m rfl (zaa (r_bm rfl PySem.F.plainAttrs_str PySem.F.slot_str_join PySem.F.type_str_join (zaG rfl) zar yah (zaa (yab 11) yac)) yac)) yaf (yaA _)))))))))))))))))))))
end
end Sk
namespace Sk
open PySem PySem.Spec L2 Sm
abbrev FX (l : PySem.W.OpenLaw) (w : World) (K : PySem.W.Frag) (mg : Str -> Option Value) (fa : Addr) : Prop:=∃ fd : FuncData,(∀ (s : Shared) (v : Value),BindsTo s fd ⟨[v],[]⟩ [("script",v)]) /\ ∀ base : Heap,K.In base -> base.Ns mainGlobals mg -> FnOk l.prog w K mg base (CXE l.prog w) 19 fa fd ["script"] (spL K)
theorem all_mk {l : PySem.W.OpenLaw} {w : World} {K : PySem.W.Frag} {h : Heap} {mg : Str -> Option Value} {fa C0 X0 X1 X2 X3 X4 X5 X6 X7 G_MARKED : Addr} {tk_LEAF_SIGNS tk_MOST_SIGNS tk_MOST_FIGURES tk_LEAF_WORD : Tok} (X : K.In h) (G : h.Ns mainGlobals mg) (hfa : mg "law" = some (.ref fa))
  (aC0 : NA K "Shelf" (some (.ref C0))) (a0 : DN K C0 "__init__" "Shelf.__init__" yc0) (a6 : DN K C0 "has_piece" "Shelf.has_piece" yb3) (a7 : DN K C0 "check_piece" "Shelf.check_piece" ybR) (a8 : DN K C0 "check_fork" "Shelf.check_fork" ybX) (a9 : DN K C0 "lay" "Shelf.lay" yde) (a10 : DN K C0 "lay_fork" "Shelf.lay_fork" ycb) (a11 : DN K C0 "fork" "Shelf.fork" yc1) (a16 : DN K C0 "lay_leaf" "Shelf.lay_leaf" ycc) (a17 : DN K C0 "leaf" "Shelf.leaf" yc2) (a22 : DN K C0 "piece" "Shelf.piece" ycE) (a23 : DN K C0 "many" "Shelf.many" yc3) (a1 : DK K "_law_mixed" ydc) (a2 : DK K "_law_stream" ycr) (a3 : DK K "_law_digit" ydd) (a4 : DK K "_law_letters" ycD) (a5 : DK K "is_whole" ydx) (a12 : DK K "is_plain_sign" ycs) (a13 : DK K "is_plain" ycO) (a14 : DK K "is_short" ydy) (a15 : DK K "ends_in" ydK) (a18 : DK K "_law_tree" ycP) (a19 : DK K "_law_text" ydz) (a20 : DK K "_law_long" ydA) (a21 : DK K "_law_drawn_shelf" yb4) (a24 : DK K "_law_written" ycF) (a25 : DK K "_law_shelf_text" ycd) (a26 : DK K "_law_bad_rows" ycv) (a27 : DK K "read_plain" yc4) (a28 : DK K "read_number" yca) (a29 : DK K "piece_told" yc5) (a30 : DK K "is_laid" ydL) (a31 : DK K "read_shelf" yc6) (a32 : DK K "_law_whole" ydf) (a33 : DK K "_law_torn" ydB) (a34 : DK K "law" yef) (kk0 : Cls K C0) (mk0 : PySem.W.makesIn K C0 = true) (kc0 : PySem.W.keepIn K (.ref C0) = true) (nf0_0 : FA K C0 "pieces") (nf0_1 : FA K C0 "numbers") (nf0_2 : FA K C0 "sign_counts") (nf0_3 : FA K C0 "end_counts") (nf0_4 : FA K C0 "leaf_counts") (nf0_5 : FA K C0 "heights") (nf0_6 : FA K C0 "first_leaves") (nf0_7 : FA K C0 "last_leaves") (z_ValueError : NA K "ValueError" none) (z_abs : NA K "abs" none) (z_all : NA K "all" none) (z_bool : NA K "bool" none) (z_enumerate : NA K "enumerate" none) (z_int : NA K "int" none) (z_isinstance : NA K "isinstance" none) (z_len : NA K "len" none) (z_max : NA K "max" none) (z_min : NA K "min" none) (z_range : NA K "range" none) (z_str : NA K "str" none) (z_sum : NA K "sum" none) (e_SkeinError : NA K "SkeinError" (some (.ref X0))) (e_NoText : NA K "NoText" (some (.ref X1))) (x_NoText : XI K X1) (e_NoPiece : NA K "NoPiece" (some (.ref X2))) (x_NoPiece : XI K X2) (e_Loose : NA K "Loose" (some (.ref X3))) (x_Loose : XI K X3) (e_Unlevel : NA K "Unlevel" (some (.ref X4))) (x_Unlevel : XI K X4) (e_TooLong : NA K "TooLong" (some (.ref X5))) (x_TooLong : XI K X5) (e_Torn : NA K "Torn" (some (.ref X6))) (kp_Torn : PySem.W.keepIn K (.ref X6) = true) (j_Torn : XJ K X6 "Torn.__init__" ye1 "row") (e_NoLine : NA K "NoLine" (some (.ref X7))) (x_NoLine : XI K X7) (m_LEAF_SIGNS : NA K "LEAF_SIGNS" (some (.int 8 tk_LEAF_SIGNS))) (m_MOST_SIGNS : NA K "MOST_SIGNS" (some (.int 1000000000000000000 tk_MOST_SIGNS))) (m_MOST_FIGURES : NA K "MOST_FIGURES" (some (.int 30 tk_MOST_FIGURES))) (m_LEAF_WORD : NA K "LEAF_WORD" (some (.str "leaf " tk_LEAF_WORD))) (y0 : ExcK K X0) (y1 : ExcK K X1) (y2 : ExcK K X2) (y3 : ExcK K X3) (y4 : ExcK K X4) (y5 : ExcK K X5) (y6 : ExcK K X6) (y7 : ExcK K X7) (kt_Loose_0 : KO K X0 X3 false) (kt_Loose_1 : KO K X1 X3 false) (kt_Loose_2 : KO K X2 X3 false) (kt_Loose_3 : KO K X3 X3 true) (kt_Loose_4 : KO K X4 X3 false) (kt_Loose_5 : KO K X5 X3 false) (kt_Loose_6 : KO K X6 X3 false) (kt_Loose_7 : KO K X7 X3 false) (kt_NoPiece_0 : KO K X0 X2 false) (kt_NoPiece_1 : KO K X1 X2 false) (kt_NoPiece_2 : KO K X2 X2 true) (kt_NoPiece_3 : KO K X3 X2 false) (kt_NoPiece_4 : KO K X4 X2 false) (kt_NoPiece_5 : KO K X5 X2 false) (kt_NoPiece_6 : KO K X6 X2 false) (kt_NoPiece_7 : KO K X7 X2 false) (kt_NoText_0 : KO K X0 X1 false) (kt_NoText_1 : KO K X1 X1 true) (kt_NoText_2 : KO K X2 X1 false) (kt_NoText_3 : KO K X3 X1 false) (kt_NoText_4 : KO K X4 X1 false) (kt_NoText_5 : KO K X5 X1 false) (kt_NoText_6 : KO K X6 X1 false) (kt_NoText_7 : KO K X7 X1 false) (kt_TooLong_0 : KO K X0 X5 false) (kt_TooLong_1 : KO K X1 X5 false) (kt_TooLong_2 : KO K X2 X5 false) (kt_TooLong_3 : KO K X3 X5 false) (kt_TooLong_4 : KO K X4 X5 false) (kt_TooLong_5 : KO K X5 X5 true) (kt_TooLong_6 : KO K X6 X5 false) (kt_TooLong_7 : KO K X7 X5 false) (kt_Torn_0 : KO K X0 X6 false) (kt_Torn_1 : KO K X1 X6 false) (kt_Torn_2 : KO K X2 X6 false) (kt_Torn_3 : KO K X3 X6 false) (kt_Torn_4 : KO K X4 X6 false) (kt_Torn_5 : KO K X5 X6 false) (kt_Torn_6 : KO K X6 X6 true) (kt_Torn_7 : KO K X7 X6 false) (kt_Unlevel_0 : KO K X0 X4 false) (kt_Unlevel_1 : KO K X1 X4 false) (kt_Unlevel_2 : KO K X2 X4 false) (kt_Unlevel_3 : KO K X3 X4 false) (kt_Unlevel_4 : KO K X4 X4 true) (kt_Unlevel_5 : KO K X5 X4 false) (kt_Unlevel_6 : KO K X6 X4 false) (kt_Unlevel_7 : KO K X7 X4 false) (kt_ValueError_0 : PySem.W.kitOne K (.ref X0) (.type "ValueError") = some true) (kt_ValueError_1 : PySem.W.kitOne K (.ref X1) (.type "ValueError") = some true) (kt_ValueError_2 : PySem.W.kitOne K (.ref X2) (.type "ValueError") = some true) (kt_ValueError_3 : PySem.W.kitOne K (.ref X3) (.type "ValueError") = some true) (kt_ValueError_4 : PySem.W.kitOne K (.ref X4) (.type "ValueError") = some true) (kt_ValueError_5 : PySem.W.kitOne K (.ref X5) (.type "ValueError") = some true) (kt_ValueError_6 : PySem.W.kitOne K (.ref X6) (.type "ValueError") = some true) (kt_ValueError_7 : PySem.W.kitOne K (.ref X7) (.type "ValueError") = some true) (gd_MARKED : NA K "MARKED" (some (.ref G_MARKED))) (gt_MARKED : PyProof.Rows.KTD.tabLook PyProof.Rows.KTD.flatLooks (λb=>K.lookup b) G_MARKED (D_MARKED.map λp=>(p.1,PyData.str p.2)) = true) (gq_MARKED : PyProof.Rows.KTD.hashesOf (λb=>K.lookup b) G_MARKED = D_MARKED.map λp=>(PySem.strKind l.prog w).hash p.1) (em_SkeinError_0 : XO K X0 X0) (em_SkeinError_1 : XO K X1 X0) (em_SkeinError_2 : XO K X2 X0) (em_SkeinError_3 : XO K X3 X0) (em_SkeinError_4 : XO K X4 X0) (em_SkeinError_5 : XO K X5 X0) (em_SkeinError_6 : XO K X6 X0) (em_SkeinError_7 : XO K X7 X0)
  : FX l w K mg fa:=by
 have Z : ∀ base : Heap,K.In base -> Facts l.prog w K (λn=>[C0][n]?) (λn=>[X0,X1,X2,X3,X4,X5,X6,X7][n % 64]?) mg base:=λbase KB=>{
   b_ValueError:=PySem.W.mg_none_of X G z_ValueError,
   b_abs:=PySem.W.mg_none_of X G z_abs,
   b_all:=PySem.W.mg_none_of X G z_all,
   b_bool:=PySem.W.mg_none_of X G z_bool,
   b_enumerate:=PySem.W.mg_none_of X G z_enumerate,
   b_int:=PySem.W.mg_none_of X G z_int,
   b_isinstance:=PySem.W.mg_none_of X G z_isinstance,
   b_len:=PySem.W.mg_none_of X G z_len,
   b_max:=PySem.W.mg_none_of X G z_max,
   b_min:=PySem.W.mg_none_of X G z_min,
   b_range:=PySem.W.mg_none_of X G z_range,
   b_str:=PySem.W.mg_none_of X G z_str,
   b_sum:=PySem.W.mg_none_of X G z_sum,
   c_LEAF_SIGNS:=⟨_,PySem.W.mg_of X G m_LEAF_SIGNS⟩,
   c_MOST_SIGNS:=⟨_,PySem.W.mg_of X G m_MOST_SIGNS⟩,
   c_MOST_FIGURES:=⟨_,PySem.W.mg_of X G m_MOST_FIGURES⟩,
   c_LEAF_WORD:=⟨_,PySem.W.mg_of X G m_LEAF_WORD⟩,
   cf_Shelf:=⟨C0,rfl,kk0,λf hf=>by
   have hf2 : f ∈ flds 0:=hf
   simp only [flds,List.mem_cons,List.not_mem_nil,or_false] at hf2
   rcases hf2 with rfl | rfl | rfl | rfl | rfl | rfl | rfl | rfl
   ·exact nf0_0
   ·exact nf0_1
   ·exact nf0_2
   ·exact nf0_3
   ·exact nf0_4
   ·exact nf0_5
   ·exact nf0_6
   ·exact nf0_7⟩,
   x_NoText:=gx KB X G rfl e_NoText x_NoText,
   x_NoPiece:=gx KB X G rfl e_NoPiece x_NoPiece,
   x_Loose:=gx KB X G rfl e_Loose x_Loose,
   x_Unlevel:=gx KB X G rfl e_Unlevel x_Unlevel,
   x_TooLong:=gx KB X G rfl e_TooLong x_TooLong,
   g_Torn:=gi KB X G rfl e_Torn kp_Torn j_Torn bl2 fsk rfl (.inl rfl) (.inl rfl) (λ_=>rfl) (by decide) (by decide) (by rw [typeLookup_type,builtinLookup_eq_fast]; kernel_rfl) (by decide),
   x_NoLine:=gx KB X G rfl e_NoLine x_NoLine,
   d_Shelf_init:=di rfl (PySem.W.mg_of X G aC0) mk0 kc0 a0 bl1,
   d_law_mixed:=dg X G a1 bl2,
   d_law_stream:=dg X G a2 bl2,
   d_law_digit:=dg X G a3 bl2,
   d_law_letters:=dg X G a4 bl1,
   d_is_whole:=dg X G a5 bl1,
   d_Shelf_has_piece:=dm rfl kk0 a6 bl2,
   d_Shelf_check_piece:=dm rfl kk0 a7 bl2,
   d_Shelf_check_fork:=dm rfl kk0 a8 bl3,
   d_Shelf_lay:=dm rfl kk0 a9 bl2,
   d_Shelf_lay_fork:=dm rfl kk0 a10 bl2,
   d_Shelf_fork:=dm rfl kk0 a11 bl3,
   d_is_plain_sign:=dg X G a12 bl1,
   d_is_plain:=dg X G a13 bl1,
   d_is_short:=dg X G a14 bl1,
   d_ends_in:=dg X G a15 bl1,
   d_Shelf_lay_leaf:=dm rfl kk0 a16 bl2,
   d_Shelf_leaf:=dm rfl kk0 a17 bl2,
   d_law_tree:=dg X G a18 bl5,
   d_law_text:=dg X G a19 bl3,
   d_law_long:=dg X G a20 bl2,
   d_law_drawn_shelf:=dg X G a21 bl1,
   d_Shelf_piece:=dm rfl kk0 a22 bl2,
   d_Shelf_many:=dm rfl kk0 a23 bl1,
   d_law_written:=dg X G a24 bl1,
   d_law_shelf_text:=dg X G a25 bl1,
   d_law_bad_rows:=dg X G a26 bl2,
   d_read_plain:=dg X G a27 bl1,
   d_read_number:=dg X G a28 bl1,
   d_piece_told:=dg X G a29 bl2,
   d_is_laid:=dg X G a30 bl2,
   d_read_shelf:=dg X G a31 bl1,
   d_law_whole:=dg X G a32 bl1,
   d_law_torn:=dg X G a33 bl1,
   d_law:=dg X G a34 bl1,
   kx_Loose:=⟨X3,PySem.W.mg_of X G e_Loose,(λc=>(λm=>λC' h=>match m,C',h with
    | 0,_,rfl=>⟨y0,kt_Loose_0⟩
    | 1,_,rfl=>⟨y1,kt_Loose_1⟩
    | 2,_,rfl=>⟨y2,kt_Loose_2⟩
    | 3,_,rfl=>⟨y3,kt_Loose_3⟩
    | 4,_,rfl=>⟨y4,kt_Loose_4⟩
    | 5,_,rfl=>⟨y5,kt_Loose_5⟩
    | 6,_,rfl=>⟨y6,kt_Loose_6⟩
    | 7,_,rfl=>⟨y7,kt_Loose_7⟩
    | _ + 8,_,h=>nomatch h : ∀ m C',[X0,X1,X2,X3,X4,X5,X6,X7][m]? = some C' -> ExcK K C' /\ PySem.W.kitOne K (.ref C') (.ref X3) = some ([false,false,false,true,false,false,false,false].getD m false)) (c % 64))⟩,
   kx_NoPiece:=⟨X2,PySem.W.mg_of X G e_NoPiece,(λc=>(λm=>λC' h=>match m,C',h with
    | 0,_,rfl=>⟨y0,kt_NoPiece_0⟩
    | 1,_,rfl=>⟨y1,kt_NoPiece_1⟩
    | 2,_,rfl=>⟨y2,kt_NoPiece_2⟩
    | 3,_,rfl=>⟨y3,kt_NoPiece_3⟩
    | 4,_,rfl=>⟨y4,kt_NoPiece_4⟩
    | 5,_,rfl=>⟨y5,kt_NoPiece_5⟩
    | 6,_,rfl=>⟨y6,kt_NoPiece_6⟩
    | 7,_,rfl=>⟨y7,kt_NoPiece_7⟩
    | _ + 8,_,h=>nomatch h : ∀ m C',[X0,X1,X2,X3,X4,X5,X6,X7][m]? = some C' -> ExcK K C' /\ PySem.W.kitOne K (.ref C') (.ref X2) = some ([false,false,true,false,false,false,false,false].getD m false)) (c % 64))⟩,
   kx_NoText:=⟨X1,PySem.W.mg_of X G e_NoText,(λc=>(λm=>λC' h=>match m,C',h with
    | 0,_,rfl=>⟨y0,kt_NoText_0⟩
    | 1,_,rfl=>⟨y1,kt_NoText_1⟩
    | 2,_,rfl=>⟨y2,kt_NoText_2⟩
    | 3,_,rfl=>⟨y3,kt_NoText_3⟩
    | 4,_,rfl=>⟨y4,kt_NoText_4⟩
    | 5,_,rfl=>⟨y5,kt_NoText_5⟩
    | 6,_,rfl=>⟨y6,kt_NoText_6⟩
    | 7,_,rfl=>⟨y7,kt_NoText_7⟩
    | _ + 8,_,h=>nomatch h : ∀ m C',[X0,X1,X2,X3,X4,X5,X6,X7][m]? = some C' -> ExcK K C' /\ PySem.W.kitOne K (.ref C') (.ref X1) = some ([false,true,false,false,false,false,false,false].getD m false)) (c % 64))⟩,
   kx_TooLong:=⟨X5,PySem.W.mg_of X G e_TooLong,(λc=>(λm=>λC' h=>match m,C',h with
    | 0,_,rfl=>⟨y0,kt_TooLong_0⟩
    | 1,_,rfl=>⟨y1,kt_TooLong_1⟩
    | 2,_,rfl=>⟨y2,kt_TooLong_2⟩
    | 3,_,rfl=>⟨y3,kt_TooLong_3⟩
    | 4,_,rfl=>⟨y4,kt_TooLong_4⟩
    | 5,_,rfl=>⟨y5,kt_TooLong_5⟩
    | 6,_,rfl=>⟨y6,kt_TooLong_6⟩
    | 7,_,rfl=>⟨y7,kt_TooLong_7⟩
    | _ + 8,_,h=>nomatch h : ∀ m C',[X0,X1,X2,X3,X4,X5,X6,X7][m]? = some C' -> ExcK K C' /\ PySem.W.kitOne K (.ref C') (.ref X5) = some ([false,false,false,false,false,true,false,false].getD m false)) (c % 64))⟩,
   kx_Torn:=⟨X6,PySem.W.mg_of X G e_Torn,(λc=>(λm=>λC' h=>match m,C',h with
    | 0,_,rfl=>⟨y0,kt_Torn_0⟩
    | 1,_,rfl=>⟨y1,kt_Torn_1⟩
    | 2,_,rfl=>⟨y2,kt_Torn_2⟩
    | 3,_,rfl=>⟨y3,kt_Torn_3⟩
    | 4,_,rfl=>⟨y4,kt_Torn_4⟩
    | 5,_,rfl=>⟨y5,kt_Torn_5⟩
    | 6,_,rfl=>⟨y6,kt_Torn_6⟩
    | 7,_,rfl=>⟨y7,kt_Torn_7⟩
    | _ + 8,_,h=>nomatch h : ∀ m C',[X0,X1,X2,X3,X4,X5,X6,X7][m]? = some C' -> ExcK K C' /\ PySem.W.kitOne K (.ref C') (.ref X6) = some ([false,false,false,false,false,false,true,false].getD m false)) (c % 64))⟩,
   kx_Unlevel:=⟨X4,PySem.W.mg_of X G e_Unlevel,(λc=>(λm=>λC' h=>match m,C',h with
    | 0,_,rfl=>⟨y0,kt_Unlevel_0⟩
    | 1,_,rfl=>⟨y1,kt_Unlevel_1⟩
    | 2,_,rfl=>⟨y2,kt_Unlevel_2⟩
    | 3,_,rfl=>⟨y3,kt_Unlevel_3⟩
    | 4,_,rfl=>⟨y4,kt_Unlevel_4⟩
    | 5,_,rfl=>⟨y5,kt_Unlevel_5⟩
    | 6,_,rfl=>⟨y6,kt_Unlevel_6⟩
    | 7,_,rfl=>⟨y7,kt_Unlevel_7⟩
    | _ + 8,_,h=>nomatch h : ∀ m C',[X0,X1,X2,X3,X4,X5,X6,X7][m]? = some C' -> ExcK K C' /\ PySem.W.kitOne K (.ref C') (.ref X4) = some ([false,false,false,false,true,false,false,false].getD m false)) (c % 64))⟩,
   kx_ValueError:=(λc=>(λm=>λC' h=>match m,C',h with
    | 0,_,rfl=>⟨y0,kt_ValueError_0⟩
    | 1,_,rfl=>⟨y1,kt_ValueError_1⟩
    | 2,_,rfl=>⟨y2,kt_ValueError_2⟩
    | 3,_,rfl=>⟨y3,kt_ValueError_3⟩
    | 4,_,rfl=>⟨y4,kt_ValueError_4⟩
    | 5,_,rfl=>⟨y5,kt_ValueError_5⟩
    | 6,_,rfl=>⟨y6,kt_ValueError_6⟩
    | 7,_,rfl=>⟨y7,kt_ValueError_7⟩
    | _ + 8,_,h=>nomatch h : ∀ m C',[X0,X1,X2,X3,X4,X5,X6,X7][m]? = some C' -> ExcK K C' /\ PySem.W.kitOne K (.ref C') (.type "ValueError") = some ([true,true,true,true,true,true,true,true].getD m false)) (c % 64)),
   x64:=λc=>by show _[c % 64]? = _[c % 64 % 64]?; rw [Nat.mod_mod],
   kg_MARKED:=yii (PySem.W.mg_of X G gd_MARKED) gt_MARKED gq_MARKED (by decide +kernel) (by decide +kernel),
   ct_SkeinError:=⟨X0,PySem.W.mg_of X G e_SkeinError,(λc=>(λm C' z h=>match m,C',z,h with
    | 0,_,_,rfl=>em_SkeinError_0
    | 1,_,_,rfl=>em_SkeinError_1
    | 2,_,_,rfl=>em_SkeinError_2
    | 3,_,_,rfl=>em_SkeinError_3
    | 4,_,_,rfl=>em_SkeinError_4
    | 5,_,_,rfl=>em_SkeinError_5
    | 6,_,_,rfl=>em_SkeinError_6
    | 7,_,_,rfl=>em_SkeinError_7
    | _ + 8,_,_,h=>nomatch h : ∀ m C',[true,true,true,true,true,true,true,true].getD m false = true -> [X0,X1,X2,X3,X4,X5,X6,X7][m]? = some C' -> PySem.W.exmOne K (.ref C') (.ref X0) = some true) (c % 64))⟩ }
 obtain ⟨fd,h1,F⟩:=dlaw (p := "script") X G hfa a34 bl1
 exact ⟨fd,h1,λbase KB _=>FnOk.imp (yiG (Z base KB) F) (zin (T:=mkT K (λn=>[C0][n]?) (λn=>[X0,X1,X2,X3,X4,X5,X6,X7][n % 64]?)) law_true)⟩
theorem walk {l : PySem.W.OpenLaw} {q : Program} {loose : List Str} {XP : (Str -> Option Value) -> Heap -> Prop} {YP : World -> Heap -> Prop} {d : DefRec} {K : Params -> PySem.W.Frag} (hn : l.most = some 63) (hdf : d.params.defaults = [])
  (hY : ∀ (w : World) (h : Heap),YP w h -> (K w.params).In h)
  (F : ∀ (w : World) (mg : Str -> Option Value) (fa : Addr) (h : Heap),(K w.params).In h -> h.Ns mainGlobals mg -> mg d.name = some (.ref fa) -> FX l w (K w.params) mg fa) :
  PySem.W.WalkO q loose XP YP l.row.toRowW d [] (λf vs=>PySem.call f vs) :=
 L2.walk_of (n:=63) (k:=19) (x := "script") (CX:=λw=>CXE l.prog w) (sp:=λw=>spL (K w.params)) hn (by decide) hdf ⟨rfl,by decide,by decide⟩ hY F (λ_ _ a ns hl _ hS=>⟨a,ns,rfl,hS,hl,λ_=>rfl⟩) λ_ _ _ _ _ z=>zgh z
end Sk
open PySem PySem.W PyProof.Rows
section
inductive PySem.W.Fast:Prop|tw6383244525251019717|tw3477204272721553814|tw18343166332098974719|tw18350655876883839935|tw16220141938901616383|tw16411857987019765471|tw1833728366421614271|tw12791815774918917791|tw4044781002588587551|tw15530816768674699807|tw9555179629140774143|tw2276645496001524927|tw7950322966504660063|tw16154345248945019870|tw3373547600117647326|tw887853248322886622|tw7827689724010955486|tw2441514860234992318|tw1751869644486231614|tw8278826989043761726|tw2960710197019209214|tw11984573946264356350|tw10043685785584947678|tw6882499244354807102|tw79094884240367934|tw18155325269049881662|tw4047921549175794557|tw12987608936969973597|tw1728774280928274269|tw12976605194044606205|tw14980695705026192061|tw7305598807054049949|tw12492100698701268637|tw9980505577676097117|tw17413952298343669213|tw7551684531371517117|tw839496940561969309|tw910748510057435293|tw8789702872645060604|tw18199730691899728828|tw6632244118263613308|tw4037230622360683292|tw679835661649166108|tw14261148093442338588|tw16749973304802236060|tw1741487640157250172|tw3057019417244204604|tw5813589231065185724|tw14088113757499985180|tw7842799315579563100|tw4729252100096022588|tw17383776437200245820|tw15604567344162883451|tw2277721652642391739|tw1455511175522708923|tw11249501406663994491|tw1518342957912325147|tw9954204212142331834|tw7863459380028510074|tw16442127352702492506|tw4741035593857589018|tw15157056914572900090|tw2403028045437881050|tw6917078636727157466|tw1529561237834206874|tw6772593667025111610|tw4933507595379588602|tw9263223928721486010|tw17858814696414005177|tw12806773984328171353|tw6211223127200140025|tw3818996053381627609|tw1918529640955748025|tw10659028147866288793|tw14752368874004945529|tw13109683784698316313|tw12023826072840713689|tw4478237224284547289|tw15054197847024786521|tw2530187846353441881|tw10997718019571114904|tw15875886194103225144|tw13110693031896294104|tw10231509721550221880|tw16093529740636908088|tw2125113079494914392|tw7641990006058077432|tw8209955201855980696|tw8204983232267317304|tw10212267769815542423|tw10494506708479361495|tw1490655352981747095|tw340320986949708151|tw4933880193716678871|tw11803764997931617495|tw11575097276864508023|tw5678660324426605591|tw14350913953411585047|tw14512797383083553750|tw8691154682981869462|tw5836118513397173878|tw3093595387729977942|tw8134150837406184982|tw15918604439530252822|tw5914394529906084278|tw4813678333494195606|tw5536065998834554230|tw14844007742583007542|tw4992773705998511350|tw4581713978639416534|tw11585156667615494358|tw8685095932660399318|tw16107422096888897718|tw12890368184230498133|tw5273287907190527637|tw17623412872441232885|tw8752372826387437781|tw14651997889589059765|tw11066136938770676885|tw9307337305141171317|tw5541190882497899412|tw3423787503460281012|tw18234062680369716916|tw14424236518924753492|tw10790400110559392212|tw8631211653567814100|tw7576073778868704628|tw11974991660355113300|tw17740581502475707700|tw4613523828153043124|tw2408776231716004948|tw8156564363897164820|tw6942673931480030099|tw14499372570625972051|tw2570596103235415763|tw16785201617647238579|tw2617257232056241363|tw10149260326445106227|tw8191482494270747699|tw3270113475126231091|tw6786653951291284466|tw12825742314958383058|tw14921696262400096146|tw11206362726666517170|tw17011158473646367346|tw8952198076744447506|tw16984417599448403442|tw14733000414655827026|tw17968662500098326353|tw11506398205022514001|tw4696846437341128273|tw30530842068680241|tw16460545824379424273|tw13935608392556916241|tw3109282646231961073|tw15131862098237912497|tw10526655067563489585|tw8269026278842794225|tw16210363217863522481|tw4703150793812225137|tw2895344845677622321|tw3995662706723391537|tw10951608666090677232|tw6359162780940437328|tw9060754203089676016|tw5691439528937221712|tw68922191267082832|tw18094836297716541008|tw10886807897636537936|tw8731400307813820880|tw1232844480206509488|tw1148443924841755056|tw11720632461380287856|tw16141363813344786736|tw16848514372598560912|tw10158396385778165840|tw17987856093427747888|tw15360589828674701231|tw6795947052934153999|tw3036236226762230415|tw3056420432913377839|tw5503311101901395375|tw39728847338187119|tw8554110063941558415|tw11563980204676127791|tw13739882745678073710|tw645933932330055502|tw10410374856259974926|tw10778354224249961230|tw8711817846410158414|tw17321485586765471822|tw18058906528252309582|tw723787625310939150|tw7537534138568170477|tw9721851538124380077|tw1786340555790990125|tw1049797073983275693|tw11258038360877790797|tw13456326771782694349|tw13724401777571993005|tw8369308642570483564|tw16618535560099212108|tw4780036438391716588|tw16251376384144612780|tw17536740728535843244|tw7594888309998219596|tw7100971420716630188|tw11430888460495576172|tw3963699005821584203|tw14275563612170936971|tw2317573439343156747|tw13258359674958438859|tw18213905100822206827|tw1207156240152923050|tw11160740387649855178|tw5928107695169584714|tw12402163893903824266|tw11887236770439713034|tw2361290144151234794|tw17525616675523038346|tw12948293167758164010|tw742151716933155882|tw8964670834759562217|tw16821883164028565417|tw8744577351774795401|tw11303233171152164425|tw7313909723081311785|tw8532970001934847241|tw12302468718224469065|tw12007090771060790313|tw15173890506955921288|tw16894169647754681128|tw14713852157219680936|tw3972864339009901160|tw12805694973959678440|tw291334398527002024|tw7395537946016981416|tw2803320639774952|tw13507417526091824328|tw6312004382728848456|tw223424442624872391|tw16716590544922153895|tw66507150688394087|tw17918399817206153831|tw6463476107473990119|tw7295674824673611239|tw17618152725659087303|tw4668722796850848807|tw5864385713005559815|tw15958568937239852966|tw6547688089159631654|tw16387178041821941030|tw1901435973322903814|tw13899475411067418758|tw6256487184385040005|tw3866135723742032325|tw1158320733719849221|tw6154172466064088325|tw14741841851117320453|tw2637439775051120548|tw17642101994354427812|tw17756044628782519140|tw9122552335608840004|tw11889024252195141252|tw2706111829551535364|tw5664742638239844484|tw2761711808006121572|tw4659358385355767779|tw5177019859280338851|tw7400000440526380931|tw11125048308629841731|tw47845037922990787|tw10312867428355907011|tw15447195534999785891|tw15117764813774650787|tw15994709912327117155|tw255136473694242147|tw4350334508664253667|tw11034210645576612738|tw7596500255765804834|tw13830063840629033666|tw6456379673716842114|tw17883006571895069282|tw17069375439599492546|tw16287181629509088642|tw12735285197071459714|tw17588512641812792610|tw8714193788231671906|tw633738338111468385|tw15309318067680306017|tw7940054880723648193|tw17112767240530800321|tw15605296558311481953|tw16654878515422798433|tw9016853920426010209|tw4938528403960786369|tw14691874948505067521|tw9133955472364268512|tw1732841020140435168|tw8644542631462249024|tw10019172783294237248|tw5123172041586661888|tw17948307216544958944|tw7049940777190088064|tw5807092047660660896|tw3735925106335762560|tw9382922228313247776
end
set_option maxRecDepth 100000 in
set_option maxHeartbeats 0 in
theorem PySem.Challenge.cw_skeinwood_k88_texts_of_no_shelf_holds : PySem.Challenge.rw_skeinwood_k88_texts_of_no_shelf.Holds := by
 w_on; o_law; k_head; (case hw => w_witness2)
 k_fill
 refine Sk.walk (l := PySem.Challenge.rw_skeinwood_k88_texts_of_no_shelf) rfl rfl (fun w h Y => PySem.W.kIn_of Y) ?F
 case F =>
  intro w mg fa h KX G hmg
  refine' Sk.all_mk KX G hmg ?aC0 ?a0 ?a6 ?a7 ?a8 ?a9 ?a10 ?a11 ?a16 ?a17 ?a22 ?a23 ?a1 ?a2 ?a3 ?a4 ?a5 ?a12 ?a13 ?a14 ?a15 ?a18 ?a19 ?a20 ?a21 ?a24 ?a25 ?a26 ?a27 ?a28 ?a29 ?a30 ?a31 ?a32 ?a33 ?a34 ?kk0 ?mk0 ?kc0 ?nf0_0 ?nf0_1 ?nf0_2 ?nf0_3 ?nf0_4 ?nf0_5 ?nf0_6 ?nf0_7 ?z_ValueError ?z_abs ?z_all ?z_bool ?z_enumerate ?z_int ?z_isinstance ?z_len ?z_max ?z_min ?z_range ?z_str ?z_sum ?e_SkeinError ?e_NoText ?x_NoText ?e_NoPiece ?x_NoPiece ?e_Loose ?x_Loose ?e_Unlevel ?x_Unlevel ?e_TooLong ?x_TooLong ?e_Torn ?kp_Torn ?j_Torn ?e_NoLine ?x_NoLine ?m_LEAF_SIGNS ?m_MOST_SIGNS ?m_MOST_FIGURES ?m_LEAF_WORD ?y0 ?y1 ?y2 ?y3 ?y4 ?y5 ?y6 ?y7 ?kt_Loose_0 ?kt_Loose_1 ?kt_Loose_2 ?kt_Loose_3 ?kt_Loose_4 ?kt_Loose_5 ?kt_Loose_6 ?kt_Loose_7 ?kt_NoPiece_0 ?kt_NoPiece_1 ?kt_NoPiece_2 ?kt_NoPiece_3 ?kt_NoPiece_4 ?kt_NoPiece_5 ?kt_NoPiece_6 ?kt_NoPiece_7 ?kt_NoText_0 ?kt_NoText_1 ?kt_NoText_2 ?kt_NoText_3 ?kt_NoText_4 ?kt_NoText_5 ?kt_NoText_6 ?kt_NoText_7 ?kt_TooLong_0 ?kt_TooLong_1 ?kt_TooLong_2 ?kt_TooLong_3 ?kt_TooLong_4 ?kt_TooLong_5 ?kt_TooLong_6 ?kt_TooLong_7 ?kt_Torn_0 ?kt_Torn_1 ?kt_Torn_2 ?kt_Torn_3 ?kt_Torn_4 ?kt_Torn_5 ?kt_Torn_6 ?kt_Torn_7 ?kt_Unlevel_0 ?kt_Unlevel_1 ?kt_Unlevel_2 ?kt_Unlevel_3 ?kt_Unlevel_4 ?kt_Unlevel_5 ?kt_Unlevel_6 ?kt_Unlevel_7 ?kt_ValueError_0 ?kt_ValueError_1 ?kt_ValueError_2 ?kt_ValueError_3 ?kt_ValueError_4 ?kt_ValueError_5 ?kt_ValueError_6 ?kt_ValueError_7 ?gd_MARKED ?gt_MARKED ?gq_MARKED ?em_SkeinError_0 ?em_SkeinError_1 ?em_SkeinError_2 ?em_SkeinError_3 ?em_SkeinError_4 ?em_SkeinError_5 ?em_SkeinError_6 ?em_SkeinError_7
  (case aC0 => apply Sm.na;k_is)
  (case a0 => apply Sm.dn<;>k_is)
  (case a6 => apply Sm.dn<;>k_is)
  (case a7 => apply Sm.dn<;>k_is)
  (case a8 => apply Sm.dn<;>k_is)
  (case a9 => apply Sm.dn<;>k_is)
  (case a10 => apply Sm.dn<;>k_is)
  (case a11 => apply Sm.dn<;>k_is)
  (case a16 => apply Sm.dn<;>k_is)
  (case a17 => apply Sm.dn<;>k_is)
  (case a22 => apply Sm.dn<;>k_is)
  (case a23 => apply Sm.dn<;>k_is)
  (case a1 => apply Sm.dk<;>k_is)
  (case a2 => apply Sm.dk<;>k_is)
  (case a3 => apply Sm.dk<;>k_is)
  (case a4 => apply Sm.dk<;>k_is)
  (case a5 => apply Sm.dk<;>k_is)
  (case a12 => apply Sm.dk<;>k_is)
  (case a13 => apply Sm.dk<;>k_is)
  (case a14 => apply Sm.dk<;>k_is)
  (case a15 => apply Sm.dk<;>k_is)
  (case a18 => apply Sm.dk<;>k_is)
  (case a19 => apply Sm.dk<;>k_is)
  (case a20 => apply Sm.dk<;>k_is)
  (case a21 => apply Sm.dk<;>k_is)
  (case a24 => apply Sm.dk<;>k_is)
  (case a25 => apply Sm.dk<;>k_is)
  (case a26 => apply Sm.dk<;>k_is)
  (case a27 => apply Sm.dk<;>k_is)
  (case a28 => apply Sm.dk<;>k_is)
  (case a29 => apply Sm.dk<;>k_is)
  (case a30 => apply Sm.dk<;>k_is)
  (case a31 => apply Sm.dk<;>k_is)
  (case a32 => apply Sm.dk<;>k_is)
  (case a33 => apply Sm.dk<;>k_is)
  (case a34 => apply Sm.dk<;>k_is)
  (case kk0 => constructor<;>k_is)
  (case mk0 => k_is)
  (case kc0 => k_is)
  (case nf0_0 => apply Sm.fatt;k_is)
  (case nf0_1 => apply Sm.fatt;k_is)
  (case nf0_2 => apply Sm.fatt;k_is)
  (case nf0_3 => apply Sm.fatt;k_is)
  (case nf0_4 => apply Sm.fatt;k_is)
  (case nf0_5 => apply Sm.fatt;k_is)
  (case nf0_6 => apply Sm.fatt;k_is)
  (case nf0_7 => apply Sm.fatt;k_is)
  (case z_ValueError => apply Sm.na;k_is)
  (case z_abs => apply Sm.na;k_is)
  (case z_all => apply Sm.na;k_is)
  (case z_bool => apply Sm.na;k_is)
  (case z_enumerate => apply Sm.na;k_is)
  (case z_int => apply Sm.na;k_is)
  (case z_isinstance => apply Sm.na;k_is)
  (case z_len => apply Sm.na;k_is)
  (case z_max => apply Sm.na;k_is)
  (case z_min => apply Sm.na;k_is)
  (case z_range => apply Sm.na;k_is)
  (case z_str => apply Sm.na;k_is)
  (case z_sum => apply Sm.na;k_is)
  (case e_SkeinError => apply Sm.na;k_is)
  (case e_NoText => apply Sm.na;k_is)
  (case x_NoText => apply Sm.xi;k_exc)
  (case e_NoPiece => apply Sm.na;k_is)
  (case x_NoPiece => apply Sm.xi;k_exc)
  (case e_Loose => apply Sm.na;k_is)
  (case x_Loose => apply Sm.xi;k_exc)
  (case e_Unlevel => apply Sm.na;k_is)
  (case x_Unlevel => apply Sm.xi;k_exc)
  (case e_TooLong => apply Sm.na;k_is)
  (case x_TooLong => apply Sm.xi;k_exc)
  (case e_Torn => apply Sm.na;k_is)
  (case kp_Torn => k_is)
  (case j_Torn => apply Sm.xj<;>first|k_is|kernel_rfl)
  (case e_NoLine => apply Sm.na;k_is)
  (case x_NoLine => apply Sm.xi;k_exc)
  (case m_LEAF_SIGNS => apply Sm.na;k_is)
  (case m_MOST_SIGNS => apply Sm.na;k_is)
  (case m_MOST_FIGURES => apply Sm.na;k_is)
  (case m_LEAF_WORD => apply Sm.na;k_is)
  (case y0 => apply Sm.excK_of<;>k_is)
  (case y1 => apply Sm.excK_of<;>k_is)
  (case y2 => apply Sm.excK_of<;>k_is)
  (case y3 => apply Sm.excK_of<;>k_is)
  (case y4 => apply Sm.excK_of<;>k_is)
  (case y5 => apply Sm.excK_of<;>k_is)
  (case y6 => apply Sm.excK_of<;>k_is)
  (case y7 => apply Sm.excK_of<;>k_is)
  (case kt_Loose_0 => apply Sm.ko;kit_is)
  (case kt_Loose_1 => apply Sm.ko;kit_is)
  (case kt_Loose_2 => apply Sm.ko;kit_is)
  (case kt_Loose_3 => apply Sm.ko;kit_is)
  (case kt_Loose_4 => apply Sm.ko;kit_is)
  (case kt_Loose_5 => apply Sm.ko;kit_is)
  (case kt_Loose_6 => apply Sm.ko;kit_is)
  (case kt_Loose_7 => apply Sm.ko;kit_is)
  (case kt_NoPiece_0 => apply Sm.ko;kit_is)
  (case kt_NoPiece_1 => apply Sm.ko;kit_is)
  (case kt_NoPiece_2 => apply Sm.ko;kit_is)
  (case kt_NoPiece_3 => apply Sm.ko;kit_is)
  (case kt_NoPiece_4 => apply Sm.ko;kit_is)
  (case kt_NoPiece_5 => apply Sm.ko;kit_is)
  (case kt_NoPiece_6 => apply Sm.ko;kit_is)
  (case kt_NoPiece_7 => apply Sm.ko;kit_is)
  (case kt_NoText_0 => apply Sm.ko;kit_is)
  (case kt_NoText_1 => apply Sm.ko;kit_is)
  (case kt_NoText_2 => apply Sm.ko;kit_is)
  (case kt_NoText_3 => apply Sm.ko;kit_is)
  (case kt_NoText_4 => apply Sm.ko;kit_is)
  (case kt_NoText_5 => apply Sm.ko;kit_is)
  (case kt_NoText_6 => apply Sm.ko;kit_is)
  (case kt_NoText_7 => apply Sm.ko;kit_is)
  (case kt_TooLong_0 => apply Sm.ko;kit_is)
  (case kt_TooLong_1 => apply Sm.ko;kit_is)
  (case kt_TooLong_2 => apply Sm.ko;kit_is)
  (case kt_TooLong_3 => apply Sm.ko;kit_is)
  (case kt_TooLong_4 => apply Sm.ko;kit_is)
  (case kt_TooLong_5 => apply Sm.ko;kit_is)
  (case kt_TooLong_6 => apply Sm.ko;kit_is)
  (case kt_TooLong_7 => apply Sm.ko;kit_is)
  (case kt_Torn_0 => apply Sm.ko;kit_is)
  (case kt_Torn_1 => apply Sm.ko;kit_is)
  (case kt_Torn_2 => apply Sm.ko;kit_is)
  (case kt_Torn_3 => apply Sm.ko;kit_is)
  (case kt_Torn_4 => apply Sm.ko;kit_is)
  (case kt_Torn_5 => apply Sm.ko;kit_is)
  (case kt_Torn_6 => apply Sm.ko;kit_is)
  (case kt_Torn_7 => apply Sm.ko;kit_is)
  (case kt_Unlevel_0 => apply Sm.ko;kit_is)
  (case kt_Unlevel_1 => apply Sm.ko;kit_is)
  (case kt_Unlevel_2 => apply Sm.ko;kit_is)
  (case kt_Unlevel_3 => apply Sm.ko;kit_is)
  (case kt_Unlevel_4 => apply Sm.ko;kit_is)
  (case kt_Unlevel_5 => apply Sm.ko;kit_is)
  (case kt_Unlevel_6 => apply Sm.ko;kit_is)
  (case kt_Unlevel_7 => apply Sm.ko;kit_is)
  (case kt_ValueError_0 => kit_is)
  (case kt_ValueError_1 => kit_is)
  (case kt_ValueError_2 => kit_is)
  (case kt_ValueError_3 => kit_is)
  (case kt_ValueError_4 => kit_is)
  (case kt_ValueError_5 => kit_is)
  (case kt_ValueError_6 => kit_is)
  (case kt_ValueError_7 => kit_is)
  (case gd_MARKED => apply Sm.na;k_is)
  (case gt_MARKED => kernel_rfl)
  (case gq_MARKED => kernel_rfl)
  (case em_SkeinError_0 => apply Sm.xo;kts_exm)
  (case em_SkeinError_1 => apply Sm.xo;kts_exm)
  (case em_SkeinError_2 => apply Sm.xo;kts_exm)
  (case em_SkeinError_3 => apply Sm.xo;kts_exm)
  (case em_SkeinError_4 => apply Sm.xo;kts_exm)
  (case em_SkeinError_5 => apply Sm.xo;kts_exm)
  (case em_SkeinError_6 => apply Sm.xo;kts_exm)
  (case em_SkeinError_7 => apply Sm.xo;kts_exm)
