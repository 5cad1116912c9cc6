import PyProof.Rows.All
import Wide.All
import OpenK.AllK
import Wide.FinOn
import Lean
import PyProof.EqAt
import PyProof.EqKinds
import PyProof.TupleCall
import PyProof.StrCalls2
import PyProof.SumAny
import PyProof.Rows.Range3
import PyProof.StrBlockI
import PyProof.SliceStr2
import PyProof.IsRules
import PyProof.StrBlock2
import PyProof.Seq
import PyProof.ZipIter
import PyProof.Rows.SortStr
import PyProof.Rows.SortShellK
import PyProof.StrLawsIn
import PySem.Challenge.RW_skeinwood_k80_house_refused
set_option Elab.async false
set_option genSizeOf false
set_option bootstrap.genMatcherCode false
set_option compiler.extract_closed false
set_option compiler.postponeCompile true
set_option linter.all false
set_option maxRecDepth 100000
local macro_rules|`(def$n:declId$s:optDeclSig$v:declVal)=>`(noncomputable def$n:declId$s:optDeclSig$v:declVal)
local macro_rules|`(abbrev$n:declId$s:optDeclSig$v:declVal)=>`(noncomputable abbrev$n:declId$s:optDeclSig$v:declVal)
local macro_rules|`(@[simp]def$n:declId$s:optDeclSig$v:declVal)=>`(@[simp]noncomputable def$n:declId$s:optDeclSig$v:declVal)
noncomputable section
namespace L2
open PySem PySem.Spec PyProof.Rows
abbrev Key:=Sum Int Str
def yd9 : Key -> Value -> Bool
 | .inl k,v=>Value.isInt k v
 | .inr x,v=>Value.isStrOf x v
def keyH (w : World) : Key -> Int
 | .inl k=>hashInt k
 | .inr x=>hashStr w x
theorem zay : ∀ {k : Key} {v : Value},yd9 k v = true -> (∃ i t,k = Sum.inl i /\ v = Value.int i t) \/ (∃ x t,k = Sum.inr x /\ v = Value.str x t)
 | .inl i,v,h=>by
  obtain ⟨t,e⟩:=Value.isInt_shape (k:=i) (v:=v) h
  exact .inl ⟨i,t,rfl,e⟩
 | .inr x,v,h=>by
  obtain ⟨t,e⟩:=Value.isStrOf_shape (x:=x) (v:=v) h
  exact .inr ⟨x,t,rfl,e⟩
theorem zha (i : Int) (t : Tok) : yd9 (.inl i) (.int i t) = true:=by simp [yd9,Value.isInt]
theorem zhb (x : Str) (t : Tok) : yd9 (.inr x) (.str x t) = true:=by simp [yd9,Value.isStrOf]
theorem yeJ (a b : Int) : decide ((Sum.inl a : Key) = Sum.inl b) = (a == b):=by
 by_cases e : a = b
 ·subst e; simp
 ·have h : ¬ (Sum.inl a : Key) = Sum.inl b:=λq=>e (Sum.inl.inj q)
  rw [decide_eq_false h]
  exact (beq_eq_false_iff_ne.mpr e).symm
theorem yfy (a b : Str) : decide ((Sum.inr a : Key) = Sum.inr b) = decide (a = b):=by
 by_cases e : a = b
 ·subst e; simp
 ·have h : ¬ (Sum.inr a : Key) = Sum.inr b:=λq=>e (Sum.inr.inj q)
  rw [decide_eq_false h,decide_eq_false e]
theorem yfc (a : Int) (b : Str) : decide ((Sum.inl a : Key) = Sum.inr b) = false:=decide_eq_false (λq=>nomatch q)
theorem yfd (a : Str) (b : Int) : decide ((Sum.inr a : Key) = Sum.inl b) = false:=decide_eq_false (λq=>nomatch q)
def ybR (prog : Program) (w : World) : PySem.KeyKind prog w Key where
 is:=yd9
 hash:=keyH w
 inj:=λv a b ha hb=>by
  rcases zay ha with ⟨i,t,rfl,rfl⟩ | ⟨x,t,rfl,rfl⟩
  ·rcases zay hb with ⟨j,u,rfl,e⟩ | ⟨y,u,rfl,e⟩
   ·injection e with e1 _; rw [e1]
   ·exact nomatch e
  ·rcases zay hb with ⟨j,u,rfl,e⟩ | ⟨y,u,rfl,e⟩
   ·exact nomatch e
   ·injection e with e1 _; rw [e1]
 byValue:=λk v h=>by
  rcases zay h with ⟨i,t,rfl,rfl⟩ | ⟨x,t,rfl,rfl⟩<;>rfl
 pyHash:=λhv h=>by
  rcases zay hv with ⟨i,t,rfl,rfl⟩ | ⟨x,t,rfl,rfl⟩
  ·exact wpAny_pyHash_int h
  ·exact wpAny_pyHash_str h
 eqBool:=λhu hv h=>by
  rcases zay hu with ⟨i,t,rfl,rfl⟩ | ⟨x,t,rfl,rfl⟩
  ·rcases zay hv with ⟨j,u,rfl,rfl⟩ | ⟨y,u,rfl,rfl⟩
   ·rw [yeJ] at h; exact wpAny_eqBool_int h
   ·rw [yfc] at h; exact SeqAt.EqAt.int_str i t y u _ _ _ _ h
  ·rcases zay hv with ⟨j,u,rfl,rfl⟩ | ⟨y,u,rfl,rfl⟩
   ·rw [yfd] at h; exact SeqAt.EqAt.str_int x t j u _ _ _ _ h
   ·rw [yfy] at h; exact wpAny_eqBool_str h
 «strs» := λk x t v h=>by
  rcases zay h with ⟨i,u,rfl,e⟩ | ⟨y,u,rfl,e⟩
  ·exact nomatch e
  ·injection e with e1 _
   subst e1
   cases v<;>rfl
abbrev b01 (b : Bool) : Int:=if b then 1 else 0
def ydv : Key -> Value -> Bool
 | .inl k,.bool b=>decide (k = b01 b)
 | .inl k,v=>Value.isInt k v
 | .inr x,v=>Value.isStrOf x v
theorem zat : ∀ {k : Key} {v : Value},ydv k v = true -> (∃ i t,k = Sum.inl i /\ v = Value.int i t) \/ (∃ b,k = Sum.inl (b01 b) /\ v = Value.bool b) \/ (∃ x t,k = Sum.inr x /\ v = Value.str x t)
 | .inl i,v,h=>by
  cases v with
  | bool b=>exact .inr (.inl ⟨b,by rw [of_decide_eq_true (show decide (i = b01 b) = true from h)],rfl⟩)
  | int j t =>
   obtain ⟨t,e⟩:=Value.isInt_shape (k:=i) (v:=.int j t) h
   exact .inl ⟨i,t,rfl,e⟩
  | _=>exact absurd h (by simp [ydv,Value.isInt])
 | .inr x,v,h=>by
  obtain ⟨t,e⟩:=Value.isStrOf_shape (x:=x) (v:=v) h
  exact .inr (.inr ⟨x,t,rfl,e⟩)
theorem zcI {prog : Program} {w : World} {A : Around} {E : Value -> Shared -> Prop} {s : Shared} {b : Bool} {Q : Int -> Shared -> Prop} (h : Q (hashInt (b01 b)) { s with toks:=s.toks + 1 }) :
  wpAny (model prog w) A (pyHash (.bool b)) Q E s:=by
 unfold pyHash
 unfold pyHashByItsType
 have hv : [Value.bool b].any Value.onHeap = false:=rfl
 refine wpAny_bind ?_
 rw [cRoomFor,if_neg (by rw [hv]; exact Bool.false_ne_true)]; refine wpAny_pure ?_
 refine wpAny_bind (wpAny_specialOf (PySem.typeIs_bool s b) PySem.F.slot_bool_hash.lookup ?_)
 show wpAny _ _ (if (some (Value.builtin "int.__hash__") == some Value.none) = true then _ else _) Q E s
 rw [if_neg (by rw [beq_builtin_none]; exact Bool.false_ne_true)]
 refine wpAny_bind (wpAny_specialOf (PySem.typeIs_bool s b) PySem.F.slot_bool_hash.lookup ?_)
 show wpAny _ _ (callSpecialIfBoundUnlessNone? (.bool b) "__hash__" _ >>= _) Q E s
 cases b with
 | false =>
  refine wpAny_bind (wpAny_callSpecialIfBoundUnlessNone?_slot (PySem.typeIs_bool s false) PySem.F.slot_bool_hash
   (wpAny_call_entry PySem.F.slot_bool_hash (PySem.typeIs_bool s false) entry_int_hash
    (show wpAny _ _ (do ret (<- mkInt 0)) _ _ s from wpAny_ret_mkInt ?_) (args_int_hash _)))
  exact wpAny_pure h
 | true =>
  refine wpAny_bind (wpAny_callSpecialIfBoundUnlessNone?_slot (PySem.typeIs_bool s true) PySem.F.slot_bool_hash
   (wpAny_call_entry PySem.F.slot_bool_hash (PySem.typeIs_bool s true) entry_int_hash
    (show wpAny _ _ (do ret (<- mkInt 1)) _ _ s from wpAny_ret_mkInt ?_) (args_int_hash _)))
  exact wpAny_pure h
theorem zi9 (a b : Bool) : (a == b) = decide ((Sum.inl (b01 a) : Key) = Sum.inl (b01 b)):=by cases a<;>cases b<;>decide
def yb1 (prog : Program) (w : World) : PySem.KeyKind prog w Key where
 is:=ydv
 hash:=keyH w
 inj:=λv a b ha hb=>by
  rcases zat ha with ⟨i,t,rfl,rfl⟩ | ⟨c,rfl,rfl⟩ | ⟨x,t,rfl,rfl⟩
  ·rcases zat hb with ⟨j,u,rfl,e⟩ | ⟨d,rfl,e⟩ | ⟨y,u,rfl,e⟩
   ·injection e with e1 _; rw [e1]
   ·exact nomatch e
   ·exact nomatch e
  ·rcases zat hb with ⟨j,u,rfl,e⟩ | ⟨d,rfl,e⟩ | ⟨y,u,rfl,e⟩
   ·exact nomatch e
   ·injection e with e1; rw [e1]
   ·exact nomatch e
  ·rcases zat hb with ⟨j,u,rfl,e⟩ | ⟨d,rfl,e⟩ | ⟨y,u,rfl,e⟩
   ·exact nomatch e
   ·exact nomatch e
   ·injection e with e1 _; rw [e1]
 byValue:=λk v h=>by
  rcases zat h with ⟨i,t,rfl,rfl⟩ | ⟨c,rfl,rfl⟩ | ⟨x,t,rfl,rfl⟩<;>rfl
 pyHash:=λhv h=>by
  rcases zat hv with ⟨i,t,rfl,rfl⟩ | ⟨c,rfl,rfl⟩ | ⟨x,t,rfl,rfl⟩
  ·exact wpAny_pyHash_int h
  ·exact zcI h
  ·exact wpAny_pyHash_str h
 eqBool:=λhu hv h=>by
  rcases zat hu with ⟨i,t,rfl,rfl⟩ | ⟨c,rfl,rfl⟩ | ⟨x,t,rfl,rfl⟩
  ·rcases zat hv with ⟨j,u,rfl,rfl⟩ | ⟨d,rfl,rfl⟩ | ⟨y,u,rfl,rfl⟩
   ·rw [yeJ] at h; exact wpAny_eqBool_int h
   ·rw [yeJ] at h; exact SeqAt.EqAt.int_bool i t d _ _ _ _ h
   ·rw [yfc] at h; exact SeqAt.EqAt.int_str i t y u _ _ _ _ h
  ·rcases zat hv with ⟨j,u,rfl,rfl⟩ | ⟨d,rfl,rfl⟩ | ⟨y,u,rfl,rfl⟩
   ·rw [yeJ] at h; exact SeqAt.EqAt.bool_int c j u _ _ _ _ h
   ·rw [<- zi9] at h; exact SeqAt.EqAt.bool_bool c d _ _ _ _ h
   ·rw [yfc] at h; exact SeqAt.EqAt.bool_str c y u _ _ _ _ h
  ·rcases zat hv with ⟨j,u,rfl,rfl⟩ | ⟨d,rfl,rfl⟩ | ⟨y,u,rfl,rfl⟩
   ·rw [yfd] at h; exact SeqAt.EqAt.str_int x t j u _ _ _ _ h
   ·rw [yfd] at h; exact SeqAt.EqAt.str_bool x t d _ _ _ _ h
   ·rw [yfy] at h; exact wpAny_eqBool_str h
 «strs» := λk x t v h=>by
  rcases zat h with ⟨i,u,rfl,e⟩ | ⟨d,rfl,e⟩ | ⟨y,u,rfl,e⟩
  ·exact nomatch e
  ·exact nomatch e
  ·injection e with e1 _
   subst e1
   cases v<;>rfl
theorem zeS (prog : Program) (w : World) (i : Int) (t : Tok) : (yb1 prog w).is (.inl i) (.int i t) = true:=by show ydv (.inl i) (.int i t) = true; simp [ydv,Value.isInt]
theorem zeT (prog : Program) (w : World) (x : Str) (t : Tok) : (yb1 prog w).is (.inr x) (.str x t) = true:=by show ydv (.inr x) (.str x t) = true; simp [ydv,Value.isStrOf]
theorem zgF (prog : Program) (w : World) (k : Key) (v : Value) : (ybR prog w).is k v = yd9 k v:=rfl
theorem zfC (prog : Program) (w : World) (i : Int) (t : Tok) : (ybR prog w).is (.inl i) (.int i t) = true:=zha i t
theorem zfD (prog : Program) (w : World) (x : Str) (t : Tok) : (ybR prog w).is (.inr x) (.str x t) = true:=zhb x t
inductive V where
 | non | bl (b : Bool) | int (i : Int) | str (x : Str) | byt (b : Array UInt8) | flt (b : UInt64) | ref (a : Addr) | ty (n : String)
 deriving DecidableEq
def RelV : V -> Value -> Prop
 | .non,u=>u = Value.none
 | .bl b,u=>u = Value.bool b
 | .int i,u=>∃ t,u = Value.int i t
 | .str x,u=>∃ t,u = Value.str x t
 | .byt b,u=>∃ t,u = Value.bytes b t
 | .flt b,u=>∃ t,u = Value.float b t
 | .ref a,u=>u = Value.ref a
 | .ty n,u=>u = Value.type n
abbrev Vals : List V -> List Value -> Prop:=Paired RelV
theorem Vals.length {xs : List V} {us : List Value} (r : Vals xs us) : xs.length = us.length:=Paired.length r
theorem Vals.get : ∀ {xs : List V} {us : List Value} {i : Nat} {x : V},Vals xs us -> xs[i]? = some x -> ∃ u,us[i]? = some u /\ RelV x u
 | _,_,_,_,.nil,e=>by simp at e
 | _,_,0,_,.cons r _,e=>by simp at e; subst e; exact ⟨_,rfl,r⟩
 | _,_,i + 1,x,.cons _ t,e=>by
  obtain ⟨u,h1,h2⟩:=Vals.get (i:=i) (x:=x) t (by simpa using e)
  exact ⟨u,by simpa using h1,h2⟩
theorem Vals.set {x : V} {u : Value} (r : RelV x u) : ∀ {xs : List V} {us : List Value} (i : Nat),Vals xs us -> Vals (xs.set i x) (us.set i u)
 | _,_,_,.nil=>.nil
 | _,_,0,.cons _ t=>.cons r t
 | _,_,i + 1,.cons q t=>.cons q (Vals.set r i t)
theorem Vals.append : ∀ {xs ys : List V} {us ws : List Value},Vals xs us -> Vals ys ws -> Vals (xs++ys) (us++ws)
 | _,_,_,_,.nil,s=>s
 | _,_,_,_,.cons r t,s=>.cons r (Vals.append t s)
theorem Vals.take : ∀ {xs : List V} {us : List Value} (n : Nat),Vals xs us -> Vals (xs.take n) (us.take n)
 | _,_,0,_=>.nil
 | _,_,_ + 1,.nil=>.nil
 | _,_,n + 1,.cons r t=>.cons r (Vals.take n t)
theorem Vals.drop : ∀ {xs : List V} {us : List Value} (n : Nat),Vals xs us -> Vals (xs.drop n) (us.drop n)
 | _,_,0,r=>r
 | _,_,_ + 1,.nil=>.nil
 | _,_,n + 1,.cons _ t=>Vals.drop n t
def RelO : Option V -> Option Value -> Prop
 | some v,some u=>RelV v u
 | none,none=>True
 | _,_=>False
def KV {κ : Type} : List (κ × V) -> List (κ × Value) -> Prop:=Paired λ(p : κ × V) (q : κ × Value)=>p.1 = q.1 /\ RelV p.2 q.2
def kV : Key -> V
 | .inl i=>.int i
 | .inr x=>.str x
def kOf : V -> Option Key
 | .int i=>some (.inl i)
 | .bl b=>some (.inl (b01 b))
 | .str x=>some (.inr x)
 | _=>none
theorem ygr (k : Key) : kOf (kV k) = some k:=by cases k<;>rfl
inductive HO where
 | lst (xs : List V)
 | tup (xs : List V)
 | dK (kvs : List (Key × V)) | dT (xc : Option (List Addr)) (kvs : List (List Key × V))
 | set (S : Int -> Bool) (n : Nat)
 | ins (C dx : Addr) (fs : List (Str × V))
 | own (x : Addr)
 | xd (fs : List (Str × V))
 | met (f x : Addr)
 | rng (lo hi : Int)
 | frz (o : Obj) (u : HO)
 | tbl (ps : Array Value)
 | ext (φ : Heap -> Prop)
abbrev Hp:=Addr -> Option HO
def upd (H : Hp) (a : Addr) (o : HO) : Hp:=λb=>if b = a then some o else H b
theorem zaq {H : Hp} {a : Addr} {o : HO} : upd H a o a = some o:=by unfold upd; rw [if_pos rfl]
theorem yaw {H : Hp} {a b : Addr} {o : HO} (h : b ≠ a) : upd H a o b = H b:=by unfold upd; rw [if_neg h]
theorem yhV {H : Hp} {a b : Addr} {o u : HO} (h : H a = some o) (h' : H b = some u) (d : o ≠ u) : a ≠ b:=by
 intro e; subst e; rw [h] at h'; exact d (Option.some.inj h')
theorem zan {H : Hp} {a b : Addr} {o : HO} (h : H a = some o) (h' : H b = none) : a ≠ b:=by
 intro e; subst e; rw [h] at h'; cases h'
section
variable (P : Program) (w : World)
def ObjOk (H : Hp) (h : Heap) (a : Addr) : HO -> Prop
 | .lst xs=>xs.length <= sizeLine /\ ∃ (its : List Value) (n : Nat),Vals xs its /\ h.get? a = some { cls:=.type "list",data:=.seq its.toArray n }
 | .tup xs=>xs.length <= sizeLine /\ ∃ its : List Value,Vals xs its /\ IsTup h a its.toArray
 | .dK kvs=>kvs.length <= sizeLine /\ (a == sysModules) = false /\ ∃ vs,KV kvs vs /\ h.DictOf (ybR P w) a vs
 | .dT xc kvs=>kvs.length <= sizeLine /\ (a == sysModules) = false /\ ∃ xs : List (List Key × Addr × Value),
   Paired (λ(p : List Key × V) (q : List Key × Addr × Value)=>p.1 = q.1 /\ (∃ ys,H q.2.1 = some (.tup ys) /\ ys.map kOf = p.1.map some) /\ RelV p.2 q.2.2) kvs xs /\
   ∃ o es ep,h.get? a = some o /\ o.ExactDict /\ o.data = .dict es ep /\ es.toList = xs.map (entryOfKey (tupleKind (yb1 P w))) /\ (xs.map (·.1)).Nodup /\ ep = xs.length /\ ∀ as,xc = some as -> xs.map (·.2.1) = as
 | .set S n=>h.SetOf (intKind P w) a S n
 | .ins C dx fs=>H dx = some (.own a) /\ fs.length <= 1000 /\ dx ≠ a /\ h.get? a = some (PySem.W.instObj C dx) /\
   ∃ mA,h.Ns1 dx mA /\ (∀ f,RelO (fs.lookup f) (mA f)) /\ PySem.Within mA (fs.map (·.1))
 | .own _=>∃ o,h.get? a = some o
 | .xd fs=>∃ mA,h.Ns1 a mA /\ ∀ f,RelO (fs.lookup f) (mA f)
 | .rng lo hi=>∃ t u v,h.get? a = some { cls:=.type "range",data:=.fields #[.int lo t,.int hi u,.int 1 v] }
 | .frz o u=>h.get? a = some o /\ ObjOk H h a u
 | .tbl ps=>h.get? a = some { cls:=.none,data:=.fields ps }
 | .met f x=>h.get? a = some (PySem.W.methodObj (.ref f) (.ref x))
 | .ext φ=>φ h /\ (∃ o,h.get? a = some o) /\ ∀ h1 h2 : Heap,φ h1 -> (∀ o,h1.get? a = some o -> h2.get? a = some o) -> φ h2
def HOk (H : Hp) (h : Heap) : Prop:=∀ a o,H a = some o -> ObjOk P w H h a o
end
section
variable {P : Program} {w : World} {H H' : Hp} {h h' : Heap} {a : Addr} {o : HO}
theorem ObjOk.lt (x : ObjOk P w H h a o) : a < h.objs.size:=by
 cases o with
 | lst xs=>obtain ⟨_,_,_,_,e⟩:=x; exact Heap.lt_size e
 | tup xs=>obtain ⟨_,_,_,p⟩:=x; exact p.lt
 | dK kvs=>obtain ⟨_,_,_,_,o,_,_,e,_⟩:=x; exact Heap.lt_size e
 | dT xc kvs=>obtain ⟨_,_,_,_,o,_,_,e,_⟩:=x; exact Heap.lt_size e
 | set S n=>obtain ⟨o,_,_,_,e,_⟩:=x; exact Heap.lt_size e
 | ins C dx fs=>obtain ⟨_,_,_,e,_⟩:=x; exact Heap.lt_size e
 | own y=>obtain ⟨_,e⟩:=x; exact Heap.lt_size e
 | xd fs=>obtain ⟨_,⟨_,_,_,e,_⟩,_⟩:=x; exact Heap.lt_size e
 | rng lo hi=>obtain ⟨_,_,_,e⟩:=x; exact Heap.lt_size e
 | frz ob u=>obtain ⟨e,_⟩:=x; exact Heap.lt_size e
 | tbl ps=>exact Heap.lt_size (show h.get? a = some _ from x)
 | met f y=>exact Heap.lt_size (show h.get? a = some _ from x)
 | ext φ=>obtain ⟨_,⟨_,e⟩,_⟩:=x; exact Heap.lt_size e
theorem Paired.mapP {α β : Type} {F G : α -> β -> Prop} : ∀ {l₁ : List α} {l₂ : List β},Paired F l₁ l₂ -> (∀ a b,F a b -> G a b) -> Paired G l₁ l₂
 | _,_,.nil,_=>.nil
 | _,_,.cons r t,f=>.cons (f _ _ r) (Paired.mapP t f)
theorem ObjOk.stay (x : ObjOk P w H h a o) (k : ∀ b u,(b = a \/ H b = some (.own a)) -> h.get? b = some u -> h'.get? b = some u)
  (ho : ∀ b,H b = some (.own a) -> H' b = some (.own a)) (ht : ∀ b xs,H b = some (.tup xs) -> H' b = some (.tup xs)) : ObjOk P w H' h' a o:=by
 induction o with
 | lst xs=>obtain ⟨z,its,n,r,e⟩:=x; exact ⟨z,its,n,r,k _ _ (.inl rfl) e⟩
 | tup xs=>obtain ⟨z,its,r,ob,e,c⟩:=x; exact ⟨z,its,r,ob,k _ _ (.inl rfl) e,c⟩
 | dK kvs=>obtain ⟨z,y,vs,r,ob,es,ep,e,c⟩:=x; exact ⟨z,y,vs,r,ob,es,ep,k _ _ (.inl rfl) e,c⟩
 | dT xc kvs =>
  obtain ⟨z,y,xs,r,ob,es,ep,e,c⟩:=x
  exact ⟨z,y,xs,Paired.mapP r λp q z=>⟨z.1,z.2.1.imp λ_ e=>⟨ht _ _ e.1,e.2⟩,z.2.2⟩,ob,es,ep,k _ _ (.inl rfl) e,c⟩
 | set S n=>obtain ⟨ob,es,ep,t,e,c⟩:=x; exact ⟨ob,es,ep,t,k _ _ (.inl rfl) e,c⟩
 | ins C dx fs =>
  obtain ⟨d,z,ne,e,mA,⟨od,es,ep,e2,c⟩,r⟩:=x
  exact ⟨ho _ d,z,ne,k _ _ (.inl rfl) e,mA,⟨od,es,ep,k _ _ (.inr d) e2,c⟩,r⟩
 | own y=>obtain ⟨ob,e⟩:=x; exact ⟨ob,k _ _ (.inl rfl) e⟩
 | xd fs=>obtain ⟨mA,⟨od,es,ep,e,c⟩,r⟩:=x; exact ⟨mA,⟨od,es,ep,k _ _ (.inl rfl) e,c⟩,r⟩
 | rng lo hi=>obtain ⟨t,u,v,e⟩:=x; exact ⟨t,u,v,k _ _ (.inl rfl) e⟩
 | frz ob u ih=>obtain ⟨e,q⟩:=x; exact ⟨k _ _ (.inl rfl) e,ih q⟩
 | tbl ps =>
  have e : h.get? a = some { cls:=.none,data:=.fields ps }:=x
  show h'.get? a = some { cls:=.none,data:=.fields ps }
  exact k a _ (.inl rfl) e
 | met f y =>
  have e : h.get? a = some (PySem.W.methodObj (.ref f) (.ref y)):=x
  show h'.get? a = some (PySem.W.methodObj (.ref f) (.ref y))
  exact k a _ (.inl rfl) e
 | ext φ=>obtain ⟨p,⟨o,e⟩,st⟩:=x; exact ⟨st _ _ p λo q=>k _ _ (.inl rfl) q,⟨o,k _ _ (.inl rfl) e⟩,st⟩
theorem HOk.lt (x : HOk P w H h) (e : H a = some o) : a < h.objs.size:=(x a o e).lt
theorem HOk.fresh (x : HOk P w H h) (e : h.objs.size <= a) : H a = none:=by
 cases q : H a with
 | none=>rfl
 | some u=>exact absurd (Nat.lt_of_lt_of_le (x.lt q) e) (Nat.lt_irrefl _)
theorem HOk.kept (x : HOk P w H h) (k : ∀ b u,h.get? b = some u -> h'.get? b = some u) : HOk P w H h' := λa o e =>
 (x a o e).stay (λb u _ q=>k b u q) (λ_ q=>q) λ_ _ q=>q
theorem HOk.laid (x : HOk P w H h) (k : ∀ b u,h.get? b = some u -> h'.get? b = some u) (hp : h.objs.size <= a) (new : ObjOk P w (upd H a o) h' a o) : HOk P w (upd H a o) h' := λb u e=>by
 have hn:=x.fresh hp
 by_cases hb : b = a
 ·subst hb; rw [zaq] at e; cases e; exact new
 ·rw [yaw hb] at e
  exact (x b u e).stay (λc v _ q=>k c v q) (λc q=>by rw [yaw (zan q hn)]; exact q) λc xs q=>by rw [yaw (zan q hn)]; exact q
end
def Rd (H : Hp) (a : Addr) (u : HO) : Prop:=H a = some u \/ ∃ o,H a = some (.frz o u)
theorem Rd.of {H : Hp} {a : Addr} {u : HO} (h : H a = some u) : Rd H a u:=.inl h
theorem Rd.ok {P : Program} {w : World} {H : Hp} {h : Heap} {a : Addr} {u : HO} (r : Rd H a u) (x : HOk P w H h) : ObjOk P w H h a u:=by
 rcases r with r | ⟨o,r⟩
 ·exact x a u r
 ·obtain ⟨_,q⟩:=x a _ r
  exact q
def Mut : Option HO -> Prop
 | some (.lst _)=>True
 | some (.dK _)=>True
 | some (.dT _ _)=>True
 | some (.set _ _)=>True
 | some (.ins _ _ _)=>True
 | some (.ext _)=>True
 | _=>False
section
variable {P : Program} {w : World} {H : Hp} {h h' : Heap} {x e : Addr} {o' : HO}
theorem HOk.write (ok : HOk P w H h) (mu : Mut (H x)) (he : e = x \/ H e = some (.own x)) (k : ∀ b u,b ≠ e -> h.get? b = some u -> h'.get? b = some u) (heo : ∃ u,h'.get? e = some u)
  (new : ObjOk P w (upd H x o') h' x o') : HOk P w (upd H x o') h' := λb u q=>by
 have nown : ∀ c y,H c = some (.own y) -> c ≠ x:=λc y r z=>by subst z; rw [r] at mu; exact mu
 have ntup : ∀ c xs,H c = some (.tup xs) -> c ≠ x:=λc xs r z=>by subst z; rw [r] at mu; exact mu
 by_cases hb : b = x
 ·subst hb; rw [zaq] at q; cases q; exact new
 ·rw [yaw hb] at q
  by_cases hbe : b = e
  ·have q' : H b = some (.own x):=by
    rcases he with z | z
    ·exact absurd (hbe.trans z) hb
    ·rw [hbe]; exact z
   rw [q] at q'; cases q'
   obtain ⟨v,hv⟩:=heo
   exact ⟨v,by rw [hbe]; exact hv⟩
  ·refine (ok b u q).stay (λc v hc r=>k c v ?_ r) (λc r=>by rw [yaw (nown c b r)]; exact r) λc xs r=>by rw [yaw (ntup c xs r)]; exact r
   rcases hc with rfl | hc
   ·exact hbe
   ·rintro rfl
    rcases he with z | z
    ·exact nown c b hc z
    ·rw [hc] at z; cases z; exact hb rfl
end
structure Un (fs ex : List Addr) (H H' : Hp) (h h' : Heap) : Prop where
 keep : ∀ b o,h.get? b = some o -> H b = none -> b ∉ fs -> b ∉ ex -> h'.get? b = some o
 slot : ∀ b o,h.get? b = some o -> H b = none -> b ∈ fs -> b ∉ ex -> ∃ sl,h'.get? b = some { o with slots:=sl }
 free : ∀ b o,h.get? b = some o -> H b = none -> b ∉ ex -> H' b = none
 there : ∀ b o,h.get? b = some o -> b ∉ ex -> ∃ o',h'.get? b = some o'
 tups : ∀ b xs,H b = some (.tup xs) -> H' b = some (.tup xs)
 frzs : ∀ b o u,H b = some (.frz o u) -> H' b = some (.frz o u)
 tbls : ∀ b ps,H b = some (.tbl ps) -> ∃ more,H' b = some (.tbl (ps++more))
section
variable {fs fs' ex ex' : List Addr} {H H1 H2 : Hp} {h h1 h2 h' : Heap} {a x e : Addr} {o : HO}
theorem Un.any (u : Un fs ex H H1 h h1) {b : Addr} {ob : Obj} (q : h.get? b = some ob) (n : H b = none) (hx : b ∉ ex) : ∃ sl,h1.get? b = some { ob with slots:=sl }:=by
 by_cases hb : b ∈ fs
 ·exact u.slot b ob q n hb hx
 ·exact ⟨ob.slots,u.keep b ob q n hb hx⟩
theorem Un.kept (k : ∀ b u,h.get? b = some u -> h'.get? b = some u) : Un fs ex H H h h' :=
 ⟨λb ob q _ _ _=>k b ob q,λb ob q _ _ _=>⟨ob.slots,k b ob q⟩,λ_ _ _ n _=>n,λb ob q _=>⟨ob,k b ob q⟩,λ_ _ q=>q,λ_ _ _ q=>q,λ_ ps q=>⟨#[],by rw [q]; simp⟩⟩
theorem Un.refl : Un fs ex H H h h:=Un.kept λ_ _ q=>q
theorem Un.laid (k : ∀ b u,h.get? b = some u -> h'.get? b = some u) (hp : h.objs.size <= a) (hn : H a = none) : Un fs ex H (upd H a o) h h' where
 keep:=λb u q _ _ _=>k b u q
 slot:=λb u q _ _ _=>⟨u.slots,k b u q⟩
 free:=λb u q n _=>by rw [yaw (Nat.ne_of_lt (Nat.lt_of_lt_of_le (Heap.lt_size q) hp))]; exact n
 there:=λb u q _=>⟨u,k b u q⟩
 tups:=λb xs q=>by rw [yaw (zan q hn)]; exact q
 frzs:=λb u xs q=>by rw [yaw (zan q hn)]; exact q
 tbls:=λb ps q=>⟨#[],by rw [yaw (zan q hn),q]; simp⟩
theorem Un.write (mu : Mut (H x)) (he : e = x \/ H e = some (.own x)) (k : ∀ b u,b ≠ e -> h.get? b = some u -> h'.get? b = some u) (heo : ∃ u,h'.get? e = some u) : Un fs ex H (upd H x o) h h' := by
 have hx : ∀ b,H b = none -> b ≠ x:=λb n z=>by subst z; rw [n] at mu; exact mu
 have hb : ∀ b,H b = none -> b ≠ e:=λb n z=>by
  subst z
  rcases he with r | r
  ·exact hx b n r
  ·rw [n] at r; cases r
 have hm : ∀ b u,H b = some u -> ¬ Mut (some u) -> b ≠ x:=λb u q nm z=>by subst z; rw [q] at mu; exact nm mu
 refine ⟨λb u q n _ _=>k b u (hb b n) q,λb u q n _ _=>⟨u.slots,k b u (hb b n) q⟩,λb u q n _=>by rw [yaw (hx b n)]; exact n,λb u q _=>?_,
  λb xs q=>by rw [yaw (hm b _ q λz=>z)]; exact q,λb u xs q=>by rw [yaw (hm b _ q λz=>z)]; exact q,λb ps q=>⟨#[],by rw [yaw (hm b _ q λz=>z),q]; simp⟩⟩
 by_cases hbe : b = e
 ·subst hbe; exact heo
 ·exact ⟨u,k b u hbe q⟩
end
def trk (h : Heap) (H : Hp) : List Addr:=(List.range h.objs.size).filter λa=>(H a).isSome
def hidT (h : Heap) (H : Hp) : Heap:=PySem.W.hideAll h (trk h H)
theorem zhc (h : Heap) (H : Hp) : (hidT h H).objs.size = h.objs.size:=PySem.W.hideAll_size _ _
theorem zh6 {h : Heap} {H : Hp} {b : Addr} {o : Obj} (e : h.get? b = some o) (n : H b = none) : (hidT h H).get? b = some o :=
 PySem.W.hideAll_get _ e λhm=>by
  have q : (H b).isSome = true:=(List.mem_filter.mp hm).2
  rw [n] at q; simp at q
theorem zja {h : Heap} {H : Hp} {b : Addr} {o : Obj} (e : (hidT h H).get? b = some o) : h.get? b = some o /\ H b = none:=by
 have e' : h.get? b = some o:=PySem.W.of_hideAll (trk h H) e
 refine ⟨e',?_⟩
 cases q : H b with
 | none=>rfl
 | some x =>
  have hm : b ∈ trk h H:=List.mem_filter.mpr ⟨List.mem_range.mpr (Heap.lt_size e'),by simp [q]⟩
  have z : (hidT h H).get? b = none:=PySem.W.hideAll_none (trk h H) hm
  rw [z] at e; cases e
structure Mod (K : PySem.W.Frag) (mg : Str -> Option Value) (base : Heap) : Prop where
 kin : K.In base
 glob : base.Ns mainGlobals mg
 blt : ∃ mb,base.Ns builtinsNs mb /\ ∀ x : Str,x ≠ "__name__" -> mb x = bootBuiltins x
 nolimit : base.NoLimit
structure Cx where
 prog : Program
 w : World
 K : PySem.W.Frag
 mg : Str -> Option Value
 base : Heap
 A : Around
 N : List Str
 s₀ : Shared
 H₀ : Hp
 env : Env
 outer : List Env
 stack : List Env
 ex : List Addr
 fn : Str -> Bool
 calm : Bool
 pn : List (Addr × Obj)
 xe : Value -> Shared -> Prop
def frs (l : List Env) : List Addr:=l.filterMap (·.frame)
abbrev Cx.fs (X : Cx) : List Addr:=frs X.outer
def Vis (sc : Scope) (x : Str) : Prop:=sc.names.lookup x = some .local \/ sc.names.lookup x = some .cell \/ sc.names.lookup x = some .free
def Loc (sc : Scope) (x : Str) : Prop:=sc.names.lookup x = some .local \/ sc.names.lookup x = some .cell
def Look (env : Env) (h : Heap) (m : Str -> Option Value) (x : Str) (u : Value) : Prop :=
 (env.kindOf x = some .local /\ m x = some u) \/ ((env.kindOf x = some .cell \/ env.kindOf x = some .free) /\ ∃ c,env.cells.lookup x = some c /\ h.IsCell c (some u))
structure Cx.Ok (X : Cx) : Prop where
 mod : Mod X.K X.mg X.base
 kind : X.env.scope.kind = .function
 glob : X.env.globals = mainGlobals
 blt : X.env.builtins = builtinsNs
 above : X.s₀.heap.objs.size <= X.env.locals
 inj : ∀ x y c,X.env.cells.lookup x = some c -> X.env.cells.lookup y = some c -> x = y
 has : ∀ x,(X.env.kindOf x = some .cell \/ X.env.kindOf x = some .free) -> ∃ c,X.env.cells.lookup x = some c
 cab : ∀ x c,X.fn x = true -> X.env.cells.lookup x = some c -> X.s₀.heap.objs.size <= c
 hd : X.calm = true -> X.A.handled = none
 frames : X.A.frames = some X.stack
 stk : X.stack = X.outer \/ (X.stack = X.env :: X.outer /\ X.env.frame = some X.env.locals)
 exf : ∀ b ∈ X.ex,b ≠ X.env.locals /\ ∀ x c,X.env.cells.lookup x = some c -> c ≠ b
 bs : ∀ b o,X.base.get? b = some o -> X.s₀.heap.get? b = some o /\ X.H₀ b = none
 bsz : X.base.objs.size <= X.s₀.heap.objs.size
 noex : ∀ b o,X.base.get? b = some o -> b ∉ X.ex
 exfs : ∀ b ∈ X.ex,b ∉ X.fs
 funs : X.s₀.heap.FunFrames X.base X.outer
 frf : ∀ b ∈ X.fs,X.H₀ b = none
structure Inv (X : Cx) (pins : List (Addr × Obj)) (σ : List (Option V)) (H : Hp) (s : Shared) : Prop where
 ok : X.Ok
 os : s.os = X.s₀.os
 bare : AllBare s.gens
 base : Un X.fs X.ex X.H₀ H X.s₀.heap s.heap
 loc : ∃ m,s.heap.Ns X.env.locals m /\ ∀ (i : Nat) (x : Str) (v : V),X.N[i]? = some x -> σ[i]? = some (some v) -> Vis X.env.scope x -> ∃ u,RelV v u /\ Look X.env s.heap m x u
 cell : ∀ x c,X.env.cells.lookup x = some c -> ∃ v,s.heap.IsCell c v
 free : H X.env.locals = none
 freeC : ∀ x c,X.env.cells.lookup x = some c -> H c = none
 pin : ∀ p ∈ X.pn++pins,s.heap.get? p.1 = some p.2 /\ H p.1 = none /\ p.1 ≠ X.env.locals /\ p.1 ∉ X.fs /\ ∀ v,p.2.data ≠ .cell v
 hok : HOk X.prog X.w H s.heap
 len : σ.length = X.N.length
section
variable {X : Cx} {pins : List (Addr × Obj)} {σ : List (Option V)} {H H' : Hp} {s : Shared} {h' : Heap}
theorem Cx.Ok.nofr (ok : X.Ok) {b : Addr} {o : Obj} (e : X.base.get? b = some o) : b ∉ X.fs:=λhb=>by
 have:=(ok.funs.mem hb).1
 rw [e] at this; cases this
theorem Inv.bs (I : Inv X pins σ H s) : ∀ b o,X.base.get? b = some o -> s.heap.get? b = some o /\ H b = none:=λb o e =>
 ⟨I.base.keep b o (I.ok.bs b o e).1 (I.ok.bs b o e).2 (I.ok.nofr e) (I.ok.noex b o e),I.base.free b o (I.ok.bs b o e).1 (I.ok.bs b o e).2 (I.ok.noex b o e)⟩
theorem Inv.bk (I : Inv X pins σ H s) : ∀ b o,X.base.get? b = some o -> s.heap.get? b = some o:=λb o e=>(I.bs b o e).1
theorem Inv.mod (I : Inv X pins σ H s) : Mod X.K X.mg X.base:=I.ok.mod
theorem Inv.kIn (I : Inv X pins σ H s) : X.K.In s.heap:=I.ok.mod.kin.keeps I.bk
theorem Inv.fr (I : Inv X pins σ H s) : ∃ m,Fr X.base X.env.locals s.heap m :=
 let ⟨m,hn,_⟩:=I.loc
 ⟨m,hn,I.bk,Nat.le_trans I.ok.bsz I.ok.above⟩
theorem Inv.lt (I : Inv X pins σ H s) : X.env.locals < s.heap.objs.size:=let ⟨_,hn,_⟩:=I.loc; hn.lt
theorem Inv.sz (I : Inv X pins σ H s) : X.s₀.heap.objs.size <= s.heap.objs.size:=Nat.le_trans I.ok.above (Nat.le_of_lt I.lt)
theorem Inv.nofs (I : Inv X pins σ H s) {a : Addr} (h : s.heap.objs.size <= a) : a ∉ X.fs:=λhb=>by
 obtain ⟨_,o,ho,_⟩:=I.ok.funs.mem hb
 exact absurd (Nat.lt_of_lt_of_le (Heap.lt_size ho) (Nat.le_trans I.sz h)) (Nat.lt_irrefl _)
theorem Inv.cne (I : Inv X pins σ H s) : ∀ x c,X.env.cells.lookup x = some c -> c ≠ X.env.locals:=λx c e z=>by
 obtain ⟨v,o,ho,hd⟩:=I.cell x c e
 obtain ⟨m,⟨o',es,ep,ho',hd',_⟩,_⟩:=I.loc
 rw [z,ho'] at ho; cases ho; rw [hd'] at hd; cases hd
theorem Inv.funs (I : Inv X pins σ H s) : s.heap.FunFrames X.base X.outer:=by
 have all : ∀ (l : List Env),(∀ b ∈ frs l,b ∈ X.fs) -> X.s₀.heap.FunFrames X.base l -> s.heap.FunFrames X.base l:=by
  intro l
  induction l with
  | nil=>intro _ _; trivial
  | cons env r ih =>
   intro hs hl
   obtain ⟨hk,⟨L,o,hf,hn,ho,hd⟩,hr⟩:=hl
   have hL : L ∈ X.fs:=hs L (by unfold frs; rw [List.filterMap_cons,hf]; exact List.mem_cons_self)
   obtain ⟨sl,e⟩:=I.base.slot L o ho (I.ok.frf L hL) hL λz=>I.ok.exfs L z hL
   exact ⟨hk,⟨L,_,hf,hn,e,hd⟩,ih (λb hb=>hs b (by unfold frs; rw [List.filterMap_cons,hf]; exact List.mem_cons_of_mem _ hb)) hr⟩
 exact all X.outer (λ_ hb=>hb) I.ok.funs
theorem Inv.stack (I : Inv X pins σ H s) : s.heap.FunFrames X.base X.stack:=by
 rcases I.ok.stk with e | ⟨e,hf⟩
 ·rw [e]; exact I.funs
 ·rw [e]
  obtain ⟨m,hn,_⟩:=I.loc
  refine .cons (by rw [I.ok.kind]; decide) hf hn ?_ I.funs
  exact Heap.get?_none_of_le (Nat.le_trans I.ok.bsz I.ok.above)
theorem Inv.stkSub (I : Inv X pins σ H s) : ∀ b ∈ frs X.stack,b ∈ X.env.locals :: X.fs:=λb hb=>by
 rcases I.ok.stk with e | ⟨e,hf⟩
 ·rw [e] at hb; exact List.mem_cons_of_mem _ hb
 ·rw [e] at hb
  unfold frs at hb
  rw [List.filterMap_cons,hf] at hb
  exact hb
theorem Inv.stkFree (I : Inv X pins σ H s) : ∀ b ∈ frs X.stack,H b = none:=λb hb=>by
 rcases List.mem_cons.mp (I.stkSub b hb) with e | hb
 ·rw [e]; exact I.free
 ·obtain ⟨_,o,ho,_⟩:=I.ok.funs.mem hb
  exact I.base.free b o ho (I.ok.frf b hb) λz=>I.ok.exfs b z hb
theorem Inv.step {g' : Array GenState} {t' : Nat} {d' : Drawn} {ch : List Addr} (I : Inv X pins σ H s)
  (hch : ∀ b ∈ ch,(b ∈ X.ex \/ X.s₀.heap.objs.size <= b) /\ b ≠ X.env.locals /\ (∀ x c,X.env.cells.lookup x = some c -> c ≠ b) /\ ∀ p ∈ X.pn++pins,p.1 ≠ b)
  (keep : ∀ b o,b ≠ X.env.locals -> b ∉ X.fs -> b ∉ ch -> s.heap.get? b = some o -> H b = none -> h'.get? b = some o)
  (slot : ∀ b o,b ≠ X.env.locals -> b ∈ X.fs -> b ∉ ch -> s.heap.get? b = some o -> H b = none -> ∃ sl,h'.get? b = some { o with slots:=sl }) (free : ∀ b o,b ∉ ch -> s.heap.get? b = some o -> H b = none -> H' b = none)
  (there : ∀ b o,b ∉ ch -> s.heap.get? b = some o -> ∃ o',h'.get? b = some o')
  (tups : ∀ b xs,H b = some (.tup xs) -> H' b = some (.tup xs)) (frzs : ∀ b o u,H b = some (.frz o u) -> H' b = some (.frz o u)) (tbls : ∀ b ps,H b = some (.tbl ps) -> ∃ more,H' b = some (.tbl (ps++more)))
  (ns : ∀ m,s.heap.Ns X.env.locals m -> h'.Ns X.env.locals m) (hok : HOk X.prog X.w H' h') (hg : AllBare g') :
  Inv X pins σ H' { s with heap:=h',gens:=g',drawn:=d',toks:=t' }:=by
 have neL : ∀ b o,X.s₀.heap.get? b = some o -> b ≠ X.env.locals:=λb o e=>Nat.ne_of_lt (Nat.lt_of_lt_of_le (Heap.lt_size e) I.ok.above)
 have neC : ∀ b o,X.s₀.heap.get? b = some o -> b ∉ X.ex -> b ∉ ch:=λb o e hx hb=>by
  rcases (hch b hb).1 with z | z
  ·exact hx z
  ·exact absurd (Nat.lt_of_lt_of_le (Heap.lt_size e) z) (Nat.lt_irrefl _)
 have cellK : ∀ x c,X.env.cells.lookup x = some c -> ∀ v,s.heap.IsCell c v -> h'.IsCell c v:=λx c e v ⟨o,ho,hd⟩=>by
  have nch : c ∉ ch:=λz=>(hch c z).2.2.1 x c e rfl
  by_cases hc : c ∈ X.fs
  ·obtain ⟨sl,q⟩:=slot c o (I.cne x c e) hc nch ho (I.freeC x c e)
   exact ⟨_,q,hd⟩
  ·exact ⟨o,keep c o (I.cne x c e) hc nch ho (I.freeC x c e),hd⟩
 refine ⟨I.ok,I.os,hg,⟨λb o e n hb hx=>?_,λb o e n hb hx=>?_,λb o e n hx=>?_,λb o e hx=>?_,λb xs e=>tups b xs (I.base.tups b xs e),λb o xs e=>frzs b o xs (I.base.frzs b o xs e),λb ps e=>?_⟩,?_,λx c e=>?_,?_,λx c e=>?_,λp hp=>?_,hok,I.len⟩
 ·exact keep b o (neL b o e) hb (neC b o e hx) (I.base.keep b o e n hb hx) (I.base.free b o e n hx)
 ·obtain ⟨sl,e1⟩:=I.base.slot b o e n hb hx
  obtain ⟨sl',e2⟩:=slot b _ (neL b o e) hb (neC b o e hx) e1 (I.base.free b o e n hx)
  exact ⟨sl',e2⟩
 ·obtain ⟨o',e1⟩:=I.base.there b o e hx
  exact free b o' (neC b o e hx) e1 (I.base.free b o e n hx)
 ·obtain ⟨o',e1⟩:=I.base.there b o e hx
  exact there b o' (neC b o e hx) e1
 ·obtain ⟨m1,e1⟩:=I.base.tbls b ps e
  obtain ⟨m2,e2⟩:=tbls b _ e1
  exact ⟨m1++m2,by rw [e2,Array.append_assoc]⟩
 ·obtain ⟨m,hn,hl⟩:=I.loc
  refine ⟨m,ns m hn,λi x v e1 e2 e3=>?_⟩
  obtain ⟨u,r,l⟩:=hl i x v e1 e2 e3
  refine ⟨u,r,?_⟩
  rcases l with l | ⟨k,c,e,z⟩
  ·exact .inl l
  ·exact .inr ⟨k,c,e,cellK x c e _ z⟩
 ·obtain ⟨v,z⟩:=I.cell x c e
  exact ⟨v,cellK x c e v z⟩
 ·obtain ⟨m,⟨o,_,_,ho,_⟩,_⟩:=I.loc
  exact free _ o (λz=>(hch _ z).2.1 rfl) ho I.free
 ·obtain ⟨v,o,ho,hd⟩:=I.cell x c e
  exact free c o (λz=>(hch c z).2.2.1 x c e rfl) ho (I.freeC x c e)
 ·obtain ⟨e,n,ne,nf,d⟩:=I.pin p hp
  have nch : p.1 ∉ ch:=λz=>(hch p.1 z).2.2.2 p hp rfl
  exact ⟨keep p.1 p.2 ne nf nch e n,free p.1 p.2 nch e n,ne,nf,d⟩
theorem Inv.un {t' : Nat} (I : Inv X pins σ H s) (u : Un X.fs [] H H' s.heap h') (hok : HOk X.prog X.w H' h') : Inv X pins σ H' { s with heap:=h',toks:=t' }:=by
 obtain ⟨m,⟨o,es,ep,ho,r⟩,_⟩:=id I.loc
 obtain ⟨sl,hL⟩:=u.any ho I.free (by simp)
 exact I.step (g' := s.gens) (d' := s.drawn) (ch:=[]) (λ_ z=>nomatch z) (λb o _ hb _ e n=>u.keep b o e n hb (by simp)) (λb o _ hb _ e n=>u.slot b o e n hb (by simp)) (λb o _ e n=>u.free b o e n (by simp)) (λb o _ e=>u.there b o e (by simp)) u.tups u.frzs u.tbls (λm' hm=>by
  obtain ⟨o',es',ep',ho',r'⟩:=hm
  rw [ho] at ho'; cases ho'
  exact ⟨_,es',ep',hL,r'⟩) hok I.bare
theorem Inv.call {g' : Array GenState} {t' : Nat} {d' : Drawn} {ch : List Addr} (I : Inv X pins σ H s) (u : Un (frs X.stack) ch H H' s.heap h') (hok : HOk X.prog X.w H' h') (hg : AllBare g')
  (hch : ∀ b ∈ ch,(b ∈ X.ex \/ X.s₀.heap.objs.size <= b) /\ b ≠ X.env.locals /\ (∀ x c,X.env.cells.lookup x = some c -> c ≠ b) /\ ∀ p ∈ X.pn++pins,p.1 ≠ b) :
  Inv X pins σ H' { s with heap:=h',gens:=g',drawn:=d',toks:=t' }:=by
 obtain ⟨m,⟨o,es,ep,ho,r⟩,_⟩:=id I.loc
 obtain ⟨sl,hL⟩:=u.any ho I.free λz=>(hch _ z).2.1 rfl
 exact I.step (ch:=ch) hch (λb o hL hb hc e n=>u.keep b o e n (λz=>(List.mem_cons.mp (I.stkSub b z)).elim hL hb) hc) (λb o _ _ hc e n=>u.any e n hc) (λb o hc e n=>u.free b o e n hc) (λb o hc e=>u.there b o e hc) u.tups u.frzs u.tbls (λm' hm=>by
  obtain ⟨o',es',ep',ho',r'⟩:=hm
  rw [ho] at ho'; cases ho'
  exact ⟨_,es',ep',hL,r'⟩) hok hg
theorem Inv.turned {t' : Nat} {it : Addr} (I : Inv X pins σ H s) (k : ∀ b o,b ≠ it -> s.heap.get? b = some o -> h'.get? b = some o) (hn : H it = none) (hL : it ≠ X.env.locals)
  (h1 : it ∈ X.ex \/ X.s₀.heap.objs.size <= it) (h2 : ∀ x c,X.env.cells.lookup x = some c -> c ≠ it) (h3 : ∀ p ∈ X.pn++pins,p.1 ≠ it) : Inv X pins σ H { s with heap:=h',toks:=t' }:=by
 have nit : ∀ b u,H b = some u -> b ≠ it:=λb u e z=>by rw [z,hn] at e; cases e
 refine I.step (g' := s.gens) (d' := s.drawn) (ch:=[it]) (λb hb=>?_) (λb o _ _ hc e _=>k b o (λz=>hc (by simp [z])) e) (λb o _ _ hc e _=>⟨o.slots,k b o (λz=>hc (by simp [z])) e⟩) (λ_ _ _ _ n=>n)
  (λb o hc e=>⟨o,k b o (λz=>hc (by simp [z])) e⟩) (λ_ _ e=>e) (λ_ _ _ e=>e) (λb ps e=>⟨#[],by rw [e]; simp⟩) (λm hm=>?_) (λb u e=>?_) I.bare
 ·have e : b = it:=by simpa using hb
  subst e
  exact ⟨h1,hL,h2,h3⟩
 ·obtain ⟨o,es,ep,ho,r⟩:=hm
  exact ⟨o,es,ep,k _ o (Ne.symm hL) ho,r⟩
 ·refine (I.hok b u e).stay (λc v hc q=>k c v ?_ q) (λ_ q=>q) λ_ _ q=>q
  rcases hc with z | z
  ·rw [z]; exact nit b u e
  ·exact nit c _ z
theorem Inv.tok (I : Inv X pins σ H s) (t : Nat) : Inv X pins σ H { s with toks:=t }:=I.un (h' := s.heap) (t' := t) Un.refl I.hok
theorem Inv.kept {t' : Nat} (I : Inv X pins σ H s) (k : ∀ b u,s.heap.get? b = some u -> h'.get? b = some u) : Inv X pins σ H { s with heap:=h',toks:=t' }:=I.un (Un.kept k) (I.hok.kept k)
theorem Inv.laid {a : Addr} {o : HO} {t' : Nat} (I : Inv X pins σ H s) (k : ∀ b u,s.heap.get? b = some u -> h'.get? b = some u) (hp : s.heap.objs.size <= a) (new : ObjOk X.prog X.w (upd H a o) h' a o) :
  Inv X pins σ (upd H a o) { s with heap:=h',toks:=t' }:=I.un (Un.laid k hp (I.hok.fresh hp)) (I.hok.laid k hp new)
theorem Inv.write {x e : Addr} {o : HO} {t' : Nat} (I : Inv X pins σ H s) (mu : Mut (H x)) (he : e = x \/ H e = some (.own x)) (k : ∀ b u,b ≠ e -> s.heap.get? b = some u -> h'.get? b = some u) (heo : ∃ u,h'.get? e = some u)
  (new : ObjOk X.prog X.w (upd H x o) h' x o) : Inv X pins σ (upd H x o) { s with heap:=h',toks:=t' }:=I.un (Un.write mu he k heo) (I.hok.write mu he k heo new)
theorem Inv.weak {σ' : List (Option V)} (I : Inv X pins σ H s) (hl : σ'.length = σ.length) (w : ∀ (i : Nat) v,σ'[i]? = some (some v) -> σ[i]? = some (some v)) : Inv X pins σ' H s :=
 ⟨I.ok,I.os,I.bare,I.base,let ⟨m,hn,hl'⟩:=I.loc; ⟨m,hn,λi x v e1 e2 e3=>hl' i x v e1 (w i v e2) e3⟩,I.cell,I.free,I.freeC,I.pin,I.hok,hl.trans I.len⟩
theorem Inv.pins_of {pins' : List (Addr × Obj)} (I : Inv X pins σ H s) (h : ∀ p ∈ pins',s.heap.get? p.1 = some p.2 /\ H p.1 = none /\ p.1 ≠ X.env.locals /\ p.1 ∉ X.fs /\ ∀ v,p.2.data ≠ .cell v) : Inv X pins' σ H s :=
 ⟨I.ok,I.os,I.bare,I.base,I.loc,I.cell,I.free,I.freeC,λp hp=>(List.mem_append.mp hp).elim (λz=>I.pin p (List.mem_append_left _ z)) (h p),I.hok,I.len⟩
theorem zbS {N : List Str} (hN : N.Nodup) {i j : Nat} {x : Str} (a : N[i]? = some x) (b : N[j]? = some x) : i = j:=by
 obtain ⟨h1,e1⟩:=List.getElem?_eq_some_iff.mp a
 obtain ⟨h2,e2⟩:=List.getElem?_eq_some_iff.mp b
 exact (List.getElem_inj hN).mp (e1.trans e2.symm)
theorem zd8 {M : Model} {A : Around} {E : Value -> Shared -> Prop} {i : Nat} {x : Str} {v : V} {u : Value} {Q : Unit -> Shared -> Prop} (I : Inv X pins σ H s) (hN : X.N.Nodup) (hi : X.N[i]? = some x) (hx : Loc X.env.scope x) (r : RelV v u)
  (h : ∀ s',Inv X pins (σ.set i (some v)) H s' -> (∃ a,Heap.SameBut a s.heap s'.heap /\ (a = X.env.locals \/ X.env.cells.lookup x = some a)) -> Q () s') (hf : X.fn x = true \/ X.env.scope.names.lookup x = some .local:=by first | exact .inl rfl | exact .inr rfl | assumption) : wpAny M A (storeName X.env x u) Q E s:=by
 obtain ⟨m,hn,hl⟩:=id I.loc
 have hcls : (X.env.scope.kind == .class || (X.env.scope.kind == .module && X.env.locals != X.env.globals)) = false:=by rw [I.ok.kind]; rfl
 have hiσ : i < σ.length:=by rw [I.len]; exact (List.getElem?_eq_some_iff.mp hi).1
 have cne:=I.cne
 have tracked : ∀ {a : Addr} {h' : Heap},(∃ o,s.heap.get? a = some o /\ H a = none) -> Heap.SameBut a s.heap h' -> HOk X.prog X.w H h' := λ{a h'} ha hs b ob e=>by
  obtain ⟨_,_,hfree⟩:=ha
  refine (I.hok b ob e).stay (λc w' hc q=>(hs.2 c ?_).trans q) (λ_ q=>q) λ_ _ q=>q
  rintro rfl
  rcases hc with rfl | hc
  ·rw [hfree] at e; cases e
  ·rw [hfree] at hc; cases hc
 rcases hx with hk | hk
 ·refine wpAny_storeName_local hk hn (λh' hn' hs=>?_) hcls
  obtain ⟨oL,_,_,hoL,_⟩:=id hn
  refine h _ ⟨I.ok,I.os,I.bare,⟨λb o e n hb hx=>?_,λb o e n hb hx=>?_,I.base.free,λb o e hx=>?_,I.base.tups,I.base.frzs,I.base.tbls⟩,⟨_,hn',λj y v' e1 e2 e3=>?_⟩,λy c e=>?_,I.free,I.freeC,λp hp=>?_,tracked ⟨oL,hoL,I.free⟩ hs,by simpa using I.len⟩ ⟨_,hs,.inl rfl⟩
  ·exact (hs.2 b (Nat.ne_of_lt (Nat.lt_of_lt_of_le (Heap.lt_size e) I.ok.above))).trans (I.base.keep b o e n hb hx)
  ·obtain ⟨sl,e1⟩:=I.base.slot b o e n hb hx
   exact ⟨sl,(hs.2 b (Nat.ne_of_lt (Nat.lt_of_lt_of_le (Heap.lt_size e) I.ok.above))).trans e1⟩
  ·obtain ⟨o',e1⟩:=I.base.there b o e hx
   exact ⟨o',(hs.2 b (Nat.ne_of_lt (Nat.lt_of_lt_of_le (Heap.lt_size e) I.ok.above))).trans e1⟩
  ·by_cases hj : j = i
   ·subst hj
    rw [hi] at e1; cases e1
    rw [List.getElem?_set_self hiσ] at e2
    cases e2
    exact ⟨u,r,.inl ⟨hk,by simp⟩⟩
   ·rw [List.getElem?_set_ne (Ne.symm hj)] at e2
    obtain ⟨u',r',q⟩:=hl j y v' e1 e2 e3
    refine ⟨u',r',?_⟩
    rcases q with ⟨k,e⟩ | ⟨k,c,e,z⟩
    ·refine .inl ⟨k,?_⟩
     have : y ≠ x:=λe=>hj (zbS hN e1 (e ▸ hi))
     simp [this,e]
    ·exact .inr ⟨k,c,e,z.sameBut hs (cne y c e)⟩
  ·obtain ⟨w',z⟩:=I.cell y c e
   exact ⟨w',z.sameBut hs (cne y c e)⟩
  ·obtain ⟨e,n,ne,nf,d⟩:=I.pin p hp
   exact ⟨(hs.2 p.1 ne).trans e,n,ne,nf,d⟩
 ·have hfn : X.fn x = true:=by
   rcases hf with z | z
   ·exact z
   ·rw [z] at hk; cases hk
  obtain ⟨c,hc⟩:=I.ok.has x (.inl hk)
  obtain ⟨w',z⟩:=I.cell x c hc
  refine wpAny_storeName_cell I.ok.kind hk hc z (λh' hc' hs=>?_)
  obtain ⟨oc,hoc,hocd⟩:=id z
  refine h { s with heap:=h' } ⟨I.ok,I.os,I.bare,⟨λb o e n hb hx=>?_,λb o e n hb hx=>?_,I.base.free,λb o e hx=>?_,I.base.tups,I.base.frzs,I.base.tbls⟩,⟨m,hn.sameBut hs (Ne.symm (cne x c hc)),λj y v' e1 e2 e3=>?_⟩,λy c' e=>?_,I.free,I.freeC,λp hp=>?_,tracked ⟨oc,hoc,I.freeC x c hc⟩ hs,by simpa using I.len⟩ ⟨c,hs,.inr hc⟩
  ·exact (hs.2 b (Nat.ne_of_lt (Nat.lt_of_lt_of_le (Heap.lt_size e) (I.ok.cab x c hfn hc)))).trans (I.base.keep b o e n hb hx)
  ·obtain ⟨sl,e1⟩:=I.base.slot b o e n hb hx
   exact ⟨sl,(hs.2 b (Nat.ne_of_lt (Nat.lt_of_lt_of_le (Heap.lt_size e) (I.ok.cab x c hfn hc)))).trans e1⟩
  ·obtain ⟨o',e1⟩:=I.base.there b o e hx
   exact ⟨o',(hs.2 b (Nat.ne_of_lt (Nat.lt_of_lt_of_le (Heap.lt_size e) (I.ok.cab x c hfn hc)))).trans e1⟩
  ·by_cases hj : j = i
   ·subst hj
    rw [hi] at e1; cases e1
    rw [List.getElem?_set_self hiσ] at e2
    cases e2
    exact ⟨u,r,.inr ⟨.inl hk,c,hc,hc'⟩⟩
   ·rw [List.getElem?_set_ne (Ne.symm hj)] at e2
    obtain ⟨u',r',q⟩:=hl j y v' e1 e2 e3
    refine ⟨u',r',?_⟩
    rcases q with q | ⟨k,c',e,z'⟩
    ·exact .inl q
    ·refine .inr ⟨k,c',e,z'.sameBut hs ?_⟩
     rintro rfl
     exact hj (zbS hN e1 (I.ok.inj _ _ _ e hc ▸ hi))
  ·by_cases hcc : c' = c
   ·subst hcc; exact ⟨_,hc'⟩
   ·obtain ⟨w2,z2⟩:=I.cell y c' e
    exact ⟨w2,z2.sameBut hs hcc⟩
  ·obtain ⟨e,n,ne,nf,d⟩:=I.pin p hp
   refine ⟨(hs.2 p.1 ?_).trans e,n,ne,nf,d⟩
   intro q
   rw [q,hoc] at e
   have q' : oc = p.2:=Option.some.inj e
   exact d w' (by rw [<- q']; exact hocd)
theorem zcY {M : Model} {A : Around} {E : Value -> Shared -> Prop} {i : Nat} {x : Str} {v : V} {u : Value} {Q : Unit -> Shared -> Prop} (I : Inv X pins σ H s) (hN : X.N.Nodup) (hi : X.N[i]? = some x) (hx : Loc X.env.scope x) (r : RelV v u)
  (h : ∀ s',Inv X pins (σ.set i (some v)) H s' -> Q () s') (hf : X.fn x = true \/ X.env.scope.names.lookup x = some .local:=by first | exact .inl rfl | exact .inr rfl | assumption) : wpAny M A (storeName X.env x u) Q E s :=
 zd8 I hN hi hx r (λs' I' _=>h s' I') hf
theorem Inv.call' {s' : Shared} {ch : List Addr} (I : Inv X pins σ H s) (ho : s'.os = s.os) (u : Un (frs X.stack) ch H H' s.heap s'.heap) (hok : HOk X.prog X.w H' s'.heap) (hg : AllBare s'.gens)
  (hch : ∀ b ∈ ch,(b ∈ X.ex \/ X.s₀.heap.objs.size <= b) /\ b ≠ X.env.locals /\ (∀ x c,X.env.cells.lookup x = some c -> c ≠ b) /\ ∀ p ∈ X.pn++pins,p.1 ≠ b) : Inv X pins σ H' s' := by
 obtain ⟨h',g',d',t',o'⟩:=s'
 have e : o' = s.os:=ho
 subst e
 exact I.call (g' := g') (t' := t') (d' := d') u hok hg hch
end
abbrev XK:=Value -> Option Addr -> Hp -> Prop
abbrev St:=List (Option V)
abbrev VK:=V -> Hp -> Prop
abbrev TE:=St -> Hp -> VK -> Prop
abbrev TT:=St -> Hp -> (Bool -> Hp -> Prop) -> Prop
abbrev TA:=St -> Hp -> (List V -> Hp -> Prop) -> Prop
structure Ends where
 nx : St -> Hp -> Prop
 rt : VK
 bk : St -> Hp -> Prop:=λ_ _=>False
 ct : St -> Hp -> Prop:=λ_ _=>False
abbrev TS:=Ends -> St -> Hp -> Prop
def EP (X : Cx) (pins : List (Addr × Obj)) (σ : St) (Q : VK) (u : Value) (s' : Shared) : Prop:=∃ v H',Inv X pins σ H' s' /\ RelV v u /\ Q v H'
def TP (X : Cx) (pins : List (Addr × Obj)) (σ : St) (Q : Bool -> Hp -> Prop) (b : Bool) (s' : Shared) : Prop:=∃ H',Inv X pins σ H' s' /\ Q b H'
def AP (X : Cx) (pins : List (Addr × Obj)) (σ : St) (Q : List V -> Hp -> Prop) (us : List Value) (s' : Shared) : Prop:=∃ vs H',Inv X pins σ H' s' /\ Vals vs us /\ Q vs H'
def SP (X : Cx) (pins : List (Addr × Obj)) (D : Ends) (f : Flow) (s' : Shared) : Prop :=
 match f with
 | .next=>∃ σ' H',Inv X pins σ' H' s' /\ D.nx σ' H'
 | .brk=>∃ σ' H',Inv X pins σ' H' s' /\ D.bk σ' H'
 | .cont=>∃ σ' H',Inv X pins σ' H' s' /\ D.ct σ' H'
 | .ret u=>∃ v σ' H',Inv X pins σ' H' s' /\ RelV v u /\ D.rt v H'
def PE (X : Cx) (e : Expr) (t : TE) : Prop :=
 ∀ (pins : List (Addr × Obj)) (s : Shared) (σ : St) (H : Hp) (Q : VK),Inv X pins σ H s -> t σ H Q -> wpAny (model X.prog X.w) X.A (eval e X.env) (EP X pins σ Q) X.xe s
def PT (X : Cx) (e : Expr) (t : TT) : Prop :=
 ∀ (pins : List (Addr × Obj)) (s : Shared) (σ : St) (H : Hp) (Q : Bool -> Hp -> Prop),Inv X pins σ H s -> t σ H Q -> wpAny (model X.prog X.w) X.A (isTrue e X.env (eval e X.env)) (TP X pins σ Q) X.xe s
def PW (X : Cx) (e : Expr) (t : TT) : Prop :=
 ∀ (whole : Sem Value) (pins : List (Addr × Obj)) (s : Shared) (σ : St) (H : Hp) (Q : Bool -> Hp -> Prop),Inv X pins σ H s -> t σ H Q -> wpAny (model X.prog X.w) X.A (isTrue e X.env whole) (TP X pins σ Q) X.xe s
theorem PW.pt {X : Cx} {e : Expr} {t : TT} (h : PW X e t) : PT X e t:=h _
def PA (X : Cx) (es : List Expr) (t : TA) : Prop :=
 ∀ (pos : Pos) (pins : List (Addr × Obj)) (s : Shared) (σ : St) (H : Hp) (Q : List V -> Hp -> Prop),Inv X pins σ H s -> t σ H Q -> wpAny (model X.prog X.w) X.A (spliced (backTo pos (starEach es X.env))) (AP X pins σ Q) X.xe s
def PS (X : Cx) (st : Stmt) (t : TS) : Prop :=
 ∀ (pins : List (Addr × Obj)) (s : Shared) (σ : St) (H : Hp) (D : Ends),Inv X pins σ H s -> t D σ H -> wpAny (model X.prog X.w) X.A (exec st X.env) (SP X pins D) X.xe s
def PSs (X : Cx) (st : List Stmt) (t : TS) : Prop :=
 ∀ (pins : List (Addr × Obj)) (s : Shared) (σ : St) (H : Hp) (D : Ends),Inv X pins σ H s -> t D σ H -> wpAny (model X.prog X.w) X.A (execs st X.env) (SP X pins D) X.xe s
theorem thn {α : Type} {t : Sem α} {Q Q' : α -> Shared -> Prop} {M : Model} {A : Around} {E : Value -> Shared -> Prop} {s : Shared} (h : wpAny M A t Q E s) (hQ : ∀ a s,Q a s -> Q' a s) : wpAny M A t Q' E s:=wpAny_mono h hQ λ_ _ x=>x
section
variable {X : Cx}
theorem bin {a b : Expr} {ta tb : TE} (ha : PE X a ta) (hb : PE X b tb) {pins : List (Addr × Obj)} {s : Shared} {σ : St} {H : Hp} {R : V -> V -> Hp -> Prop} (I : Inv X pins σ H s) (h : ta σ H λx H1=>tb σ H1 λy H2=>R x y H2)
  {α : Type} {Q : α -> Shared -> Prop} {f : Value -> Value -> Sem α}
  (hf : ∀ v u s2 x y H2,Inv X pins σ H2 s2 -> RelV x v -> RelV y u -> R x y H2 -> wpAny (model X.prog X.w) X.A (f v u) Q X.xe s2) :
  wpAny (model X.prog X.w) X.A (eval a X.env) (λv s₁=>wpAny (model X.prog X.w) X.A (eval b X.env) (λu s₂=>wpAny (model X.prog X.w) X.A (f v u) Q X.xe s₂) X.xe s₁) X.xe s:=by
 refine thn (ha pins s σ H _ I h) λv s1 Zz=>?_;obtain ⟨x,H1,I1,r1,q1⟩:=Zz
 refine thn (hb pins s1 σ H1 _ I1 q1) λu s2 Zz=>?_;obtain ⟨y,H2,I2,r2,q2⟩:=Zz
 exact hf v u s2 x y H2 I2 r1 r2 q2
def tVar (i : Nat) : TE:=λσ H Q=>∃ v,σ[i]? = some (some v) /\ Q v H
def tC (v : V) : TE:=λ_ H Q=>Q v H
theorem ygs {i : Nat} {x : Str} {pos : Pos} (hN : X.N[i]? = some x) (hv : Vis X.env.scope x) (hd : (x == ("__debug__" : Str)) = false:=by decide) (hcd : (x == ("__classdict__" : Str)) = false:=by decide) : PE X (.Name x pos) (tVar i):=by
 intro pins s σ H Q I h
 obtain ⟨v,e,h⟩:=h
 obtain ⟨m,hn,hl⟩:=I.loc
 obtain ⟨u,r,l⟩:=hl i x v hN e hv
 have fin : EP X pins σ Q u s:=⟨v,H,I,r,h⟩
 rcases l with ⟨hk,hm⟩ | ⟨hk,c,hc,hcell⟩
 ·exact wpAny_Name (wpAny_loadName_local I.ok.kind hk hn hm fin) hd
 ·rcases hk with hk | hk
  ·exact wpAny_Name (wpAny_loadName_cell I.ok.kind hk hc hcell fin) hd
  ·exact wpAny_Name (wpAny_loadName_free I.ok.kind hk hc hcell fin hcd) hd
theorem ygt {i j pos} : PE X (.Constant (.int i) j pos) (tC (.int i)):=λ_ _ _ H _ I h=>wpAny_Constant_int ⟨.int i,H,I.tok _,⟨_,rfl⟩,h⟩
theorem yhW {b j pos} : PE X (.Constant (.bool b) j pos) (tC (.bl b)):=λ_ _ _ H _ I h=>Constant_bool ⟨.bl b,H,I,rfl,h⟩
theorem ygu {j pos} : PE X (.Constant .none j pos) (tC .non):=λ_ _ _ H _ I h=>Constant_none ⟨.non,H,I,rfl,h⟩
theorem ygv {x j pos} : PE X (.Constant (.str x) j pos) (tC (.str x)):=λ_ _ _ H _ I h=>Calls.Constant_str ⟨.str x,H,I.tok _,⟨_,rfl⟩,h⟩
def Gl (X : Cx) (x : Str) : Prop:=X.env.kindOf x = some .globalImplicit
theorem zbF {E : Value -> Shared -> Prop} {pins : List (Addr × Obj)} {s : Shared} {σ : St} {H : Hp} {x : Str} {u : Value} {pos : Pos} {Q : Value -> Shared -> Prop} (I : Inv X pins σ H s) (hg : Gl X x) (hm : X.mg x = some u) (h : Q u s)
  (hd : (x == ("__debug__" : Str)) = false:=by decide) : wpAny (model X.prog X.w) X.A (eval (.Name x pos) X.env) Q E s :=
 Calls.Name_function_global I.ok.kind hg (Calls.loadGlobal_global (by rw [I.ok.glob]; exact I.mod.glob.keeps I.bk) hm h) hd
theorem yeo {E : Value -> Shared -> Prop} {pins : List (Addr × Obj)} {s : Shared} {σ : St} {H : Hp} {x : Str} {u : Value} {pos : Pos} {Q : Value -> Shared -> Prop} (I : Inv X pins σ H s) (hg : Gl X x) (hm : X.mg x = none) (hv : bootBuiltins x = some u) (h : Q u s)
  (hn : x ≠ "__name__" := by decide) (hd : (x == ("__debug__" : Str)) = false:=by decide) : wpAny (model X.prog X.w) X.A (eval (.Name x pos) X.env) Q E s:=by
 obtain ⟨mb,h1,h2⟩:=I.mod.blt
 exact Calls.Name_function_global I.ok.kind hg (Calls.loadGlobal_builtin (by rw [I.ok.glob]; exact I.mod.glob.keeps I.bk) hm (by rw [I.ok.blt]; exact h1.keeps I.bk) ((h2 x hn).trans hv) h) hd
theorem zf0 {x : Str} {v : V} {u : Value} {pos : Pos} (hg : Gl X x) (hm : X.mg x = some u) (r : RelV v u) (hd : (x == ("__debug__" : Str)) = false:=by decide) : PE X (.Name x pos) (tC v) :=
 λ_ _ _ H _ I h=>zbF I hg hm ⟨v,H,I,r,h⟩ hd
theorem zf1 {x : Str} {v : V} {u : Value} {pos : Pos} (hg : Gl X x) (hm : X.mg x = none) (hv : bootBuiltins x = some u) (r : RelV v u) (hn : x ≠ "__name__" := by decide) (hd : (x == ("__debug__" : Str)) = false:=by decide) : PE X (.Name x pos) (tC v) :=
 λ_ _ _ H _ I h=>yeo I hg hm hv ⟨v,H,I,r,h⟩ hn hd
variable {a b : Expr} {ta tb : TE} {pos : Pos}
variable {tA tB' : TT} {rest : List Expr}
def tAnd (t u : TT) : TT:=λσ H Q=>t σ H λc H1=>if c = true then u σ H1 Q else Q false H1
def tOr (t u : TT) : TT:=λσ H Q=>t σ H λc H1=>if c = true then Q true H1 else u σ H1 Q
def tNot (t : TT) : TT:=λσ H Q=>t σ H λc H1=>Q (!c) H1
theorem zjb (ha : PT X a tA) : PW X (.BoolOp .And [a] pos) tA:=by
 intro wh pins s σ H Q I h
 refine isTrue_and (thn (ha pins s σ H Q I h) λc s1 e=>?_)
 cases c with
 | true=>exact isTrue_and_nil e
 | false=>exact e
theorem ygw (ha : PT X a tA) : PW X (.BoolOp .Or [a] pos) tA:=by
 intro wh pins s σ H Q I h
 refine isTrue_or (thn (ha pins s σ H Q I h) λc s1 e=>?_)
 cases c with
 | false=>exact isTrue_or_nil e
 | true=>exact e
theorem ygx (ha : PT X a tA) (hb : PW X (.BoolOp .And (b :: rest) pos) tB') : PW X (.BoolOp .And (a :: b :: rest) pos) (tAnd tA tB'):=by
 intro wh pins s σ H Q I h
 refine isTrue_and (thn (ha pins s σ H _ I h) λc s1 Zz=>?_);obtain ⟨H1,I1,q1⟩:=Zz
 cases c with
 | true=>exact hb wh pins s1 σ H1 Q I1 q1
 | false=>exact ⟨H1,I1,q1⟩
theorem yhX (ha : PT X a tA) (hb : PW X (.BoolOp .Or (b :: rest) pos) tB') : PW X (.BoolOp .Or (a :: b :: rest) pos) (tOr tA tB'):=by
 intro wh pins s σ H Q I h
 refine isTrue_or (thn (ha pins s σ H _ I h) λc s1 Zz=>?_);obtain ⟨H1,I1,q1⟩:=Zz
 cases c with
 | true=>exact ⟨H1,I1,q1⟩
 | false=>exact hb wh pins s1 σ H1 Q I1 q1
theorem ygy (ha : PT X a tA) : PT X (.UnaryOp .Not a pos) (tNot tA):=by
 intro pins s σ H Q I h
 exact isTrue_not (ha pins s σ H (λc H1=>Q (!c) H1) I h)
def yhY (ta tb : TE) : TE:=λσ H Q=>ta σ H λx H1=>∃ c,x = .bl c /\ if c = true then tb σ H1 Q else Q (.bl false) H1
def tOrV (ta tb : TE) : TE:=λσ H Q=>ta σ H λx H1=>∃ c,x = .bl c /\ if c = true then Q (.bl true) H1 else tb σ H1 Q
def yhZ (ta : TE) : TE:=λσ H Q=>ta σ H λx H1=>∃ c,x = .bl c /\ Q (.bl (!c)) H1
theorem ygz {op} {t : TE} (h : PE X a t) : PE X (.BoolOp op [a] pos) t:=λpins s σ H Q I hw=>BoolOp_one (h pins s σ H Q I hw)
theorem ygA (ha : PE X a ta) (hb : PE X (.BoolOp .And (b :: rest) pos) tb) : PE X (.BoolOp .And (a :: b :: rest) pos) (yhY ta tb):=by
 intro pins s σ H Q I h
 refine BoolOp_and (thn (ha pins s σ H _ I h) λv s1 Zz=>?_);obtain ⟨x,H1,I1,r1,q1⟩:=Zz
 obtain ⟨c,rfl,q1⟩:=q1
 cases r1
 refine wpAny_truthy_bool ?_
 cases c with
 | true=>exact hb pins s1 σ H1 Q I1 q1
 | false=>exact ⟨.bl false,H1,I1,rfl,q1⟩
theorem yh0 (ha : PE X a ta) (hb : PE X (.BoolOp .Or (b :: rest) pos) tb) : PE X (.BoolOp .Or (a :: b :: rest) pos) (tOrV ta tb):=by
 intro pins s σ H Q I h
 refine BoolOp_or (thn (ha pins s σ H _ I h) λv s1 Zz=>?_);obtain ⟨x,H1,I1,r1,q1⟩:=Zz
 obtain ⟨c,rfl,q1⟩:=q1
 cases r1
 refine wpAny_truthy_bool ?_
 cases c with
 | false=>exact hb pins s1 σ H1 Q I1 q1
 | true=>exact ⟨.bl true,H1,I1,rfl,q1⟩
theorem ygB (ha : PE X a ta) : PE X (.UnaryOp .Not a pos) (yhZ ta):=by
 intro pins s σ H Q I h
 refine UnaryOp_ (thn (ha pins s σ H _ I h) λv s1 Zz=>?_);obtain ⟨x,H1,I1,r1,q1⟩:=Zz
 obtain ⟨c,rfl,q1⟩:=q1
 cases r1
 exact not_of (wpAny_truthy_bool ⟨.bl (!c),H1,I1,rfl,q1⟩)
end
def SqL (K : PySem.W.Frag) (H : Hp) (a : Addr) (xs : List V) : Prop :=
 Rd H a (.lst xs) \/
  ∃ (o : Obj) (its : Array Value) (n : Nat),K.lookup a = some o /\ o.cls = .type "list" /\ o.dict = none /\ o.data = .seq its n /\ its.size <= sizeLine /\ Vals xs its.toList
def SqT (K : PySem.W.Frag) (H : Hp) (a : Addr) (xs : List V) : Prop :=
 Rd H a (.tup xs) \/
  ∃ (o : Obj) (its : Array Value) (n : Nat),K.lookup a = some o /\ o.cls = .type "tuple" /\ o.data = .seq its n /\ its.size <= sizeLine /\ Vals xs its.toList
def absV : Value -> Option V
 | .none=>some .non
 | .bool b=>some (.bl b)
 | .int i _=>some (.int i)
 | .str x _=>some (.str x)
 | .bytes b _=>some (.byt b)
 | .float b _=>some (.flt b)
 | .ref a=>some (.ref a)
 | .type n=>some (.ty n)
 | _=>none
theorem RelV.abs {x : V} {u : Value} (r : RelV x u) : absV u = some x:=by
 cases x with
 | non=>cases r; rfl
 | bl _=>cases r; rfl
 | int _=>obtain ⟨t,rfl⟩:=r; rfl
 | str _=>obtain ⟨t,rfl⟩:=r; rfl
 | byt _=>obtain ⟨t,rfl⟩:=r; rfl
 | flt _=>obtain ⟨t,rfl⟩:=r; rfl
 | ref _=>cases r; rfl
 | ty _=>cases r; rfl
theorem RelV.inj {x y : V} {u : Value} (r : RelV x u) (q : RelV y u) : x = y:=Option.some.inj (r.abs.symm.trans q.abs)
theorem Vals.inj : ∀ {xs ys : List V} {us : List Value},Vals xs us -> Vals ys us -> xs = ys
 | _,_,_,.nil,.nil=>rfl
 | _,_,_,.cons r t,.cons r' t' => by rw [r.inj r',Vals.inj t t']
section
variable {X : Cx} {pins : List (Addr × Obj)} {σ : St} {H : Hp} {s : Shared} {a : Addr} {xs ys : List V}
theorem SqL.of {K : PySem.W.Frag} (h : H a = some (.lst xs)) : SqL K H a xs:=.inl (.inl h)
theorem SqT.of {K : PySem.W.Frag} (h : H a = some (.tup xs)) : SqT K H a xs:=.inl (.inl h)
theorem Inv.list (I : Inv X pins σ H s) (h : SqL X.K H a xs) : ∃ its : List Value,Vals xs its /\ PlainL s.heap a its.toArray /\ xs.length <= sizeLine:=by
 rcases h with h | ⟨o,its,n,hk,hc,hd,hs,hz,r⟩
 ·obtain ⟨z,its,n,r,e⟩:=h.ok I.hok
  exact ⟨its,r,⟨_,n,e,rfl,rfl,rfl⟩,z⟩
 ·refine ⟨its.toList,r,⟨o,n,I.kIn a o hk,hc,hd,by simpa using hs⟩,?_⟩
  have e:=r.length
  simp only [Array.length_toList] at e
  lia
theorem Inv.tuple (I : Inv X pins σ H s) (h : SqT X.K H a xs) : ∃ its : List Value,Vals xs its /\ IsTup s.heap a its.toArray /\ xs.length <= sizeLine:=by
 rcases h with h | ⟨o,its,n,hk,hc,hs,hz,r⟩
 ·obtain ⟨z,its,r,p⟩:=h.ok I.hok
  exact ⟨its,r,p,z⟩
 ·refine ⟨its.toList,r,⟨o,I.kIn a o hk,hc,n,by simpa using hs⟩,?_⟩
  have e:=r.length
  simp only [Array.length_toList] at e
  lia
theorem Inv.list_inj (I : Inv X pins σ H s) (h : SqL X.K H a xs) (h' : SqL X.K H a ys) : xs = ys:=by
 obtain ⟨its,r,⟨o,n,e,_,_,d⟩,_⟩:=I.list h
 obtain ⟨its',r',⟨o',n',e',_,_,d'⟩,_⟩:=I.list h'
 rw [e] at e'; cases e'
 rw [d] at d'
 injection d' with d1 _
 have : its = its' := by simpa using congrArg Array.toList d1
 subst this
 exact r.inj r'
theorem Inv.tuple_inj (I : Inv X pins σ H s) (h : SqT X.K H a xs) (h' : SqT X.K H a ys) : xs = ys:=by
 obtain ⟨its,r,⟨o,e,_,n,d⟩,_⟩:=I.tuple h
 obtain ⟨its',r',⟨o',e',_,n',d'⟩,_⟩:=I.tuple h'
 rw [e] at e'; cases e'
 rw [d] at d'
 injection d' with d1 _
 have : its = its' := by simpa using congrArg Array.toList d1
 subst this
 exact r.inj r'
end
abbrev Cx.wish (X : Cx) (E : Value -> Shared -> Prop) : Cx:={ X with xe:=E }
abbrev Cx.nox (X : Cx) : Cx:=X.wish λ_ _=>False
theorem Cx.Ok.wish {X : Cx} (ok : X.Ok) (E : Value -> Shared -> Prop) : (X.wish E).Ok :=
 ⟨ok.mod,ok.kind,ok.glob,ok.blt,ok.above,ok.inj,ok.has,ok.cab,ok.hd,ok.frames,ok.stk,ok.exf,ok.bs,ok.bsz,ok.noex,ok.exfs,ok.funs,ok.frf⟩
theorem Cx.Ok.unwish {X : Cx} {E : Value -> Shared -> Prop} (ok : (X.wish E).Ok) : X.Ok :=
 ⟨ok.mod,ok.kind,ok.glob,ok.blt,ok.above,ok.inj,ok.has,ok.cab,ok.hd,ok.frames,ok.stk,ok.exf,ok.bs,ok.bsz,ok.noex,ok.exfs,ok.funs,ok.frf⟩
section
variable {X : Cx} {pins : List (Addr × Obj)} {σ : St} {H : Hp} {s : Shared} {E : Value -> Shared -> Prop}
theorem Inv.wish (I : Inv X pins σ H s) (E : Value -> Shared -> Prop) : Inv (X.wish E) pins σ H s:=⟨I.ok.wish E,I.os,I.bare,I.base,I.loc,I.cell,I.free,I.freeC,I.pin,I.hok,I.len⟩
theorem Inv.unwish (I : Inv (X.wish E) pins σ H s) : Inv X pins σ H s:=⟨I.ok.unwish,I.os,I.bare,I.base,I.loc,I.cell,I.free,I.freeC,I.pin,I.hok,I.len⟩
theorem SP.unwish {D : Ends} {f : Flow} {s' : Shared} (h : SP (X.wish E) pins D f s') : SP X pins D f s' := by
 cases f with
 | next=>obtain ⟨σ',H',I,q⟩:=h; exact ⟨σ',H',I.unwish,q⟩
 | brk=>obtain ⟨σ',H',I,q⟩:=h; exact ⟨σ',H',I.unwish,q⟩
 | cont=>obtain ⟨σ',H',I,q⟩:=h; exact ⟨σ',H',I.unwish,q⟩
 | ret u=>obtain ⟨v,σ',H',I,r,q⟩:=h; exact ⟨v,σ',H',I.unwish,r,q⟩
end
section
variable {X : Cx} {st : Stmt} {rest : List Stmt} {t u : TS} {e : Expr} {te : TE} {pos : Pos}
def yh1 : TS:=λD σ H=>D.nx σ H
def tSeq (t u : TS) : TS:=λD σ H=>t { D with nx:=u D } σ H
theorem zjc : PSs X [] yh1:=λ_ _ σ H _ I h=>wpAny_execs_nil ⟨σ,H,I,h⟩
theorem zh7 (h1 : PS X st t) (h2 : PSs X rest u) : PSs X (st :: rest) (tSeq t u):=by
 intro pins s σ H D I h
 refine wpAny_execs_cons (thn (h1 pins s σ H { D with nx:=u D } I h) λf s1 q=>?_)
 cases f with
 | next =>
  obtain ⟨σ',H',I',q⟩:=q
  exact h2 pins s1 σ' H' D I' q
 | ret v=>exact q
 | brk=>exact q
 | cont=>exact q
theorem zjd (h1 : PS X st t) : PSs X [st] t:=by
 intro pins s σ H D I h
 refine wpAny_execs_cons (thn (h1 pins s σ H D I h) λf s1 q=>?_)
 cases f with
 | next=>exact wpAny_execs_nil q
 | ret v=>exact q
 | brk=>exact q
 | cont=>exact q
theorem Inv.quiet {pins : List (Addr × Obj)} {σ : St} {H : Hp} {s : Shared} (I : Inv X pins σ H s) : interactive X.env = false:=by simp [interactive,I.ok.kind]
def yh2 (te : TE) : TS:=λD σ H=>te σ H λ_ H1=>D.nx σ H1
theorem zje (he : PE X e te) (hs : swapsWith e none pos.line X.env = pure false:=by rfl) : PS X (.Expr e pos) (yh2 te):=by
 intro pins s σ H D I h
 exact wpAny_Expr_any (thn (he pins s σ H _ I h) λv s1 ⟨x,H1,I1,r1,q1⟩=>⟨σ,H1,I1,q1⟩) I.quiet hs
def tRet (te : TE) : TS:=λD σ H=>te σ H D.rt
theorem ygC (he : PE X e te) : PS X (.Return (some e) pos) (tRet te):=by
 intro pins s σ H D I h
 exact wpAny_Return_some (thn (he pins s σ H _ I h) λv s1 ⟨x,H1,I1,r1,q1⟩=>⟨x,σ,H1,I1,r1,q1⟩)
def tIfS (c : TT) (t u : TS) : TS:=λD σ H=>c σ H λb H1=>if b = true then t D σ H1 else u D σ H1
theorem yh3 {c : Expr} {a b : List Stmt} {tc : TT} (hc : PT X c tc) (ha : PSs X a t) (hb : PSs X b u) : PS X (.If c a b pos) (tIfS tc t u):=by
 intro pins s σ H D I h
 refine wpAny_If (thn (hc pins s σ H _ I h) λd s1 Zz=>?_);obtain ⟨H1,I1,q1⟩:=Zz
 cases d with
 | true=>exact ha pins s1 σ H1 D I1 q1
 | false=>exact hb pins s1 σ H1 D I1 q1
end
abbrev TG:=V -> St -> Hp -> (St -> Hp -> Prop) -> Prop
abbrev TGs:=List V -> St -> Hp -> (St -> Hp -> Prop) -> Prop
def PG (X : Cx) (target : Expr) (t : TG) : Prop :=
 ∀ (pins : List (Addr × Obj)) (s : Shared) (σ : St) (H : Hp) (v : V) (u : Value) (Q : St -> Hp -> Prop),Inv X pins σ H s -> RelV v u -> t v σ H Q ->
  wpAny (model X.prog X.w) X.A (assign target X.env u) (λ_ s' => ∃ σ' H',Inv X pins σ' H' s' /\ Q σ' H') X.xe s
def PGs (X : Cx) (ts : List Expr) (t : TGs) : Prop :=
 ∀ (pins : List (Addr × Obj)) (s : Shared) (σ : St) (H : Hp) (vs : List V) (us : List Value) (Q : St -> Hp -> Prop),Inv X pins σ H s -> Vals vs us -> t vs σ H Q ->
  wpAny (model X.prog X.w) X.A (assignInOrder ((assignEach ts X.env).map (·.2)) us) (λ_ s' => ∃ σ' H',Inv X pins σ' H' s' /\ Q σ' H') X.xe s
abbrev TSet:=V -> V -> V -> Hp -> (Hp -> Prop) -> Prop
def PSet (X : Cx) (t : TSet) : Prop :=
 ∀ (pins : List (Addr × Obj)) (s : Shared) (σ : St) (H : Hp) (o i v : V) (ov iv u : Value) (Q : Hp -> Prop),Inv X pins σ H s -> RelV o ov -> RelV i iv -> RelV v u -> t o i v H Q ->
  wpAny (model X.prog X.w) X.A (setItem ov iv u) (λ_ s' => ∃ H',Inv X pins σ H' s' /\ Q H') X.xe s
section
variable {X : Cx} {pos : Pos}
def yex (i : Nat) : TG:=λv σ H Q=>Q (σ.set i (some v)) H
theorem zdL {i : Nat} {x : Str} (hN : X.N.Nodup) (hi : X.N[i]? = some x) (hx : Loc X.env.scope x) (hf : X.fn x = true \/ X.env.scope.names.lookup x = some .local:=by first | exact .inl rfl | exact .inr rfl | assumption) : PG X (.Name x pos) (yex i):=by
 intro pins s σ H v u Q I r h
 exact wpAny_assign_Name (zcY I hN hi hx r (λs' I' => ⟨_,H,I',h⟩) hf)
def gNil : TGs:=λvs σ H Q=>vs = [] /\ Q σ H
def yh4 (t : TG) (u : TGs) : TGs:=λvs σ H Q=>∃ v r,vs = v :: r /\ t v σ H λσ' H' => u r σ' H' Q
theorem zjf : PGs X [] gNil:=by
 intro pins s σ H vs us Q I r h
 obtain ⟨e,h⟩:=h
 subst e
 cases r
 exact assignInOrder_nil ⟨σ,H,I,h⟩
theorem zh8 {e : Expr} {es : List Expr} {t : TG} {u : TGs} (h1 : PG X e t) (h2 : PGs X es u)
  (hs : (assignEach (e :: es) X.env).map (·.2) = assign e X.env :: (assignEach es X.env).map (·.2):=by rfl) : PGs X (e :: es) (yh4 t u):=by
 intro pins s σ H vs us Q I r h
 obtain ⟨v,vr,e1,h⟩:=h
 subst e1
 cases r with
 | cons r rr =>
  rw [hs]
  refine assignInOrder_cons (thn (h1 pins s σ H _ _ _ I r h) λ_ s1 Zz=>?_);obtain ⟨σ1,H1,I1,q1⟩:=Zz
  exact h2 pins s1 σ1 H1 _ _ Q I1 rr q1
def gTup (K : PySem.W.Frag) (n : Nat) (t : TGs) : TG:=λv σ H Q=>∃ a xs,v = .ref a /\ SqT K H a xs /\ xs.length = n /\ t xs σ H Q
theorem ygD {es : List Expr} {k : Nat} {t : TGs} {n : Nat} (hc : X.calm = true) (h : PGs X es t)
  (hn : (assignEach es X.env).length = n:=by rfl) (hst : (assignEach es X.env).findIdx? (·.1) = none:=by rfl) : PG X (.Tuple es k pos) (gTup X.K n t):=by
 intro pins s σ H v u Q I r hw
 obtain ⟨a,xs,e1,hq,hl,hw⟩:=hw
 subst e1
 cases r
 obtain ⟨its,rv,ht,hz⟩:=I.tuple hq
 refine assign_Tuple_tuple (I.ok.hd hc) ht (by simp [hn,<- hl,rv.length]) hst λh' hx=>?_
 have I1 : Inv X pins σ H { s with heap:=h' }:=I.kept (t' := s.toks) λb o e=>hx b o (Nat.ne_of_lt (Heap.lt_size e)) e
 exact h pins _ σ H xs _ Q I1 (by simpa using rv) hw
def gSub (to ti : TE) (t : TSet) : TG:=λv σ H Q=>to σ H λo H1=>ti σ H1 λi H2=>t o i v H2 λH3=>Q σ H3
theorem ygE {o i : Expr} {to ti : TE} {t : TSet} (ho : PE X o to) (hi : PE X i ti) (hs : PSet X t)
  (ha : ∀ v,assign (.Subscript o i pos) X.env v = (do
   let ov <- holding [v] (eval o X.env)
   let iv <- holding [v,ov] (eval i X.env)
   standAt pos
   holding [v,ov,iv] (setItem ov iv v)
   release [v,ov,iv] []):=by intro _; rfl) : PG X (.Subscript o i pos) (gSub to ti t):=by
 intro pins s σ H v u Q I r h
 rw [ha]
 refine wpAny_bind (wpAny_holding (thn (ho pins s σ H _ I h) λov s1 Zz=>?_));obtain ⟨x,H1,I1,r1,q1⟩:=Zz
 refine wpAny_bind (wpAny_holding (thn (hi pins s1 σ H1 _ I1 q1) λiv s2 Zz=>?_));obtain ⟨y,H2,I2,r2,q2⟩:=Zz
 refine wpAny_bind (wpAny_standAt (wpAny_bind (wpAny_holding (thn (hs pins s2 σ H2 x y v ov iv u _ I2 r1 r2 r q2) λ_ s3 Zz=>?_))));obtain ⟨H3,I3,q3⟩:=Zz
 exact wpAny_release ⟨σ,H3,I3,q3⟩
def tAsg (te : TE) (g : TG) : TS:=λD σ H=>te σ H λx H1=>g x σ H1 D.nx
theorem ygF {tg e : Expr} {te : TE} {g : TG} (he : PE X e te) (hg : PG X tg g) (hs : swapsWithSole [tg] e pos.line X.env = pure false:=by rfl) (hw : swappedStores [tg] e X.env = pure none:=by rfl)
  (h1 : (assignEach [tg] X.env).map (·.2) = [assign tg X.env]:=by rfl) : PS X (.Assign [tg] e pos) (tAsg te g):=by
 intro pins s σ H D I h
 refine wpAny_Assign_stores (thn (he pins s σ H _ I h) λv s1 Zz=>?_) hs hw;obtain ⟨x,H1,I1,r1,q1⟩:=Zz
 rw [h1]
 exact thn (hg pins s1 σ H1 x v _ I1 r1 q1) λ_ s2 q=>q
theorem ygG {i : Nat} {x : Str} {e : Expr} {te : TE} {pos' : Pos} (hN : X.N.Nodup) (hi : X.N[i]? = some x) (hx : Loc X.env.scope x) (he : PE X e te) (hs : swapsWith e (some (.Name x pos')) pos.line X.env = pure false:=by rfl) (hf : X.fn x = true \/ X.env.scope.names.lookup x = some .local:=by first | exact .inl rfl | exact .inr rfl | assumption) :
  PS X (.Assign [.Name x pos'] e pos) (tAsg te (yex i)):=by
 intro pins s σ H D I h
 refine wpAny_Assign_Name (thn (he pins s σ H _ I h) λv s1 Zz=>?_) hs;obtain ⟨y,H1,I1,r1,q1⟩:=Zz
 exact zcY I1 hN hi hx r1 (λs2 I2=>⟨_,H1,I2,q1⟩) hf
end
section
variable {X : Cx} {pos : Pos}
end
structure It where
 go : Nat -> Hp -> Prop
 yld : Nat -> Hp -> V -> Hp -> Prop
 stop : Nat -> Hp -> Prop
def FpOk (X : Cx) (pins : List (Addr × Obj)) (H : Hp) (b : Addr) : Prop :=
 H b = none /\ b ≠ X.env.locals /\ b ∉ X.fs /\ (b ∈ X.ex \/ X.s₀.heap.objs.size <= b) /\ (∀ x c,X.env.cells.lookup x = some c -> c ≠ b) /\ ∀ p ∈ X.pn++pins,p.1 ≠ b
theorem Inv.fpOk {X : Cx} {pins : List (Addr × Obj)} {σ : St} {H H' : Hp} {s : Shared} {b : Addr} (I : Inv X pins σ H s) (hb : s.heap.objs.size <= b) (hn : H' b = none) : FpOk X pins H' b:=by
 refine ⟨hn,Nat.ne_of_gt (Nat.lt_of_lt_of_le I.lt hb),I.nofs hb,.inr (Nat.le_trans I.sz hb),λx c e z=>?_,λp hp z=>?_⟩
 ·obtain ⟨v,q⟩:=I.cell x c e
  exact absurd (Nat.lt_of_lt_of_le q.lt (by rw [z]; exact hb)) (Nat.lt_irrefl _)
 ·exact absurd (Nat.lt_of_lt_of_le (Heap.lt_size (I.pin p hp).1) (by rw [z]; exact hb)) (Nat.lt_irrefl _)
structure Turn (P : Program) (w : World) (K : PySem.W.Frag) (tg : Expr) (J : It) (fp : List Addr) (it : Addr) (tn : Nat -> Heap -> Prop) : Prop where
 mem : it ∈ fp
 obj : ∀ i h,tn i h -> ∀ b ∈ fp,∃ o,h.get? b = some o /\ ∀ v,o.data ≠ .cell v
 keep : ∀ i h h',tn i h -> (∀ b ∈ fp,∀ o,h.get? b = some o -> h'.get? b = some o) -> tn i h'
 item : ∀ (X : Cx),X.prog = P -> X.w = w -> X.K = K -> X.calm = true -> ∀ (i : Nat) (pins : List (Addr × Obj)) (s : Shared) (σ : St) (H : Hp) (E : Value -> Shared -> Prop),Inv X pins σ H s -> (∀ b ∈ fp,FpOk X pins H b) -> tn i s.heap -> J.go i H ->
  wpAny (model P w) X.A (pyNext (.ref it)) (λr s1=>∃ u,r = some u /\
   wpAny (model P w) X.A (letOwnedTupleGo tg (.ref it) u) (λ_ s2=>∃ x H',Inv X pins σ H' s2 /\ RelV x u /\ J.yld i H x H' /\ tn (i + 1) s2.heap /\ ∀ b ∈ fp,H' b = none) E s1) E s
 done : ∀ (X : Cx),X.prog = P -> X.w = w -> X.K = K -> X.calm = true -> ∀ (i : Nat) (pins : List (Addr × Obj)) (s : Shared) (σ : St) (H : Hp) (E : Value -> Shared -> Prop),Inv X pins σ H s -> (∀ b ∈ fp,FpOk X pins H b) -> tn i s.heap -> J.stop i H ->
  wpAny (model P w) X.A (pyNext (.ref it)) (λr s1=>r = none /\ Inv X pins σ H s1) E s
 self : ∀ (A : Around) (i : Nat) (s : Shared) (Q : Value -> Shared -> Prop) (E : Value -> Shared -> Prop),tn i s.heap -> Q (.ref it) s -> wpAny (model P w) A (pyIter (.ref it)) Q E s
abbrev TI:=St -> Hp -> (It -> Hp -> Prop) -> Prop
def PIE (X : Cx) (pins : List (Addr × Obj)) (σ : St) (tg : Expr) (R : It -> Hp -> Prop) (itv : Value) (s2 : Shared) : Prop :=
 ∃ (it : Addr) (fp : List Addr) (tn : Nat -> Heap -> Prop) (J : It) (H' : Hp),itv = .ref it /\ Inv X pins σ H' s2 /\ Turn X.prog X.w X.K tg J fp it tn /\ tn 0 s2.heap /\ (∀ b ∈ fp,FpOk X pins H' b) /\ R J H'
def PI (X : Cx) (tg iter : Expr) (wi : TI) : Prop :=
 ∀ (pins : List (Addr × Obj)) (s : Shared) (σ : St) (H : Hp) (R : It -> Hp -> Prop),Inv X pins σ H s -> wi σ H R ->
  wpAny (model X.prog X.w) X.A (eval iter X.env) (λv s1=>wpAny (model X.prog X.w) X.A (pyIter v) (PIE X pins σ tg R) X.xe s1) X.xe s
theorem ye3 {M : Model} {A : Around} {E : Value -> Shared -> Prop} {s : Shared} {tg : Expr} {it : Addr} {u : Value} {o : Obj} {n : String} {vs : Array Value} {Q : Unit -> Shared -> Prop} (ho : s.heap.get? it = some o) (hc : o.cls = .type n) (hd : o.data = .fields vs)
  (hn : ["enumerate", "zip", "dict_itemiterator", "dict_reverseitemiterator", "odict_iterator", "itertools.zip_longest", "itertools.pairwise"].contains n = false) (hQ : Q () s) : wpAny M A (letOwnedTupleGo tg (.ref it) u) Q E s:=by
 unfold letOwnedTupleGo
 cases tg<;>first
  | exact wpAny_pure hQ
  | (cases u<;>first
    | exact wpAny_pure hQ
    | (refine wpAny_bind (wpAny_load ho ?_)
       rw [hc,hd]
       show wpAny M A (if (["enumerate", "zip", "dict_itemiterator", "dict_reverseitemiterator", "odict_iterator", "itertools.zip_longest", "itertools.pairwise"].contains n && vs[0]? == some (rawInt _)) = true then _ else _) Q E s
       rw [if_neg (by intro h; rw [hn,Bool.false_and] at h; cases h)]
       exact wpAny_pure hQ))
def Itl (K : PySem.W.Frag) (a : Addr) : It :=
 ⟨λi H=>∃ xs x,SqL K H a xs /\ xs[i]? = some x,λi H x H' => H' = H /\ ∀ xs,SqL K H a xs -> xs[i]? = some x,λi H=>∃ xs,SqL K H a xs /\ xs.length <= i⟩
def Itt (K : PySem.W.Frag) (a : Addr) : It :=
 ⟨λi H=>∃ xs x,SqT K H a xs /\ xs[i]? = some x,λi H x H' => H' = H /\ ∀ xs,SqT K H a xs -> xs[i]? = some x,λi H=>∃ xs,SqT K H a xs /\ xs.length <= i⟩
def Itr (lo : Int) (n : Nat) : It:=⟨λi _=>i < n,λi H x H' => H' = H /\ x = .int (lo + i),λi _=>n <= i⟩
theorem zhd {P : Program} {w : World} {K : PySem.W.Frag} {tg : Expr} (a it : Addr) : Turn P w K tg (Itl K a) [it] it (λi h=>h.IsListIter it a i) where
 mem:=by simp
 obj:=λi h st b hb=>by
  have e : b = it:=by simpa using hb
  subst e
  obtain ⟨o,e,c,d⟩:=st
  exact ⟨o,e,λv z=>by rw [d] at z; cases z⟩
 keep:=λi h h' st k=>st.at λo e=>k it (by simp) o e
 item:=by
  intro X hP hw hK hc i pins s σ H E I hf st hg
  subst hP hw hK
  obtain ⟨xs,x,hq,hx⟩:=hg
  obtain ⟨its,rv,p,hz⟩:=I.list hq
  obtain ⟨u,hu,ru⟩:=rv.get hx
  obtain ⟨f0,f1,f2,f3,f4,f5⟩:=hf it (by simp)
  refine wpAny_pyNext_list_item st p.isList (x:=u) (by simpa using hu) λh' st' sb=>?_
  have I1 : Inv X pins σ H { s with heap:=h' }:=I.turned (t' := s.toks) (λb o hb e=>(sb.2 b hb).trans e) f0 f1 f3 f4 f5
  obtain ⟨o,e,c,d⟩:=id st'
  exact ⟨u,rfl,ye3 (s:={ s with heap:=h' }) e c d (by decide) ⟨x,H,I1,ru,⟨rfl,λys hy=>by rw [I.list_inj hy hq]; exact hx⟩,st',λb hb=>(hf b hb).1⟩⟩
 done:=by
  intro X hP hw hK hc i pins s σ H E I hf st hg
  subst hP hw hK
  obtain ⟨xs,hq,hx⟩:=hg
  obtain ⟨its,rv,p,hz⟩:=I.list hq
  obtain ⟨f0,f1,f2,f3,f4,f5⟩:=hf it (by simp)
  have hl:=rv.length
  exact wpAny_pyNext_list_end (I.ok.hd hc) st p.isList (by simp; lia) λh' eb=>⟨rfl,I.turned (t' := s.toks) (λb o hb e=>eb b o hb e) f0 f1 f3 f4 f5⟩
 self:=λ_ _ _ _ _ st h=>wpAny_pyIter_listiter st h
theorem zgG {P : Program} {w : World} {K : PySem.W.Frag} {tg : Expr} (a it : Addr) : Turn P w K tg (Itt K a) [it] it (λi h=>h.IsTupleIter it a i) where
 mem:=by simp
 obj:=λi h st b hb=>by
  have e : b = it:=by simpa using hb
  subst e
  obtain ⟨o,e,c,d⟩:=st
  exact ⟨o,e,λv z=>by rw [d] at z; cases z⟩
 keep:=λi h h' st k=>st.at λo e=>k it (by simp) o e
 item:=by
  intro X hP hw hK hc i pins s σ H E I hf st hg
  subst hP hw hK
  obtain ⟨xs,x,hq,hx⟩:=hg
  obtain ⟨its,rv,p,hz⟩:=I.tuple hq
  obtain ⟨u,hu,ru⟩:=rv.get hx
  obtain ⟨f0,f1,f2,f3,f4,f5⟩:=hf it (by simp)
  refine wpAny_pyNext_tuple_item st (show s.heap.IsTuple a its.toArray from p) (x:=u) (by simpa using hu) λh' st' sb=>?_
  have I1 : Inv X pins σ H { s with heap:=h' }:=I.turned (t' := s.toks) (λb o hb e=>(sb.2 b hb).trans e) f0 f1 f3 f4 f5
  obtain ⟨o,e,c,d⟩:=id st'
  exact ⟨u,rfl,ye3 (s:={ s with heap:=h' }) e c d (by decide) ⟨x,H,I1,ru,⟨rfl,λys hy=>by rw [I.tuple_inj hy hq]; exact hx⟩,st',λb hb=>(hf b hb).1⟩⟩
 done:=by
  intro X hP hw hK hc i pins s σ H E I hf st hg
  subst hP hw hK
  obtain ⟨xs,hq,hx⟩:=hg
  obtain ⟨its,rv,p,hz⟩:=I.tuple hq
  obtain ⟨f0,f1,f2,f3,f4,f5⟩:=hf it (by simp)
  have hl:=rv.length
  exact wpAny_pyNext_tuple_end (I.ok.hd hc) st (show s.heap.IsTuple a its.toArray from p) (by simp; lia) λh' eb=>⟨rfl,I.turned (t' := s.toks) (λb o hb e=>eb b o hb e) f0 f1 f3 f4 f5⟩
 self:=λ_ _ _ _ _ st h=>wpAny_pyIter_tupleiter st h
theorem zgH {P : Program} {w : World} {K : PySem.W.Frag} {tg : Expr} (it : Addr) (lo : Int) (n : Nat) : Turn P w K tg (Itr lo n) [it] it (λi h=>IsRangeIter h it (lo + (i : Nat) * 1) ((n : Int) - (i : Nat)) 1) where
 mem:=by simp
 obj:=λi h st b hb=>by
  have e : b = it:=by simpa using hb
  subst e
  exact ⟨_,st,λv z=>by
   have z' : Data.fields _ = Data.cell v:=z
   cases z'⟩
 keep:=λi h h' st k=>k it (by simp) _ st
 item:=by
  intro X hP hw hK hc i pins s σ H E I hf st hg
  subst hP hw hK
  obtain ⟨f0,f1,f2,f3,f4,f5⟩:=hf it (by simp)
  have W:=Walks.range (prog:=X.prog) (w:=X.w) (I.ok.hd hc) it lo 1 n
  refine W.item i s _ _ hg st λv h' tk hv st' kk=>?_
  obtain ⟨t,rfl⟩:=hv
  have I1 : Inv X pins σ H { s with heap:=h',toks:=tk }:=I.turned (λb o hb e=>kk b o (by simpa using hb) e) f0 f1 f3 f4 f5
  refine ⟨_,rfl,ye3 (s:={ s with heap:=h',toks:=tk }) (n := "range_iterator") st' rfl rfl (by decide) ⟨.int (lo + i),H,I1,⟨t,?_⟩,⟨rfl,rfl⟩,st',λb hb=>(hf b hb).1⟩⟩
  rw [Int.mul_one]
 done:=by
  intro X hP hw hK hc i pins s σ H E I hf st hg
  subst hP hw hK
  obtain ⟨f0,f1,f2,f3,f4,f5⟩:=hf it (by simp)
  exact wpAny_pyNext_range_end (I.ok.hd hc) st (by have : n <= i:=hg; lia) λh' eb=>⟨rfl,I.turned (t' := s.toks) (λb o hb e=>eb b o hb e) f0 f1 f3 f4 f5⟩
 self:=λ_ _ _ _ _ st h=>wpAny_pyIter_rangeiter st h
section
variable {X : Cx} {tg : Expr}
def yf9 (K : PySem.W.Frag) (tl : TE) : TI:=λσ H R=>tl σ H λx H1=>∃ a,x = .ref a /\ (∃ xs,SqL K H1 a xs) /\ R (Itl K a) H1
def iTup (K : PySem.W.Frag) (tl : TE) : TI:=λσ H R=>tl σ H λx H1=>∃ a,x = .ref a /\ (∃ xs,SqT K H1 a xs) /\ R (Itt K a) H1
theorem zjg {l : Expr} {tl : TE} (hl : PE X l tl) : PI X tg l (yf9 X.K tl):=by
 intro pins s σ H R I h
 refine thn (hl pins s σ H _ I h) λv s1 Zz=>?_;obtain ⟨x,H1,I1,r1,q1⟩:=Zz
 obtain ⟨a,e,⟨xs,hq⟩,q⟩:=q1
 subst e
 cases r1
 obtain ⟨its,rv,p,hz⟩:=I1.list hq
 refine wpAny_pyIter_list p.isList ?_
 refine ⟨s1.heap.objs.size,[s1.heap.objs.size],_,_,H1,rfl,I1.kept (t' := s1.toks) λb o e=>Heap.get?_push_of_some _ e,zhd a _,⟨_,Heap.get?_push_size _ rfl,rfl,rfl⟩,λb hb=>?_,q⟩
 have e : b = s1.heap.objs.size:=by simpa using hb
 subst e
 exact I1.fpOk (Nat.le_refl _) (I1.hok.fresh (Nat.le_refl _))
theorem ygH {l : Expr} {tl : TE} (hl : PE X l tl) : PI X tg l (iTup X.K tl):=by
 intro pins s σ H R I h
 refine thn (hl pins s σ H _ I h) λv s1 Zz=>?_;obtain ⟨x,H1,I1,r1,q1⟩:=Zz
 obtain ⟨a,e,⟨xs,hq⟩,q⟩:=q1
 subst e
 cases r1
 obtain ⟨its,rv,p,hz⟩:=I1.tuple hq
 refine wpAny_pyIter_tuple (show s1.heap.IsTuple a its.toArray from p) ?_
 refine ⟨s1.heap.objs.size,[s1.heap.objs.size],_,_,H1,rfl,I1.kept (t' := s1.toks) λb o e=>Heap.get?_push_of_some _ e,zgG a _,⟨_,Heap.get?_push_size _ rfl,rfl,rfl⟩,λb hb=>?_,q⟩
 have e : b = s1.heap.objs.size:=by simpa using hb
 subst e
 exact I1.fpOk (Nat.le_refl _) (I1.hok.fresh (Nat.le_refl _))
theorem zh9 {pins : List (Addr × Obj)} {σ : St} {H : Hp} {s : Shared} {R : It -> Hp -> Prop} {E : Value -> Shared -> Prop} {lo hi : Int} {t u v : Tok} {tk : Nat} (I : Inv X pins σ H s) (h1 : -(2 ^ 62) <= lo) (h2 : lo < 2 ^ 62) (h3 : -(2 ^ 62) <= hi) (h4 : hi < 2 ^ 62)
  (q : R (Itr lo (hi - lo).toNat) H) : wpAny (model X.prog X.w) X.A (pyIter (.ref s.heap.objs.size)) (PIE X pins σ tg R) E { s with heap:=s.heap.push { cls:=.type "range",data:=.fields #[.int lo t,.int hi u,.int 1 v] },toks:=tk }:=by
 refine wpAny_pyIter_range (IsRange.new ..) (small_one h1 h2 h3 h4) ?_
 have I1 : Inv X pins σ H { s with heap:=s.heap.push { cls:=.type "range",data:=.fields #[.int lo t,.int hi u,.int 1 v] },toks:=tk }:=I.kept λb o e=>Heap.get?_push_of_some _ e
 refine ⟨(s.heap.push { cls:=.type "range",data:=.fields #[.int lo t,.int hi u,.int 1 v] }).objs.size,[(s.heap.push { cls:=.type "range",data:=.fields #[.int lo t,.int hi u,.int 1 v] }).objs.size],_,_,H,rfl,
  I1.kept (t' := tk) λb o e=>Heap.get?_push_of_some _ e,zgH _ lo (hi - lo).toNat,?_,λb hb=>?_,q⟩
 ·have e1 : lo + ((0 : Nat) : Int) * 1 = lo:=by simp
  have e2 : (((hi - lo).toNat : Nat) : Int) - ((0 : Nat) : Int) = Builtin.Range.rangeSize lo hi 1:=by rw [rangeSize_one]; split<;>omega
  show IsRangeIter _ _ (lo + ((0 : Nat) : Int) * 1) ((((hi - lo).toNat : Nat) : Int) - ((0 : Nat) : Int)) 1
  rw [e1,e2]
  exact Heap.get?_push_size _ rfl
 ·have e : b = (s.heap.push { cls:=.type "range",data:=.fields #[.int lo t,.int hi u,.int 1 v] }).objs.size:=by simpa using hb
  subst e
  exact I1.fpOk (Nat.le_refl _) (I1.hok.fresh (Nat.le_refl _))
def yh5 (ta : TA) : TI:=λσ H R=>ta σ H λvs H1=>∃ j : Int,vs = [.int j] /\ -(2 ^ 62) <= j /\ j < 2 ^ 62 /\ R (Itr 0 j.toNat) H1
theorem zhe {a : Expr} {ta : TA} {p pos : Pos} (hg : Gl X "range") (hm : X.mg "range" = none) (ha : PA X [a] ta) (hs : starEach [a] X.env = [(false,eval a X.env)]:=by rfl) : PI X tg (.Call (.Name "range" p) [a] [] pos) (yh5 ta):=by
 intro pins s σ H R I h
 refine Call_ (yeo I hg hm boot_range (PyProof.Rows.callWith_type1 (thn (ha pos pins s σ H _ I h) λus s1 Zz=>?_) hs rfl));obtain ⟨vs,H1,I1,r1,q1⟩:=Zz
 obtain ⟨j,e,q1,q2,q⟩:=q1
 subst e
 cases r1 with
 | cons r rr =>
  cases rr
  obtain ⟨t,rfl⟩:=r
  exact call_range_1 (zh9 I1 (by lia) (by lia) q1 q2 (by simpa using q))
def tFor (wi : TI) (g : TG) (tb : TS) : TS:=λD σ H=>wi σ H λJ H1=>∃ W : Nat -> Nat -> St -> Hp -> Prop,(∃ m,W 0 m σ H1) /\ ∀ i m σ H,W i m σ H ->
 (J.stop i H /\ D.nx σ H) \/ (J.go i H /\ ∃ N : St -> Hp -> Prop,(∀ σ' H',N σ' H' -> ∃ m',m' < m /\ W (i + 1) m' σ' H') /\ ∀ x H',J.yld i H x H' -> g x σ H' λσ2 H2=>tb { D with nx:=N,ct:=N,bk:=D.nx } σ2 H2)
def ycA (fp : List Addr) (h : Heap) : List (Addr × Obj):=fp.filterMap λb=>(h.get? b).map λo=>(b,o)
theorem zbl {fp : List Addr} {h : Heap} {b : Addr} {o : Obj} (hb : b ∈ fp) (e : h.get? b = some o) : (b,o) ∈ ycA fp h:=List.mem_filterMap.mpr ⟨b,hb,by rw [e]; rfl⟩
theorem zhf {fp : List Addr} {h : Heap} {p : Addr × Obj} (hp : p ∈ ycA fp h) : p.1 ∈ fp /\ h.get? p.1 = some p.2:=by
 obtain ⟨b,hb,e⟩:=List.mem_filterMap.mp hp
 cases q : h.get? b with
 | none=>rw [q] at e; cases e
 | some o =>
  rw [q] at e
  have e' : (b,o) = p:=Option.some.inj e
  subst e'
  exact ⟨hb,q⟩
theorem Inv.pinned {pins : List (Addr × Obj)} {σ : St} {H : Hp} {s : Shared} {fp : List Addr} (I : Inv X pins σ H s) (hf : ∀ b ∈ fp,FpOk X pins H b) (ho : ∀ b ∈ fp,∃ o,s.heap.get? b = some o /\ ∀ v,o.data ≠ .cell v) : Inv X (pins++ycA fp s.heap) σ H s :=
 I.pins_of λp hp=>(List.mem_append.mp hp).elim (λz=>I.pin p (List.mem_append_right _ z)) λz=>by
  obtain ⟨hb,e⟩:=zhf z
  obtain ⟨f0,f1,f2,_⟩:=hf p.1 hb
  obtain ⟨o,e',d⟩:=ho p.1 hb
  rw [e] at e'; cases e'
  exact ⟨e,f0,f1,f2,d⟩
theorem Inv.unpinned {pins pl : List (Addr × Obj)} {σ : St} {H : Hp} {s : Shared} (I : Inv X (pins++pl) σ H s) : Inv X pins σ H s:=I.pins_of λp hp=>I.pin p (List.mem_append_right _ (List.mem_append_left _ hp))
theorem yfz {iter : Expr} {body : List Stmt} {wi : TI} {g : TG} {tb : TS} {pos : Pos} (hp : PassesOwn (model X.prog X.w) X.A X.env X.xe) (hc : X.calm = true) (hi : PI X tg iter wi) (hg : PG X tg g) (hb : PSs X body tb)
  (hs : ∀ x,foldedSetIterable iter X.env x = pure x:=by intro _; rfl) : PS X (.For tg iter body [] pos) (tFor wi g tb):=by
 intro pins s σ H D I h
 refine wpAny_For (thn (hi pins s σ H _ I h) λv s1 h1=>thn h1 λitv s2 h2=>?_) hs
 obtain ⟨it,fp,tn,J,H2,e,I2,T,st2,f2,W,⟨m0,w0⟩,turn⟩:=h2
 subst e
 have stat : ∀ {H' : Hp},(∀ b ∈ fp,H' b = none) -> ∀ b ∈ fp,FpOk X pins H' b:=λhn b hb=>⟨hn b hb,(f2 b hb).2⟩
 refine codeAny_forLoop_any (λn s' => ∃ i σ' H',Inv X pins σ' H' s' /\ tn i s'.heap /\ (∀ b ∈ fp,H' b = none) /\ W i n σ' H') ?_ m0 ⟨0,σ,H2,I2,st2,λb hb=>(f2 b hb).1,w0⟩
 rintro n s3 ⟨i,σ3,H3,I3,st3,fr3,w3⟩
 rcases turn i n σ3 H3 w3 with ⟨stop,qn⟩ | ⟨go,N,hN,step⟩
 ·refine wpAny_passesOwn hp (thn (T.done X rfl rfl rfl hc i pins s3 σ3 H3 X.xe I3 (stat fr3) st3 stop) λr s4 Zz=>?_);obtain ⟨hr,I4⟩:=Zz
  subst hr
  exact wpAny_execs_nil ⟨σ3,H3,I4,qn⟩
 ·refine wpAny_passesOwn hp (thn (T.item X rfl rfl rfl hc i pins s3 σ3 H3 X.xe I3 (stat fr3) st3 go) λr s4 Zz=>?_);obtain ⟨u,hr,h4⟩:=Zz
  subst hr
  refine wpAny_passesOwn hp (thn h4 λ_ s5 Zz=>?_);obtain ⟨x,H5,I5,r5,y5,st5,fr5⟩:=Zz
  have I5' := I5.pinned (stat fr5) (T.obj _ _ st5)
  refine wpAny_passesOwn hp (thn (hg _ s5 σ3 H5 x u _ I5' r5 (step x H5 y5)) λ_ s6 Zz=>?_);obtain ⟨σ6,H6,I6,q6⟩:=Zz
  refine wpAny_passesOwn hp (thn (hb _ s6 σ6 H6 _ I6 q6) λf s7 q7=>?_)
  have again : ∀ {σ7 : St} {H7 : Hp},Inv X (pins++ycA fp s5.heap) σ7 H7 s7 -> N σ7 H7 -> ∃ m,m < n /\ ∃ i σ' H',Inv X pins σ' H' s7 /\ tn i s7.heap /\ (∀ b ∈ fp,H' b = none) /\ W i m σ' H' := λ{σ7 H7} I7 n7=>by
   obtain ⟨m',hm,w7⟩:=hN σ7 H7 n7
   refine ⟨m',hm,i + 1,σ7,H7,I7.unpinned,T.keep _ _ _ st5 λb hb o e=>(I7.pin (b,o) (List.mem_append_right _ (List.mem_append_right _ (zbl hb e)))).1,λb hb=>?_,w7⟩
   obtain ⟨o,e,d⟩:=T.obj _ _ st5 b hb
   exact (I7.pin (b,o) (List.mem_append_right _ (List.mem_append_right _ (zbl hb e)))).2.1
  cases f with
  | next=>obtain ⟨σ7,H7,I7,n7⟩:=q7; exact again I7 n7
  | cont=>obtain ⟨σ7,H7,I7,n7⟩:=q7; exact again I7 n7
  | brk=>obtain ⟨σ7,H7,I7,q7⟩:=q7; exact ⟨σ7,H7,I7.unpinned,q7⟩
  | ret v=>obtain ⟨x7,σ7,H7,I7,r7,q7⟩:=q7; exact ⟨x7,σ7,H7,I7.unpinned,r7,q7⟩
end
abbrev R2:=V -> V -> Hp -> VK -> Prop
def OpR (X : Cx) (f : Value -> Value -> Sem Value) (r : R2) : Prop :=
 ∀ (pins : List (Addr × Obj)) (s : Shared) (σ : St) (H : Hp) (x y : V) (v u : Value) (Q : VK),Inv X pins σ H s -> RelV x v -> RelV y u -> r x y H Q ->
  wpAny (model X.prog X.w) X.A (f v u) (EP X pins σ Q) X.xe s
def UnR (X : Cx) (f : Value -> Sem Value) (r : V -> Hp -> VK -> Prop) : Prop :=
 ∀ (pins : List (Addr × Obj)) (s : Shared) (σ : St) (H : Hp) (x : V) (v : Value) (Q : VK),Inv X pins σ H s -> RelV x v -> r x H Q ->
  wpAny (model X.prog X.w) X.A (f v) (EP X pins σ Q) X.xe s
def CallR (X : Cx) (f : Value) (r : List V -> Hp -> VK -> Prop) : Prop :=
 ∀ (pins : List (Addr × Obj)) (s : Shared) (σ : St) (H : Hp) (xs : List V) (us : List Value) (Q : VK),Inv X pins σ H s -> Vals xs us -> r xs H Q ->
  wpAny (model X.prog X.w) X.A (call f us) (EP X pins σ Q) X.xe s
def TruR (X : Cx) (r : V -> Hp -> (Bool -> Hp -> Prop) -> Prop) : Prop :=
 ∀ (pins : List (Addr × Obj)) (s : Shared) (σ : St) (H : Hp) (x : V) (v : Value) (Q : Bool -> Hp -> Prop),Inv X pins σ H s -> RelV x v -> r x H Q ->
  wpAny (model X.prog X.w) X.A (truthy v) (TP X pins σ Q) X.xe s
def tOp (r : R2) (ta tb : TE) : TE:=λσ H Q=>ta σ H λx H1=>tb σ H1 λy H2=>r x y H2 Q
def tUn (r : V -> Hp -> VK -> Prop) (ta : TE) : TE:=λσ H Q=>ta σ H λx H1=>r x H1 Q
def rI (C : Int -> Int -> Prop) (g : Int -> Int -> V) : R2:=λx y H Q=>∃ i j,x = .int i /\ y = .int j /\ C i j /\ Q (g i j) H
def rI0 (g : Int -> Int -> V) : R2:=λx y H Q=>∃ i j,x = .int i /\ y = .int j /\ Q (g i j) H
def rU (g : Int -> V) : V -> Hp -> VK -> Prop:=λx H Q=>∃ i,x = .int i /\ Q (g i) H
section
variable {X : Cx} {a b c : Expr} {ta tb tc : TE} {pos : Pos}
theorem binT (ha : PE X a ta) (hb : PE X b tb) {pins : List (Addr × Obj)} {s : Shared} {σ : St} {H : Hp} {R : V -> V -> Hp -> Prop} (I : Inv X pins σ H s)
  (h : ta σ H λx H1=>tb σ H1 λy H2=>R x y H2) {Q : Value -> Shared -> Prop} {f : Value -> Value -> Sem Value}
  (hf : ∀ v u s2 x y H2,Inv X pins σ H2 s2 -> RelV x v -> RelV y u -> R x y H2 -> wpAny (model X.prog X.w) X.A (f v u) Q X.xe s2) :
  wpAny (model X.prog X.w) X.A (eval a X.env) (λv s₁=>wpAny (model X.prog X.w) X.A (eval b X.env) (λu s₂=>wpAny (model X.prog X.w) X.A (f v u) Q X.xe s₂) X.xe s₁) X.xe s:=by
 refine thn (ha pins s σ H _ I h) λv s1 Zz=>?_;obtain ⟨x,H1,I1,r1,q1⟩:=Zz
 refine thn (hb pins s1 σ H1 _ I1 q1) λu s2 Zz=>?_;obtain ⟨y,H2,I2,r2,q2⟩:=Zz
 exact hf v u s2 x y H2 I2 r1 r2 q2
theorem yh6 {op : Operator} {r : R2} (ho : OpR X (binaryOp op) r) (ha : PE X a ta) (hb : PE X b tb) : PE X (.BinOp a op b pos) (tOp r ta tb):=by
 intro pins s σ H Q I h
 exact wpAny_BinOp (binT ha hb I h λv u s2 x y H2 I2 rx ry q=>ho pins s2 σ H2 x y v u Q I2 rx ry q)
theorem yh7 {op : UnaryOp} {r : V -> Hp -> VK -> Prop} (ho : UnR X (unaryOp op) r) (ha : PE X a ta) : PE X (.UnaryOp op a pos) (tUn r ta):=by
 intro pins s σ H Q I h
 exact UnaryOp_ (thn (ha pins s σ H _ I h) λv s1 ⟨x,H1,I1,r1,q1⟩=>ho pins s1 σ H1 x v Q I1 r1 q1)
theorem opI {f : Value -> Value -> Sem Value} {C : Int -> Int -> Prop} {g : Int -> Int -> Int}
  (rule : ∀ (i j : Int) (t u : Tok) (s : Shared) (Q : Value -> Shared -> Prop) (E : Value -> Shared -> Prop),C i j -> Q (.int (g i j) s.toks) { s with toks:=s.toks + 1 } -> wpAny (model X.prog X.w) X.A (f (.int i t) (.int j u)) Q E s) :
  OpR X f (rI C λi j=>.int (g i j)):=by
 intro pins s σ H x y v u Q I rx ry h
 obtain ⟨i,j,rfl,rfl,hc,q⟩:=h
 obtain ⟨t,rfl⟩:=rx
 obtain ⟨t',rfl⟩:=ry
 exact rule i j t t' s _ _ hc ⟨.int (g i j),H,I.tok _,⟨_,rfl⟩,q⟩
theorem opI0 {f : Value -> Value -> Sem Value} {g : Int -> Int -> Int}
  (rule : ∀ (i j : Int) (t u : Tok) (s : Shared) (Q : Value -> Shared -> Prop) (E : Value -> Shared -> Prop),Q (.int (g i j) s.toks) { s with toks:=s.toks + 1 } -> wpAny (model X.prog X.w) X.A (f (.int i t) (.int j u)) Q E s) :
  OpR X f (rI0 λi j=>.int (g i j)):=by
 intro pins s σ H x y v u Q I rx ry h
 obtain ⟨i,j,rfl,rfl,q⟩:=h
 obtain ⟨t,rfl⟩:=rx
 obtain ⟨t',rfl⟩:=ry
 exact rule i j t t' s _ _ ⟨.int (g i j),H,I.tok _,⟨_,rfl⟩,q⟩
theorem opB0 {f : Value -> Value -> Sem Value} {g : Int -> Int -> Bool}
  (rule : ∀ (i j : Int) (t u : Tok) (s : Shared) (Q : Value -> Shared -> Prop) (E : Value -> Shared -> Prop),Q (.bool (g i j)) s -> wpAny (model X.prog X.w) X.A (f (.int i t) (.int j u)) Q E s) :
  OpR X f (rI0 λi j=>.bl (g i j)):=by
 intro pins s σ H x y v u Q I rx ry h
 obtain ⟨i,j,rfl,rfl,q⟩:=h
 obtain ⟨t,rfl⟩:=rx
 obtain ⟨t',rfl⟩:=ry
 exact rule i j t t' s _ _ ⟨.bl (g i j),H,I,rfl,q⟩
def CPow (i j : Int) : Prop:=0 <= j /\ j <= 1000000 /\ i.natAbs < 2 ^ 64
def CMul (i j : Int) : Prop:=(-(2 ^ 64) < i /\ i < 2 ^ 64) \/ (-(2 ^ 64) < j /\ j < 2 ^ 64)
theorem CMul.ok {i j : Int} (h : CMul i j) : IntMulOk i j:=by
 rcases h with ⟨h1,h2⟩ | ⟨h1,h2⟩
 ·exact .of_left (intBits_le_64 h1 h2)
 ·exact .of_right (intBits_le_64 h1 h2)
theorem op_add : OpR X (binaryOp .Add) (rI0 λi j=>.int (i + j)):=opI0 λ_ _ _ _ _ _ _ q=>add_int q
theorem ygI : OpR X (binaryOp .Sub) (rI0 λi j=>.int (i - j)):=opI0 λ_ _ _ _ _ _ _ q=>sub_int q
theorem ygJ : OpR X (binaryOp .Mod) (rI (λ_ j=>0 < j) λi j=>.int (i % j)):=opI λi j _ _ _ _ _ hc q=>by
 have h1 : (0 : Int) < j:=hc
 exact mod_int' (by lia) (by rw [Int.fmod_eq_emod_of_nonneg i (by lia)]; exact q)
theorem ygK : OpR X (binaryOp .Pow) (rI CPow λi j=>.int (i ^ j.toNat)):=opI λ_ _ _ _ _ _ _ hc q=>pow_int_small hc.1 hc.2.1 hc.2.2 q
theorem unI {f : Value -> Sem Value} {g : Int -> Int}
  (rule : ∀ (i : Int) (t : Tok) (s : Shared) (Q : Value -> Shared -> Prop) (E : Value -> Shared -> Prop),Q (.int (g i) s.toks) { s with toks:=s.toks + 1 } -> wpAny (model X.prog X.w) X.A (f (.int i t)) Q E s) :
  UnR X f (rU λi=>.int (g i)):=by
 intro pins s σ H x v Q I rx h
 obtain ⟨i,rfl,q⟩:=h
 obtain ⟨t,rfl⟩:=rx
 exact rule i t s _ _ ⟨.int (g i),H,I.tok _,⟨_,rfl⟩,q⟩
theorem ygL : UnR X (unaryOp .USub) (rU λi=>.int (-i)):=unI λ_ _ _ _ _ q=>neg_int q
end
def scal : V -> V -> Bool
 | .non,.non=>true | .non,.int _=>true | .int _,.non=>true | .non,.bl _=>true | .bl _,.non=>true | .non,.str _=>true | .str _,.non=>true
 | .int _,.int _=>true | .bl _,.bl _=>true | .str _,.str _=>true | .byt _,.byt _=>true
 | .int _,.str _=>true | .str _,.int _=>true | .bl _,.str _=>true | .str _,.bl _=>true
 | _,_=>false
def rEq : R2:=λx y H Q=>scal x y = true /\ Q (.bl (decide (x = y))) H
def rNe : R2:=λx y H Q=>scal x y = true /\ Q (.bl (!decide (x = y))) H
theorem zf2 {i j : Int} : decide (V.int i = V.int j) = (i == j):=by
 rw [Bool.eq_iff_iff]
 simp
theorem yfA {i j : Bool} : decide (V.bl i = V.bl j) = (i == j):=by
 rw [Bool.eq_iff_iff]
 simp
theorem zf3 {i j : Str} : decide (V.str i = V.str j) = (i == j):=by
 rw [Bool.eq_iff_iff]
 simp
theorem zf4 {i j : Array UInt8} : decide (V.byt i = V.byt j) = (i.toList == j.toList):=by
 rw [Bool.eq_iff_iff]
 cases i
 cases j
 simp
section
variable {X : Cx} {a b c : Expr} {ta tb tc : TE} {pos : Pos}
theorem yaN {pins : List (Addr × Obj)} {σ : St} {H : Hp} {s : Shared} {Q : VK} {k k' : Bool} (I : Inv X pins σ H s) (q : Q (.bl k) H) (e : k = k') : EP X pins σ Q (.bool k') s:=by
 subst e
 exact ⟨.bl k,H,I,rfl,q⟩
theorem op_eq : OpR X (compareOp .Eq) rEq:=by
 intro pins s σ H x y v u Q I rx ry h
 obtain ⟨hs,q⟩:=h
 cases x with
 | non =>
  cases rx
  cases y with
  | non=>cases ry; exact PySem.EqNone.eq_none_none (yaN I q (by simp))
  | bl j=>cases ry; exact PySem.EqNone.eq_none_bool (yaN I q (by simp))
  | int j=>obtain ⟨t',rfl⟩:=ry; exact PySem.EqNone.eq_none_int (yaN I q (by simp))
  | str j=>obtain ⟨t',rfl⟩:=ry; exact PySem.EqNone.eq_none_str (yaN I q (by simp))
  | _=>exact absurd (show false = true from hs) Bool.false_ne_true
 | bl i =>
  cases rx
  cases y with
  | non=>cases ry; exact PySem.EqNone.eq_bool_none (yaN I q (by simp))
  | bl j=>cases ry; exact eq_bool (yaN I q yfA)
  | str j=>obtain ⟨t',rfl⟩:=ry; exact PySem.EqMixed.eq_bool_str (yaN I q (by simp))
  | _=>exact absurd (show false = true from hs) Bool.false_ne_true
 | int i =>
  obtain ⟨t,rfl⟩:=rx
  cases y with
  | non=>cases ry; exact PySem.EqNone.eq_int_none (yaN I q (by simp))
  | int j=>obtain ⟨t',rfl⟩:=ry; exact eq_int (yaN I q zf2)
  | str j=>obtain ⟨t',rfl⟩:=ry; exact PySem.EqMixed.eq_int_str (yaN I q (by simp))
  | _=>exact absurd (show false = true from hs) Bool.false_ne_true
 | str i =>
  obtain ⟨t,rfl⟩:=rx
  cases y with
  | non=>cases ry; exact PySem.EqNone.eq_str_none (yaN I q (by simp))
  | bl j=>cases ry; exact PySem.EqMixed.eq_str_bool (yaN I q (by simp))
  | int j=>obtain ⟨t',rfl⟩:=ry; exact PySem.EqMixed.eq_str_int (yaN I q (by simp))
  | str j=>obtain ⟨t',rfl⟩:=ry; exact eq_str (yaN I q zf3)
  | _=>exact absurd (show false = true from hs) Bool.false_ne_true
 | byt i =>
  obtain ⟨t,rfl⟩:=rx
  cases y with
  | byt j=>obtain ⟨t',rfl⟩:=ry; exact PySem.W.eq_bytes (yaN I q zf4)
  | _=>exact absurd (show false = true from hs) Bool.false_ne_true
 | _=>cases y<;>exact absurd (show false = true from hs) Bool.false_ne_true
theorem op_ne : OpR X (compareOp .NotEq) rNe:=by
 intro pins s σ H x y v u Q I rx ry h
 obtain ⟨hs,q⟩:=h
 cases x with
 | non =>
  cases rx
  cases y with
  | non=>cases ry; exact PySem.EqNone.ne_none_none (yaN I q (by simp))
  | bl j=>cases ry; exact PySem.EqNone.ne_none_bool (yaN I q (by simp))
  | int j=>obtain ⟨t',rfl⟩:=ry; exact PySem.EqNone.ne_none_int (yaN I q (by simp))
  | str j=>obtain ⟨t',rfl⟩:=ry; exact PySem.EqNone.ne_none_str (yaN I q (by simp))
  | _=>exact absurd (show false = true from hs) Bool.false_ne_true
 | bl i =>
  cases rx
  cases y with
  | non=>cases ry; exact PySem.EqNone.ne_bool_none (yaN I q (by simp))
  | bl j=>cases ry; exact ne_bool (yaN I q (congrArg not yfA))
  | str j=>obtain ⟨t',rfl⟩:=ry; exact PySem.EqMixed.ne_bool_str (yaN I q (by simp))
  | _=>exact absurd (show false = true from hs) Bool.false_ne_true
 | int i =>
  obtain ⟨t,rfl⟩:=rx
  cases y with
  | non=>cases ry; exact PySem.EqNone.ne_int_none (yaN I q (by simp))
  | int j=>obtain ⟨t',rfl⟩:=ry; exact ne_int (yaN I q (congrArg not zf2))
  | str j=>obtain ⟨t',rfl⟩:=ry; exact PySem.EqMixed.ne_int_str (yaN I q (by simp))
  | _=>exact absurd (show false = true from hs) Bool.false_ne_true
 | str i =>
  obtain ⟨t,rfl⟩:=rx
  cases y with
  | non=>cases ry; exact PySem.EqNone.ne_str_none (yaN I q (by simp))
  | bl j=>cases ry; exact PySem.EqMixed.ne_str_bool (yaN I q (by simp))
  | int j=>obtain ⟨t',rfl⟩:=ry; exact PySem.EqMixed.ne_str_int (yaN I q (by simp))
  | str j=>obtain ⟨t',rfl⟩:=ry; exact ne_str (yaN I q (congrArg not zf3))
  | _=>exact absurd (show false = true from hs) Bool.false_ne_true
 | byt i =>
  obtain ⟨t,rfl⟩:=rx
  cases y with
  | byt j=>obtain ⟨t',rfl⟩:=ry; exact PySem.W.ne_bytes (yaN I q (congrArg not zf4))
  | _=>exact absurd (show false = true from hs) Bool.false_ne_true
 | _=>cases y<;>exact absurd (show false = true from hs) Bool.false_ne_true
theorem op_lt : OpR X (compareOp .Lt) (rI0 λi j=>.bl (decide (i < j))):=opB0 λ_ _ _ _ _ _ _ q=>lt_int q
theorem op_le : OpR X (compareOp .LtE) (rI0 λi j=>.bl (decide (i <= j))):=opB0 λ_ _ _ _ _ _ _ q=>le_int q
theorem yh8 : OpR X (compareOp .Gt) (rI0 λi j=>.bl (decide (j < i))):=opB0 λ_ _ _ _ _ _ _ q=>gt_int q
theorem yh9 : OpR X (compareOp .GtE) (rI0 λi j=>.bl (decide (j <= i))):=opB0 λ_ _ _ _ _ _ _ q=>ge_int q
theorem zhg : OpR X (compareOp .Lt) (λx y H Q=>∃ i j,x = .str i /\ y = .str j /\ Q (.bl (decide (i.cps.toList < j.cps.toList))) H):=by
 intro pins s σ H x y v u Q I rx ry h
 obtain ⟨i,j,rfl,rfl,q⟩:=h
 obtain ⟨t,rfl⟩:=rx
 obtain ⟨t',rfl⟩:=ry
 exact lt_str (yaN I q rfl)
theorem ygM : OpR X (compareOp .Is) (λx y H Q=>y = .non /\ Q (.bl (decide (x = .non))) H):=by
 intro pins s σ H x y v u Q I rx ry h
 obtain ⟨rfl,q⟩:=h
 cases ry
 refine is_none_gen (yaN I q ?_)
 cases x<;>first
  | (cases rx; rfl)
  | (obtain ⟨t,rfl⟩:=rx; rfl)
theorem OpR.or {f : Value -> Value -> Sem Value} {r r' : R2} (h : OpR X f r) (h' : OpR X f r') : OpR X f (λx y H Q=>r x y H Q \/ r' x y H Q):=by
 intro pins s σ H x y v u Q I rx ry q
 rcases q with q | q
 ·exact h pins s σ H x y v u Q I rx ry q
 ·exact h' pins s σ H x y v u Q I rx ry q
theorem yaz (b : Expr) {op : CmpOp} (h : op ≠ .In:=by decide) (h2 : op ≠ .NotIn:=by decide) : behindInMarks op b = false:=by
 have e1 : (op == CmpOp.In) = false:=by cases op<;>first | rfl | exact absurd rfl h
 have e2 : (op == CmpOp.NotIn) = false:=by cases op<;>first | rfl | exact absurd rfl h2
 cases b<;>simp [behindInMarks,e1,e2]
theorem zjh {op : CmpOp} {r : R2} (ho : OpR X (compareOp op) r) (ha : PE X a ta) (hb : PE X b tb) (hm : behindInMarks op b = false) : PE X (.Compare a [op] [b] pos) (tOp r ta tb):=by
 intro pins s σ H Q I h
 exact wpAny_Compare1 (binT ha hb I h λv u s2 x y H2 I2 rx ry q=>ho pins s2 σ H2 x y v u Q I2 rx ry q) hm
def yfo (t : TE) : TT:=λσ H Q=>t σ H λx H' => ∃ k,x = .bl k /\ Q k H'
theorem zji {op : CmpOp} {r : R2} (ho : OpR X (compareOp op) r) (ha : PE X a ta) (hb : PE X b tb) (hm : behindInMarks op b = false) : PT X (.Compare a [op] [b] pos) (yfo (tOp r ta tb)):=by
 intro pins s σ H Q I h
 refine wpAny_isTrue_Compare1 (thn (ha pins s σ H _ I h) λv s1 ⟨x,H1,I1,r1,q1⟩=>thn (hb pins s1 σ H1 _ I1 q1) λu s2 ⟨y,H2,I2,r2,q2⟩ =>
  thn (ho pins s2 σ H2 x y v u _ I2 r1 r2 q2) λc s3 ⟨z,H3,I3,r3,k,e,q3⟩=>?_) hm
 subst e
 cases r3
 exact wpAny_truthy_bool ⟨H3,I3,q3⟩
def yfe (r r' : R2) (ta tb tc : TE) : TE:=λσ H Q=>ta σ H λx H1=>tb σ H1 λy H2=>r x y H2 λz H3=>∃ k,z = .bl k /\
 (if k = true then tc σ H3 λw' H4=>r' y w' H4 Q else Q (.bl false) H3)
theorem zia {op op' : CmpOp} {r r' : R2} (ho : OpR X (compareOp op) r) (ho' : OpR X (compareOp op') r') (ha : PE X a ta) (hb : PE X b tb) (hc : PE X c tc)
  (hm : lastMarks [op,op'] [b,c] = false:=by with_unfolding_all rfl) : PE X (.Compare a [op,op'] [b,c] pos) (yfe r r' ta tb tc):=by
 intro pins s σ H Q I h
 refine Compare_chain (thn (ha pins s σ H _ I h) λv s1 ⟨x,H1,I1,r1,q1⟩=>chain_link (thn (hb pins s1 σ H1 _ I1 q1) λu s2 ⟨y,H2,I2,r2,q2⟩ =>
  thn (ho pins s2 σ H2 x y v u _ I2 r1 r2 q2) λd s3 ⟨z,H3,I3,r3,k,e,q3⟩=>?_)) hm
 subst e
 cases r3
 refine wpAny_truthy_bool ?_
 cases k with
 | false=>exact ite_ff ⟨.bl false,H3,I3,rfl,q3⟩
 | true=>exact ite_tt (chain_last (thn (hc pins s3 σ H3 _ I3 q3) λw' s4 ⟨z',H4,I4,r4,q4⟩=>ho' pins s4 σ H4 y z' u w' Q I4 r2 r4 q4))
theorem zib {op op' : CmpOp} {r r' : R2} (ho : OpR X (compareOp op) r) (ho' : OpR X (compareOp op') r') (ha : PE X a ta) (hb : PE X b tb) (hc : PE X c tc)
  (hm : lastMarks [op,op'] [b,c] = false:=by with_unfolding_all rfl) : PT X (.Compare a [op,op'] [b,c] pos) (yfo (yfe r r' ta tb tc)):=by
 intro pins s σ H Q I h
 refine isTrue_chain (thn (ha pins s σ H _ I h) λv s1 ⟨x,H1,I1,r1,q1⟩=>test_link (thn (hb pins s1 σ H1 _ I1 q1) λu s2 ⟨y,H2,I2,r2,q2⟩ =>
  thn (ho pins s2 σ H2 x y v u _ I2 r1 r2 q2) λd s3 ⟨z,H3,I3,r3,k,e,q3⟩=>?_)) hm
 subst e
 cases r3
 refine wpAny_truthy_bool ?_
 cases k with
 | false =>
  obtain ⟨k',e',q'⟩:=q3
  cases e'
  exact ite_ff ⟨H3,I3,q'⟩
 | true =>
  refine ite_tt (test_last (thn (hc pins s3 σ H3 _ I3 q3) λw' s4 ⟨z',H4,I4,r4,q4⟩=>thn (ho' pins s4 σ H4 y z' u w' _ I4 r2 r4 q4) λd' s5 Zz=>?_));obtain ⟨z2,H5,I5,r5,k2,e2,q5⟩:=Zz
  subst e2
  cases r5
  exact wpAny_truthy_bool ⟨H5,I5,q5⟩
def TruV (K : PySem.W.Frag) (x : V) (H : Hp) (k : Bool) : Prop :=
 match x with
 | .non=>k = false
 | .bl b=>k = b
 | .int i=>k = (i != 0)
 | .str y=>y.length <= sizeLine /\ k = ((y.length : Int) != 0)
 | .byt y=>y.size <= sizeLine /\ k = ((y.size : Int) != 0)
 | .ref p=>(∃ xs,SqL K H p xs /\ k = !xs.isEmpty) \/ (∃ xs,SqT K H p xs /\ k = !xs.isEmpty) \/ ∃ kvs,H p = some (.dK kvs) /\ k = !kvs.isEmpty
 | _=>False
theorem zgI {κ : Type} {kvs : List (κ × V)} {vs : List (κ × Value)} (r : KV kvs vs) : (!vs.isEmpty) = !kvs.isEmpty:=by
 cases r<;>rfl
theorem zdn {xs : List V} {its : List Value} (r : Vals xs its) : (!its.toArray.isEmpty) = !xs.isEmpty:=by
 cases r<;>simp
theorem ydw : (sizeLine : Nat) < 2 ^ 63:=by rw [sizeLine_eq]; decide
theorem ygN : TruR X (λx H Q=>∃ k,TruV X.K x H k /\ Q k H):=by
 intro pins s σ H x v Q I rx h
 obtain ⟨k,e,q⟩:=h
 have hl:=ydw
 have hs : sizeLine = 16777216:=sizeLine_eq
 cases x with
 | non =>
  cases rx
  have e' : k = false:=e
  subst e'
  exact truthy_none ⟨H,I,q⟩
 | bl b =>
  cases rx
  have e' : k = b:=e
  subst e'
  exact wpAny_truthy_bool ⟨H,I,q⟩
 | int i =>
  obtain ⟨t,rfl⟩:=rx
  have e' : k = (i != 0):=e
  subst e'
  exact PySem.P.truthy_int ⟨H,I,q⟩
 | str y =>
  obtain ⟨t,rfl⟩:=rx
  obtain ⟨hy,e'⟩ : y.length <= sizeLine /\ k = ((y.length : Int) != 0):=e
  subst e'
  exact PySem.P.truthy_str (by lia) ⟨H,I.tok _,q⟩
 | byt y =>
  obtain ⟨t,rfl⟩:=rx
  obtain ⟨hy,e'⟩ : y.size <= sizeLine /\ k = ((y.size : Int) != 0):=e
  subst e'
  exact PySem.W.truthy_bytes (by lia) ⟨H,I.tok _,q⟩
 | ref p =>
  cases rx
  have e' : (∃ xs,SqL X.K H p xs /\ k = !xs.isEmpty) \/ (∃ xs,SqT X.K H p xs /\ k = !xs.isEmpty) \/ ∃ kvs,H p = some (.dK kvs) /\ k = !kvs.isEmpty:=e
  rcases e' with ⟨xs,hx,e'⟩ | ⟨xs,hx,e'⟩ | ⟨kvs,hx,e'⟩
  ·subst e'
   obtain ⟨its,r,pl,hz⟩:=I.list hx
   have hlen:=r.length
   exact wpAny_truthy_list pl.isList (by simp only [List.size_toArray]; lia) ⟨H,I.tok _,by rw [zdn r]; exact q⟩
  ·subst e'
   obtain ⟨its,r,pl,hz⟩:=I.tuple hx
   have hlen:=r.length
   exact truthy_tuple pl (by simp only [List.size_toArray]; lia) ⟨H,I.tok _,by rw [zdn r]; exact q⟩
  ·subst e'
   obtain ⟨hz,hS,vs,r,m⟩ : kvs.length <= sizeLine /\ (p == sysModules) = false /\ ∃ vs,KV kvs vs /\ s.heap.DictOf (ybR X.prog X.w) p vs:=I.hok p _ hx
   have hlen : kvs.length = vs.length:=Paired.length r
   exact wpAny_truthy_dict hS m (by lia) ⟨H,I.tok _,by rw [zgI r]; exact q⟩
 | _=>exact (show False from e).elim
theorem zic (ha : PE X a ta) (he : ∀ whole,isTrue a X.env whole = (do let v <- whole; standAt a.pos; holding [v] (truthy v))) :
  PT X a (λσ H Q=>ta σ H λx H' => ∃ k,TruV X.K x H' k /\ Q k H'):=by
 intro pins s σ H Q I h
 exact isTrue_plain (thn (ha pins s σ H _ I h) λv s1 ⟨x,H1,I1,r1,q1⟩=>ygN pins s1 σ H1 x v Q I1 r1 q1) (he _)
theorem zgJ : OpR X (binaryOp .Add) (λx y H Q=>∃ i j,x = .str i /\ y = .str j /\ i.length + j.length <= sizeLine /\ Q (.str (i++j)) H):=by
 intro pins s σ H x y v u Q I rx ry h
 obtain ⟨i,j,rfl,rfl,hz,q⟩:=h
 obtain ⟨t,rfl⟩:=rx
 obtain ⟨t',rfl⟩:=ry
 exact add_str (λt' tk=>⟨.str (i++j),H,I.tok _,⟨_,rfl⟩,q⟩) hz
theorem yea {x : V} {us : List Value} (r : Vals [x] us) : ∃ u,us = [u] /\ RelV x u:=by
 cases r with
 | cons r1 r2=>cases r2; exact ⟨_,rfl,r1⟩
theorem ye4 {x y : V} {us : List Value} (r : Vals [x,y] us) : ∃ u w',us = [u,w'] /\ RelV x u /\ RelV y w' := by
 cases r with
 | cons r1 r2 =>
  cases r2 with
  | cons r3 r4=>cases r4; exact ⟨_,_,rfl,r1,r3⟩
theorem zid : CallR X (.builtin "abs") (λxs H Q=>∃ i,xs = [.int i] /\ Q (.int (if i < 0 then -i else i)) H):=by
 intro pins s σ H xs us Q I r h
 obtain ⟨i,rfl,q⟩:=h
 obtain ⟨u,rfl,t,rfl⟩:=yea r
 exact call_abs_int λu tk=>⟨.int (if i < 0 then -i else i),H,I.tok _,⟨_,rfl⟩,q⟩
theorem zhh (hc : X.calm = true) : CallR X (.builtin "max") (λxs H Q=>∃ i j,xs = [.int i,.int j] /\ Q (.int (if j > i then j else i)) H):=by
 intro pins s σ H xs us Q I r h
 obtain ⟨i,j,rfl,q⟩:=h
 obtain ⟨u,w',rfl,⟨t,rfl⟩,⟨t',rfl⟩⟩:=ye4 r
 refine max_two_ints (I.ok.hd hc) λh' tk k=>⟨_,H,I.kept k,?_,q⟩
 by_cases hj : j > i
 ·rw [if_pos hj,if_pos hj]; exact ⟨_,rfl⟩
 ·rw [if_neg hj,if_neg hj]; exact ⟨_,rfl⟩
end
structure ObjM (h : Heap) (x dx C : Addr) (mA : Str -> Option Value) : Prop where
 obj : h.get? x = some (PySem.W.instObj C dx)
 ns : h.Ns1 dx mA
 ne : dx ≠ x
theorem zhi {h : Heap} {dx : Addr} {mA : Str -> Option Value} (n : h.Ns1 dx mA) : ∃ od,h.get? dx = some od /\ ∀ name,PySem.W.lookIn name od = some (mA name):=by
 obtain ⟨o,es,ep,ho,hd,hk,_,hm⟩:=n
 refine ⟨o,ho,λname=>?_⟩
 have e:=hm name
 unfold nsFind findBy at e
 rw [<- Array.find?_toList] at e
 unfold PySem.W.lookIn
 rw [hd]
 dsimp only
 split
 ·rename_i y q
  rw [q] at e
  exact congrArg some e
 ·rename_i q
  rw [q] at e
  have a : es.toList.any (·.refKey) = false:=by
   rw [List.any_eq_false]
   intro y hy
   obtain ⟨z,t,hkey⟩:=hk y (Array.mem_toList_iff.mp hy)
   simp [DictEntry.refKey,hkey]
  have a' : ¬ es.toList.any (·.refKey) = true:=by rw [a]; exact Bool.false_ne_true
  rw [if_neg a']
  exact congrArg some e
theorem ObjM.look {h : Heap} {x dx C : Addr} {mA : Str -> Option Value} (I : ObjM h x dx C mA) : ∃ od,PySem.W.InstAt h x (PySem.W.instObj C dx) C (some od) /\ ∀ name,PySem.W.lookIn name od = some (mA name) :=
 let ⟨od,ho,hl⟩:=zhi I.ns
 ⟨od,⟨I.obj,rfl,rfl,ho⟩,hl⟩
section
variable {prog : Program} {w : World} {A : Around} {E : Value -> Shared -> Prop} {s : Shared} {K : PySem.W.Frag} {x dx C f : Addr} {mA : Str -> Option Value} {name : Str} {v : Value}
theorem zjj {expr : Bool} {Q : Value -> Shared -> Prop} (X : K.In s.heap) (I : ObjM s.heap x dx C mA) (hg : PySem.W.plainGet K C name = true) (hh : PySem.W.hasDictIn K C = true)
  (ha : PySem.W.findIn K (.ref C) name = some none) (hv : mA name = some v) (hv' : PySem.W.handedIn v = true) (h : Q v { s with toks:=s.toks + 1 }) :
  wpAny (model prog w) A (getAttr (.ref x) name expr) Q E s:=by
 obtain ⟨od,J,hl⟩:=I.look
 exact PySem.W.get_value X J (PySem.W.plainGet_of hg).1 (PySem.W.findObj_own hh ha rfl (by rw [hl,hv])) hv' h
theorem zie {pl : Sem Bool} {Q : Value × List Value -> Shared -> Prop} (X : K.In s.heap) (I : ObjM s.heap x dx C mA) (hg : PySem.W.plainGet K C name = true)
  (hf : PySem.W.findIn K (.ref C) name = some (some (.ref f))) (ht : PySem.W.isFn K (.ref f) = true) (hv : mA name = none) (h : Q (.ref f,[.ref x]) s) :
  wpAny (model prog w) A (getMethod (.ref x) name pl) Q E s:=by
 obtain ⟨od,J,hl⟩:=I.look
 exact PySem.W.method_fn X J (PySem.W.plainGet_of hg).1 (PySem.W.plainGet_of hg).2 hf (beq_iff_eq.mp ht) (by show (PySem.W.lookIn name od).map (·.isSome) = some false; rw [hl,hv]; rfl) h
theorem zjk {ns : List Str} {Q : Unit -> Shared -> Prop} (X : K.In s.heap) (I : ObjM s.heap x dx C mA)
  (hs : PySem.W.findIn K (.ref C) "__setattr__" = some (some (.builtin "object.__setattr__"))) (hp : PySem.W.plainOver K C = true) (ht : PySem.W.takerIn K C name = some none) (hh : PySem.W.hasDictIn K C = true)
  (hw : PySem.Within mA ns) (hsz : ns.length <= sizeLine)
  (h : ∀ h',ObjM h' x dx C (λy=>if y = name then some v else mA y) -> Heap.SameBut dx s.heap h' -> Q () { s with heap:=h',toks:=s.toks + 2 }) :
  wpAny (model prog w) A (setAttr (.ref x) name v) Q E s:=by
 obtain ⟨od,J,hl⟩:=I.look
 refine PySem.W.set_plain X J hs (PySem.W.osa_open (s:={ s with toks:=s.toks + 1 }) (r:=none) X J hp ht λb=>?_)
 obtain ⟨cd,hc,hd'⟩:=PySem.W.any_some hh
 have hx : s.heap.get? x = some ⟨.ref C,some dx,.plain,#[]⟩:=I.obj
 refine wpAny_bind (wpAny_pure (wpAny_bind (wpAny_bind (wpAny_loadPart hx (wpAny_bind (PySem.W.Looks.here (s:={ s with toks:=s.toks + 1 }) (PySem.W.looks_clsIn X hc) ?_))))))
 rw [hd']
 refine wpAny_pure (a:=some dx) (wpAny_bind (wpAny_pure (wpAny_bind ?_)))
 refine wpAny_nsSet1 (s:={ s with toks:=s.toks + 1 }) I.ns λh' hn2 hs2=>?_
 obtain ⟨oD,esD,epD,hoD,hdD,hcD⟩:=hn2.count (PySem.Within.cons name v hw)
 refine wpAny_bind (wpAny_lookBehind hoD (by rw [hdD]; exact pastItsLine_dict (Nat.le_trans hcD (by rw [List.length_cons]; lia))) ?_)
 exact wpAny_pure (h _ ⟨(hs2.2 _ (Ne.symm I.ne)).trans I.obj,hn2,I.ne⟩ hs2)
theorem zif {R : Result -> Shared -> Prop} {vs : List Value} {kw : List (Str × Value)} (X : K.In s.heap) (hm : PySem.W.makesIn K C = true)
  (hi : PySem.W.findIn K (.ref C) "__init__" = some (some (.ref f))) (hf : PySem.W.typeIn K (.ref f) = some (.type "function"))
  (h : codeAny (model prog w) (A.under (.builtin "type.__call__" ⟨.ref C :: vs,kw⟩)) (.call (.ref f) ⟨.ref (s.heap.objs.size + 1) :: vs,kw⟩) (PySem.W.InitBack (s.heap.objs.size + 1) R)
   { s with heap:=(s.heap.push PySem.W.emptyDict).push (PySem.W.instObj C s.heap.objs.size) }) :
  codeAny (model prog w) A (.call (.ref C) ⟨vs,kw⟩) R s:=by
 obtain ⟨hh,g,d,t,os⟩:=s
 exact PySem.W.make_core (PySem.W.makes_of X hm) (PySem.W.looks_findIn X hi) (λself=>PySem.W.bind_fn X self hf) (.inl rfl) h
end
def putF (f : Str) (v : V) : List (Str × V) -> List (Str × V)
 | []=>[(f,v)]
 | (g,x) :: r=>if g = f then (g,v) :: r else (g,x) :: putF f v r
theorem zbb (f g : Str) (v : V) : ∀ fs : List (Str × V),(putF f v fs).lookup g = if g = f then some v else fs.lookup g
 | []=>by
  show List.lookup g [(f,v)] = _
  by_cases h : g = f
  ·have hb : (g == f) = true:=beq_iff_eq.mpr h
   simp only [List.lookup,hb,if_pos h]
  ·have hb : (g == f) = false:=beq_eq_false_iff_ne.mpr h
   simp only [List.lookup,hb,if_neg h]
 | (k,x) :: r=>by
  have ih:=zbb f g v r
  rw [show putF f v ((k,x) :: r) = (if k = f then (k,v) :: r else (k,x) :: putF f v r) from rfl]
  by_cases hk : k = f
  ·rw [if_pos hk]
   by_cases h : g = k
   ·have hb : (g == k) = true:=beq_iff_eq.mpr h
    simp only [List.lookup,hb,if_pos (h.trans hk)]
   ·have hb : (g == k) = false:=beq_eq_false_iff_ne.mpr h
    simp only [List.lookup,hb,if_neg (λe : g = f=>h (e.trans hk.symm))]
  ·rw [if_neg hk]
   by_cases h : g = k
   ·have hb : (g == k) = true:=beq_iff_eq.mpr h
    simp only [List.lookup,hb,if_neg (λe : g = f=>hk (h.symm.trans e))]
   ·have hb : (g == k) = false:=beq_eq_false_iff_ne.mpr h
    simp only [List.lookup,hb]
    exact ih
theorem zcf (f : Str) (v : V) : ∀ fs : List (Str × V),f ∈ (putF f v fs).map (·.1) /\ ∀ g,g ∈ fs.map (·.1) -> g ∈ (putF f v fs).map (·.1)
 | []=>⟨by simp [putF],λg h=>by simp at h⟩
 | (k,x) :: r=>by
  obtain ⟨i1,i2⟩:=zcf f v r
  rw [show putF f v ((k,x) :: r) = (if k = f then (k,v) :: r else (k,x) :: putF f v r) from rfl]
  by_cases hk : k = f
  ·rw [if_pos hk]
   subst hk
   exact ⟨by simp,λg h=>by simpa using h⟩
  ·rw [if_neg hk]
   refine ⟨?_,λg h=>?_⟩
   ·rw [List.map_cons]
    exact List.mem_cons_of_mem _ i1
   ·rw [List.map_cons] at h ⊢
    rcases List.mem_cons.mp h with e | e
    ·exact List.mem_cons.mpr (.inl e)
    ·exact List.mem_cons_of_mem _ (i2 g e)
theorem zcQ (f : Str) (v : V) : ∀ fs : List (Str × V),(putF f v fs).length <= fs.length + 1
 | []=>by simp [putF]
 | (k,x) :: r=>by
  have ih:=zcQ f v r
  rw [show putF f v ((k,x) :: r) = (if k = f then (k,v) :: r else (k,x) :: putF f v r) from rfl]
  by_cases hk : k = f
  ·rw [if_pos hk,List.length_cons,List.length_cons]; lia
  ·rw [if_neg hk,List.length_cons,List.length_cons]; lia
theorem RelO.some_of {v : V} {o : Option Value} (r : RelO (some v) o) : ∃ u,o = some u /\ RelV v u:=by
 cases o with
 | none=>exact (show False from r).elim
 | some u=>exact ⟨u,rfl,r⟩
theorem RelO.none_of {o : Option Value} (r : RelO none o) : o = none:=by
 cases o with
 | none=>rfl
 | some u=>exact (show False from r).elim
theorem zhj {v : V} {u : Value} (r : RelV v u) : PySem.W.handedIn u = true:=by
 cases v with
 | non=>cases (show u = Value.none from r); rfl
 | bl b=>cases (show u = Value.bool b from r); rfl
 | int i=>obtain ⟨t,e⟩:=(show ∃ t,u = Value.int i t from r); cases e; rfl
 | str x=>obtain ⟨t,e⟩:=(show ∃ t,u = Value.str x t from r); cases e; rfl
 | byt b=>obtain ⟨t,e⟩:=(show ∃ t,u = Value.bytes b t from r); cases e; rfl
 | flt b=>obtain ⟨t,e⟩:=(show ∃ t,u = Value.float b t from r); cases e; rfl
 | ref a=>cases (show u = Value.ref a from r); rfl
 | ty n=>cases (show u = Value.type n from r); rfl
section
variable {P : Program} {w : World} {H H' : Hp} {h h' : Heap} {a C dx : Addr} {fs fs' : List (Str × V)}
theorem zcA (hok : HOk P w H h) (e : H a = some (.ins C dx fs)) : ∃ mA,ObjM h a dx C mA /\ (∀ f,RelO (fs.lookup f) (mA f)) /\ PySem.Within mA (fs.map (·.1)) /\ fs.length <= 1000 /\ H dx = some (.own a):=by
 obtain ⟨d,z,ne,ob,mA,n,r,q⟩:=(show ObjOk P w H h a (.ins C dx fs) from hok a _ e)
 exact ⟨mA,⟨ob,n,ne⟩,r,q,z,d⟩
end
structure Cls (K : PySem.W.Frag) (C : Addr) : Prop where
 pg : PySem.W.plainGet K C Str.empty = true
 hd : PySem.W.hasDictIn K C = true
 po : PySem.W.plainOver K C = true
 sa : PySem.W.findIn K (.ref C) "__setattr__" = some (some (.builtin "object.__setattr__"))
theorem Cls.get {K : PySem.W.Frag} {C : Addr} (c : Cls K C) (f : Str) : PySem.W.plainGet K C f = true:=c.pg
def NoAttr (K : PySem.W.Frag) (C : Addr) (f : Str) : Prop:=PySem.W.findIn K (.ref C) f = some none
theorem NoAttr.taker {K : PySem.W.Frag} {C : Addr} {f : Str} (n : NoAttr K C f) : PySem.W.takerIn K C f = some none:=by
 unfold PySem.W.takerIn
 rw [show PySem.W.findIn K (.ref C) f = some none from n]
 rfl
structure Meth (K : PySem.W.Frag) (C : Addr) (m : Str) (f : Addr) : Prop where
 at_ : PySem.W.findIn K (.ref C) m = some (some (.ref f))
 fn : PySem.W.isFn K (.ref f) = true
 kp : PySem.W.keepIn K (.ref f) = true
section
variable {X : Cx} {pins : List (Addr × Obj)} {σ : St} {H : Hp} {s : Shared} {a C dx : Addr} {fs : List (Str × V)} {f : Str} {v : V} {A : Around} {E : Value -> Shared -> Prop}
theorem zgK {b : Bool} {Q : Value -> Shared -> Prop} (I : Inv X pins σ H s) (e : H a = some (.ins C dx fs)) (c : Cls X.K C) (n : NoAttr X.K C f) (l : fs.lookup f = some v)
  (h : ∀ u s',Inv X pins σ H s' -> RelV v u -> Q u s') : wpAny (model X.prog X.w) A (getAttr (.ref a) f b) Q E s:=by
 obtain ⟨mA,O,r,_,_,_⟩:=zcA I.hok e
 obtain ⟨u,hu,ru⟩:=RelO.some_of (v:=v) (o:=mA f) (by rw [<- l]; exact r f)
 exact zjj I.kIn O (c.get f) c.hd n hu (zhj ru) (h u _ (I.tok _) ru)
theorem zdo {m : Str} {g : Addr} {pl : Sem Bool} {Q : Value × List Value -> Shared -> Prop} (I : Inv X pins σ H s) (e : H a = some (.ins C dx fs)) (c : Cls X.K C) (k : Meth X.K C m g) (l : fs.lookup m = none)
  (h : Q (.ref g,[.ref a]) s) : wpAny (model X.prog X.w) A (getMethod (.ref a) m pl) Q E s:=by
 obtain ⟨mA,O,r,_,_,_⟩:=zcA I.hok e
 have hn : mA m = none:=RelO.none_of (by rw [<- l]; exact r m)
 exact zie I.kIn O (c.get m) k.at_ k.fn hn h
theorem zgL {y : V} {u : Value} {Q : Unit -> Shared -> Prop} (I : Inv X pins σ H s) (e : H a = some (.ins C dx fs)) (c : Cls X.K C) (n : NoAttr X.K C f) (hl : fs.length < 1000) (ry : RelV y u)
  (h : ∀ s',Inv X pins σ (upd H a (.ins C dx (putF f y fs))) s' -> Q () s') : wpAny (model X.prog X.w) A (setAttr (.ref a) f u) Q E s:=by
 obtain ⟨mA,O,r,wi,_,ho⟩:=zcA I.hok e
 have hz : (fs.map (·.1)).length <= sizeLine:=by rw [List.length_map,sizeLine_eq]; lia
 refine zjk I.kIn O c.sa c.po n.taker c.hd wi hz λh' O' sb=>h _ ?_
 have hd : ∃ o,h'.get? dx = some o:=let ⟨o,_,_,e',_⟩:=O'.ns; ⟨o,e'⟩
 refine I.write (x:=a) (e:=dx) (by rw [e]; exact True.intro) (.inr ho) (λb q hb z=>(sb.2 b hb).trans z) hd ?_
 refine ⟨by rw [yaw O.ne]; exact ho,?_,O.ne,O'.obj,_,O'.ns,λg=>?_,λg hg=>?_⟩
 ·have:=zcQ f y fs; lia
 ·show RelO ((putF f y fs).lookup g) (if g = f then some u else mA g)
  rw [zbb]
  by_cases q : g = f
  ·rw [if_pos q,if_pos q]; exact ry
  ·rw [if_neg q,if_neg q]; exact r g
 ·by_cases q : g = f
  ·rw [q]; exact (zcf f y fs).1
  ·refine (zcf f y fs).2 g (wi g λz=>hg ?_)
   show (if g = f then some u else mA g) = none
   rw [if_neg q]; exact z
theorem Inv.made (I : Inv X pins σ H s) : Inv X pins σ (upd (upd H s.heap.objs.size (.own (s.heap.objs.size + 1))) (s.heap.objs.size + 1) (.ins C s.heap.objs.size []))
  { s with heap:=(s.heap.push PySem.W.emptyDict).push (PySem.W.instObj C s.heap.objs.size) }:=by
 have e1 : (s.heap.push PySem.W.emptyDict).get? s.heap.objs.size = some PySem.W.emptyDict:=Heap.get?_push_size s.heap rfl
 have e2 : ((s.heap.push PySem.W.emptyDict).push (PySem.W.instObj C s.heap.objs.size)).get? (s.heap.objs.size + 1) = some (PySem.W.instObj C s.heap.objs.size):=by
  have:=Heap.get?_push_size (s.heap.push PySem.W.emptyDict) (o:=PySem.W.instObj C s.heap.objs.size) rfl
  rwa [Heap.size_push] at this
 have e3 : (s.heap.push PySem.W.emptyDict).Ns s.heap.objs.size (λ_=>none):=⟨PySem.W.emptyDict,#[],_,e1,rfl,(λe he=>absurd he (by simp)),λ_=>rfl⟩
 have I1:=I.laid (a:=s.heap.objs.size) (o:=.own (s.heap.objs.size + 1)) (h' := s.heap.push PySem.W.emptyDict) (t' := s.toks) (λb u q=>Heap.get?_push_of_some _ q) (Nat.le_refl _) ⟨_,e1⟩
 refine I1.laid (a:=s.heap.objs.size + 1) (o:=.ins C s.heap.objs.size []) (t' := s.toks) (λb u q=>Heap.get?_push_of_some _ q) (Nat.le_of_eq (Heap.size_push _ _)) ?_
 have ne : s.heap.objs.size ≠ s.heap.objs.size + 1:=Nat.ne_of_lt (Nat.lt_succ_self _)
 refine ⟨by rw [yaw ne,zaq],Nat.zero_le _,ne,e2,λ_=>none,(Heap.Ns1.of_empty e3).at λo q=>Heap.get?_push_of_some _ q,λ_=>True.intro,λy hy=>absurd rfl hy⟩
theorem zjl {prog : Program} {w : World} {env : Env} {e : Expr} {f : Str} {pos : Pos} {s : Shared} {Q : Value -> Shared -> Prop} (hb : attributeBase e f env (eval e env) = eval e env)
  (h : wpAny (model prog w) A (eval e env) (λo s₁=>wpAny (model prog w) A (getAttr o f true) Q E s₁) E s) : wpAny (model prog w) A (eval (.Attribute e f pos) env) Q E s :=
 Attribute_any_ h (by rw [arm_eval_Attribute,hb])
end
def tFld (K : PySem.W.Frag) (ta : TE) (f : Str) : TE:=λσ H Q=>ta σ H λx H1=>∃ a C dx fs v,x = .ref a /\ H1 a = some (.ins C dx fs) /\ Cls K C /\ NoAttr K C f /\ fs.lookup f = some v /\ Q v H1
def sFld (K : PySem.W.Frag) (ta tv : TE) (f : Str) : TS:=λD σ H=>tv σ H λy H1=>ta σ H1 λx H2=>∃ a C dx fs,x = .ref a /\ H2 a = some (.ins C dx fs) /\ Cls K C /\ NoAttr K C f /\ fs.length < 1000 /\
 D.nx σ (upd H2 a (.ins C dx (putF f y fs)))
section
variable {X : Cx} {o e value : Expr} {f : Str} {pos pos' tpos : Pos} {ta tv : TE}
theorem ygO (he : PE X e ta) (hb : attributeBase e f X.env (eval e X.env) = eval e X.env) : PE X (.Attribute e f pos) (tFld X.K ta f):=by
 intro pins s σ H Q I h
 refine zjl hb (thn (he pins s σ H _ I h) λu s1 Zz=>?_);obtain ⟨x,H1,I1,rx,a,C,dx,fs,v,ex,ea,c,n,l,q⟩:=Zz
 subst ex
 obtain rfl : u = Value.ref a:=rx
 exact zgK I1 ea c n l λu' s2 I2 ru=>⟨v,H1,I2,ru,q⟩
theorem ygP (ha : PE X o ta) (hv : PE X value tv) (hs : swapsWith value (some (.Attribute o f pos')) pos.line X.env = pure false) : PS X (.Assign [.Attribute o f pos'] value pos) (sFld X.K ta tv f):=by
 intro pins s σ H D I h
 refine plainObj_wpAny_Assign_Attribute (thn (hv pins s σ H _ I h) λu s1 ⟨y,H1,I1,ry,q⟩=>thn (ha pins s1 σ H1 _ I1 q) λov s2 Zz=>?_) hs;obtain ⟨x,H2,I2,rx,a,C,dx,fs,ex,ea,c,n,l,q2⟩:=Zz
 subst ex
 obtain rfl : ov = Value.ref a:=rx
 exact zgL I2 ea c n l ry λs3 I3=>⟨σ,_,I3,q2⟩
end
section
variable {X : Cx} {pins : List (Addr × Obj)} {σ : St} {H : Hp} {s : Shared} {A : Around} {E : Value -> Shared -> Prop} {Q : Value -> Shared -> Prop} {c : Value} {b : Bool}
inductive TyOf (K : PySem.W.Frag) (H : Hp) : V -> Value -> Prop where
 | non : TyOf K H .non (.type "NoneType")
 | bl (x : Bool) : TyOf K H (.bl x) (.type "bool")
 | int (i : Int) : TyOf K H (.int i) (.type "int")
 | str (x : Str) : TyOf K H (.str x) (.type "str")
 | flt (x : UInt64) : TyOf K H (.flt x) (.type "float")
 | lst {a : Addr} {xs : List V} (e : H a = some (.lst xs)) : TyOf K H (.ref a) (.type "list")
 | frz {a : Addr} {o : Obj} {xs : List V} (e : H a = some (.frz o (.lst xs))) : TyOf K H (.ref a) (.type "list")
 | tup {a : Addr} {xs : List V} (e : H a = some (.tup xs)) : TyOf K H (.ref a) (.type "tuple")
 | dK {a : Addr} {kvs : List (Key × V)} (e : H a = some (.dK kvs)) : TyOf K H (.ref a) (.type "dict")
 | dT {a : Addr} {xc : Option (List Addr)} {kvs : List (List Key × V)} (e : H a = some (.dT xc kvs)) : TyOf K H (.ref a) (.type "dict")
 | ins {a C dx : Addr} {fs : List (Str × V)} (e : H a = some (.ins C dx fs)) (cl : Cls K C) (ha : PySem.W.findIn K (.ref C) "__class__" = some (some (.builtin "object.__class__")))
   (hn : PySem.W.specialIn K (.builtin "object.__class__") "__get__" = some (some (.builtin "getset_descriptor.__get__"))) (htk : PySem.W.takesIn K (.builtin "object.__class__") = some true)
   (hm : PySem.W.mroIn K C (.type "object") = some true) : TyOf K H (.ref a) (.ref C)
theorem zhk {x : V} {u t : Value} (I : Inv X pins σ H s) (rx : RelV x u) (ty : TyOf X.K H x t) (e : PySem.W.kitOne X.K t c = some b) (h : ∀ tk,Q (.bool b) { s with toks:=tk }) :
  wpAny (model X.prog X.w) A (call (.builtin "isinstance") [u,c]) Q E s:=by
 cases ty with
 | non=>cases (show u = Value.none from rx); exact PySem.W.kia_one PySem.W.kitx_none I.kIn True.intro e (λz=>nomatch z) h
 | bl y=>cases (show u = Value.bool y from rx); exact PySem.W.kia_one PySem.W.kitx_bool I.kIn True.intro e (λz=>nomatch z) h
 | int i=>obtain ⟨t,q⟩:=(show ∃ t,u = Value.int i t from rx); cases q; exact PySem.W.kia_one PySem.W.kitx_int I.kIn True.intro e (λz=>nomatch z) h
 | str y=>obtain ⟨t,q⟩:=(show ∃ t,u = Value.str y t from rx); cases q; exact PySem.W.kia_one PySem.W.kitx_str I.kIn True.intro e (λz=>nomatch z) h
 | flt y=>obtain ⟨t,q⟩:=(show ∃ t,u = Value.float y t from rx); cases q; exact PySem.W.kia_one PySem.W.kitx_float I.kIn True.intro e (λz=>nomatch z) h
 | @lst a xs ea =>
  cases (show u = Value.ref a from rx)
  obtain ⟨_,_,n,_,h1⟩:=(show ObjOk X.prog X.w H s.heap a (.lst xs) from I.hok a _ ea)
  exact PySem.W.kia_one PySem.W.kitx_list I.kIn ⟨_,h1,rfl⟩ e (λz=>nomatch z) h
 | @frz a ob xs ea =>
  cases (show u = Value.ref a from rx)
  obtain ⟨_,_,_,n,_,h1⟩:=(show ObjOk X.prog X.w H s.heap a (.frz ob (.lst xs)) from I.hok a _ ea)
  exact PySem.W.kia_one PySem.W.kitx_list I.kIn ⟨_,h1,rfl⟩ e (λz=>nomatch z) h
 | @tup a xs ea =>
  cases (show u = Value.ref a from rx)
  obtain ⟨_,_,_,p⟩:=(show ObjOk X.prog X.w H s.heap a (.tup xs) from I.hok a _ ea)
  obtain ⟨o,h1,h2,_⟩:=p
  exact PySem.W.kia_one PySem.W.kitx_tuple I.kIn ⟨o,h1,h2⟩ e (λz=>nomatch z) h
 | @dK a kvs ea =>
  cases (show u = Value.ref a from rx)
  obtain ⟨_,_,vs,_,p⟩:=(show ObjOk X.prog X.w H s.heap a (.dK kvs) from I.hok a _ ea)
  obtain ⟨o,es,ep,h1,h2,_⟩:=p
  exact PySem.W.kia_one PySem.W.kitx_dict I.kIn ⟨o,h1,h2.1⟩ e (λz=>nomatch z) h
 | @dT a xc kvs ea =>
  cases (show u = Value.ref a from rx)
  obtain ⟨_,_,xs,_,o,es,ep,h1,h2,_⟩:=(show ObjOk X.prog X.w H s.heap a (.dT xc kvs) from I.hok a _ ea)
  exact PySem.W.kia_one PySem.W.kitx_dict I.kIn ⟨o,h1,h2.1⟩ e (λz=>nomatch z) h
 | @ins a C dx fs ea cl ha hn htk hm =>
  cases (show u = Value.ref a from rx)
  obtain ⟨mA,O,_⟩:=zcA I.hok ea
  obtain ⟨od,J,_⟩:=O.look
  exact PySem.W.kia_one (PySem.W.kitx_own (cl.get _) cl.hd ha hn htk hm) I.kIn J e (λz=>nomatch z) h
end
structure Room (k : Nat) (A : Around) : Prop where
 hd : A.handled = none
 dp : A.depth + 3 * k + 5 < recursionLimit
 un : A.units + 16 * k + 200 < cLine
theorem Room.mono {j k : Nat} {A : Around} (r : Room k A) (h : j <= k) : Room j A:=⟨r.hd,by have:=r.dp; lia,by have:=r.un; lia⟩
theorem Room.deeper {k : Nat} {A : Around} (r : Room (k + 1) A) (env : Env) : Room k (A.deeper env) :=
 ⟨r.hd,by have:=r.dp; show A.depth + 1 + 3 * k + 5 < _; lia,by have:=r.un; show A.units + 3 + 16 * k + 200 < _; lia⟩
theorem zgM {A : Around} {C : Addr} {us : List Value} {kw : List (Str × Value)} : (A.under (.builtin "type.__call__" ⟨.ref C :: us,kw⟩)).depth = A.depth + 1:=by
 first | rfl | simp [Around.under,Code.weight,Code.isCreation,Code.isGuard,Code.isCaller,Code.frames,Code.isFrame,guardIds]
theorem zgN {A : Around} {C : Addr} {us : List Value} {kw : List (Str × Value)} : (A.under (.builtin "type.__call__" ⟨.ref C :: us,kw⟩)).units = A.units + 1:=by
 first | rfl | simp [Around.under,Code.cUnits,Code.frames,Code.isFrame]
theorem Room.make {k : Nat} {A : Around} (r : Room (k + 1) A) (C : Addr) (us : List Value) (kw : List (Str × Value)) : Room k (A.under (.builtin "type.__call__" ⟨.ref C :: us,kw⟩)) :=
 ⟨r.hd,by have:=r.dp; rw [zgM]; lia,by have:=r.un; rw [zgN]; lia⟩
theorem Room.depth {k : Nat} {A : Around} (r : Room k A) : A.depth < recursionLimit:=by have:=r.dp; lia
def tNil : TA:=λ_ H Q=>Q [] H
def yia (ta : TE) (tr : TA) : TA:=λσ H Q=>ta σ H λx H1=>tr σ H1 λxs H2=>Q (x :: xs) H2
section
variable {X : Cx} {e : Expr} {es : List Expr} {te : TE} {t : TA} {pos : Pos}
theorem yff : PA X [] tNil:=λ_ _ _ _ H Q I h=>Calls.spliced_nil ⟨[],H,I,.nil,h⟩
theorem zbG (ha : PE X e te) (hr : PA X es t) (hs : starEach (e :: es) X.env = (false,eval e X.env) :: starEach es X.env:=by rfl) : PA X (e :: es) (yia te t):=by
 intro pos pins s σ H Q I h
 rw [hs]
 show wpAny _ _ (spliced ((false,eval e X.env) :: backTo pos (starEach es X.env))) _ _ s
 refine Calls.spliced_cons (thn (ha pins s σ H _ I h) λu s1 Zz=>?_);obtain ⟨x,H1,I1,r1,q1⟩:=Zz
 exact thn (hr pos pins s1 σ H1 _ I1 q1) λus s2 ⟨xs,H2,I2,r2,q2⟩=>⟨x :: xs,H2,I2,.cons r1 r2,q2⟩
def tTup (t : TA) : TE:=λσ H Q=>t σ H λxs H1=>xs.length <= sizeLine /\ ∀ p,H1 p = none -> Q (.ref p) (upd H1 p (.tup xs))
def tLst (t : TA) : TE:=λσ H Q=>t σ H λxs H1=>xs.length <= sizeLine /\ ∀ p,H1 p = none -> Q (.ref p) (upd H1 p (.lst xs))
theorem ygQ {x1} (h : PA X es t) : PE X (.Tuple es x1 pos) (tTup t):=by
 intro pins s σ H Q I hq
 refine wpAny_Tuple_spliced (thn (h pos pins s σ H _ I hq) λus s1 ⟨xs,H1,I1,r,z,q⟩=>⟨by rw [<- r.length]; exact z,?_⟩)
 have hf : H1 s1.heap.objs.size = none:=I1.hok.fresh (Nat.le_refl _)
 refine ⟨.ref s1.heap.objs.size,upd H1 s1.heap.objs.size (.tup xs),I1.laid (t' := s1.toks) (λb u e=>Heap.get?_push_of_some _ e) (Nat.le_refl _) ?_,rfl,q _ hf⟩
 exact ⟨z,us,r,⟨_,Heap.get?_push_size _ rfl,rfl,_,rfl⟩⟩
theorem yfB (h : PA X es t) : PE X (.List es pos) (tLst t):=by
 intro pins s σ H Q I hq
 refine wpAny_List_spliced (thn (h pos pins s σ H _ I hq) λus s1 ⟨xs,H1,I1,r,z,q⟩=>⟨by rw [<- r.length]; exact z,?_⟩)
 have hf : H1 s1.heap.objs.size = none:=I1.hok.fresh (Nat.le_refl _)
 refine ⟨.ref s1.heap.objs.size,upd H1 s1.heap.objs.size (.lst xs),I1.laid (t' := s1.toks) (λb u e=>Heap.get?_push_of_some _ e) (Nat.le_refl _) ?_,rfl,q _ hf⟩
 exact ⟨z,us,0,r,Heap.get?_push_size _ rfl⟩
end
abbrev Sp:=List V -> Hp -> VK -> XK -> Prop
abbrev CXT:=List Env -> Hp -> Shared -> XK -> Value -> Shared -> Prop
structure Env0 (P : Program) (w : World) (K : PySem.W.Frag) (mg : Str -> Option Value) (base : Heap) (A : Around) (outer : List Env) (s : Shared) (H : Hp) : Prop where
 frames : A.frames = some outer
 mod : Mod K mg base
 bs : ∀ b o,base.get? b = some o -> s.heap.get? b = some o /\ H b = none
 bsz : base.objs.size <= s.heap.objs.size
 funs : s.heap.FunFrames base outer
 frf : ∀ b ∈ frs outer,H b = none
 hok : HOk P w H s.heap
 bare : AllBare s.gens
def CE (outer : List Env) (P : Program) (w : World) (H : Hp) (s : Shared) (Q : VK) (u : Value) (s' : Shared) : Prop :=
 ∃ v H',s'.os = s.os /\ AllBare s'.gens /\ Un (frs outer) [] H H' s.heap s'.heap /\ HOk P w H' s'.heap /\ RelV v u /\ Q v H'
def CR (CX : CXT) (outer : List Env) (P : Program) (w : World) (H : Hp) (s : Shared) (Q : VK) (E : XK) (r : Result) (s' : Shared) : Prop :=
 match r with
 | .ok (.ret u)=>CE outer P w H s Q u s'
 | .ok _=>False
 | .error e=>CX outer H s E e s'
structure FnOk (P : Program) (w : World) (K : PySem.W.Frag) (mg : Str -> Option Value) (base : Heap) (CX : CXT) (k : Nat) (f : Addr) (fd : FuncData) (ps : List Str) (sp : Sp) : Prop where
 len : ∀ vs H Q E,sp vs H Q E -> vs.length = ps.length
 run : ∀ (A : Around) (outer : List Env) (s : Shared) (H : Hp) (args : Args) (us : List Value) (vs : List V) (Q : VK) (E : XK),Room k A -> Env0 P w K mg base A outer s H -> BindsTo s fd args (ps.zip us) -> Vals vs us -> sp vs H Q E ->
  codeAny (model P w) A (.call (.ref f) args) (CR CX outer P w H s Q E) s
theorem FnOk.imp {P : Program} {w : World} {K : PySem.W.Frag} {mg : Str -> Option Value} {base : Heap} {CX : CXT} {k : Nat} {f : Addr} {fd : FuncData} {ps : List Str} {sp sp' : Sp} (F : FnOk P w K mg base CX k f fd ps sp)
  (h : ∀ vs H Q E,sp' vs H Q E -> sp vs H Q E) : FnOk P w K mg base CX k f fd ps sp' :=
 ⟨λvs H Q E q=>F.len vs H Q E (h _ _ _ _ q),λA outer s H args us vs Q E hr he hb hv hs=>F.run A outer s H args us vs Q E hr he hb hv (h _ _ _ _ hs)⟩
theorem Env0.make {P : Program} {w : World} {K : PySem.W.Frag} {mg : Str -> Option Value} {base : Heap} {A : Around} {outer : List Env} {s : Shared} {H : Hp} (e : Env0 P w K mg base A outer s H) (C : Addr) (us : List Value) (kw : List (Str × Value)) :
  Env0 P w K mg base (A.under (.builtin "type.__call__" ⟨.ref C :: us,kw⟩)) outer s H:=⟨by first | exact e.frames | (simpa [Around.under,Code.envs,Code.isFrame,pushEnvs] using e.frames),e.mod,e.bs,e.bsz,e.funs,e.frf,e.hok,e.bare⟩
section
variable {X : Cx} {pins : List (Addr × Obj)} {σ : St} {H : Hp} {s s' : Shared}
theorem Inv.env0 (I : Inv X pins σ H s) : Env0 X.prog X.w X.K X.mg X.base X.A X.stack s H :=
 ⟨I.ok.frames,I.ok.mod,I.bs,Nat.le_trans I.ok.bsz I.sz,I.stack,I.stkFree,I.hok,I.bare⟩
theorem Inv.after {Q : VK} {u : Value} (I : Inv X pins σ H s) (h : CE X.stack X.prog X.w H s Q u s') : EP X pins σ Q u s' := by
 obtain ⟨v,H',os,bare,un,hok,r,q⟩:=h
 obtain ⟨hh,g,d,t,os'⟩:=s'
 obtain rfl : os' = s.os:=os
 exact ⟨v,H',I.call (h' := hh) (g' := g) (d' := d) (t' := t) (ch:=[]) un hok bare (λb z=>absurd z (by simp)),r,q⟩
end
def Binds (K : PySem.W.Frag) (fd : FuncData) (ps : List Str) (ds : List Value) : Prop :=
 ∀ (s : Shared) (us : List Value),K.In s.heap -> (us++ds).length = ps.length -> BindsTo s fd ⟨us,[]⟩ (ps.zip (us++ds))
theorem Binds.all {K : PySem.W.Frag} {fd : FuncData} {ps : List Str} (h : ∀ us : List Value,us.length = ps.length -> bindArgs fd ⟨us,[]⟩ = pure (ps.zip us)) : Binds K fd ps []:=λs us _ hl=>by
 rw [List.append_nil] at hl ⊢
 exact .of_eq (h us hl)
def ygR (CX : CXT) (X : Cx) (E : XK) : Prop:=∀ (pins : List (Addr × Obj)) (σ : St) (H : Hp) (s : Shared) (e : Value) (s' : Shared),Inv X pins σ H s -> CX X.stack H s E e s' -> X.xe e s'
section
variable {X : Cx} {CX : CXT} {k : Nat} {f C : Addr} {fd : FuncData} {ps : List Str} {sp : Sp} {dvs : List V} {ds : List Value} {E : XK} {x m : Str} {p pos apos : Pos} {e o : Expr} {es : List Expr} {ta : TE} {t : TA}
structure Mk (K : PySem.W.Frag) (C f : Addr) : Prop where
 makes : PySem.W.makesIn K C = true
 init : PySem.W.findIn K (.ref C) "__init__" = some (some (.ref f))
 fn : PySem.W.isFn K (.ref f) = true
 kp : PySem.W.keepIn K (.ref C) = true
end
section
variable {X : Cx} {CX : CXT} {k : Nat} {f C : Addr} {fd : FuncData} {ps ks : List Str} {sp : Sp} {E : XK} {x m : Str} {p pos apos kpos : Pos} {e o : Expr} {es : List Expr} {kws : List Keyword} {te ta : TE} {t tk : TA} {nm : Option Str}
variable {g : List Value -> List Value -> List Value} {gV : List V -> List V -> List V}
end
structure FnScope (N P : List Str) (sc : Scope) : Prop where
 kind : sc.kind = .function
 co : sc.isCoroutine = false
 gen : sc.isGenerator = false
 nd : N.Nodup
 pre : N.take P.length = P
 par : ∀ x ∈ P,sc.names.lookup x = some .local \/ sc.names.lookup x = some .cell
 nofree : ∀ y ∈ sc.names,y.2 ≠ .free
theorem zd9 {kindOf : Str -> Option NameKind} {x : Str} : ∀ {binds : List (Str × Value)} {m : Str -> Option Value},(∀ v,(x,v) ∉ binds) -> bindL kindOf binds m x = m x
 | [],_,_=>rfl
 | (n,v) :: r,m,h=>by
  unfold bindL
  rw [zd9 λw hw=>h w (List.mem_cons_of_mem _ hw)]
  split
  ·have : x ≠ n:=by rintro rfl; exact h v List.mem_cons_self
   simp [this]
  ·rfl
theorem zea {kindOf : Str -> Option NameKind} {x : Str} : ∀ {binds : List (Str × Value)} {m : Str -> Option Value},(∀ v,(x,v) ∉ binds) -> bindC kindOf binds m x = m x
 | [],_,_=>rfl
 | (n,v) :: r,m,h=>by
  unfold bindC
  rw [zea λw hw=>h w (List.mem_cons_of_mem _ hw)]
  split
  ·rfl
  ·have : x ≠ n:=by rintro rfl; exact h v List.mem_cons_self
   simp [this]
theorem zeb {kindOf : Str -> Option NameKind} {x : Str} {v : Value} : ∀ {P : List Str} {vs : List Value} {i : Nat} {m : Str -> Option Value},P.Nodup -> P[i]? = some x -> vs[i]? = some v -> kindOf x = some .local ->
  bindL kindOf (P.zip vs) m x = some v
 | [],_,_,_,_,h,_,_=>by simp at h
 | _ :: _,[],_,_,_,_,h,_=>by simp at h
 | p :: P,w :: vs,0,m,nd,h1,h2,hk=>by
  simp at h1 h2; subst h1; subst h2
  show bindL kindOf ((p,w) :: P.zip vs) m p = _
  unfold bindL
  rw [zd9 λv hv=>(List.nodup_cons.mp nd).1 (List.of_mem_zip hv).1,if_pos hk]
  simp
 | p :: P,w :: vs,i + 1,m,nd,h1,h2,hk=>by
  show bindL kindOf ((p,w) :: P.zip vs) m x = _
  unfold bindL
  exact zeb (i:=i) (List.nodup_cons.mp nd).2 (by simpa using h1) (by simpa using h2) hk
theorem zec {kindOf : Str -> Option NameKind} {x : Str} {v : Value} : ∀ {P : List Str} {vs : List Value} {i : Nat} {m : Str -> Option Value},P.Nodup -> P[i]? = some x -> vs[i]? = some v -> kindOf x ≠ some .local ->
  bindC kindOf (P.zip vs) m x = some v
 | [],_,_,_,_,h,_,_=>by simp at h
 | _ :: _,[],_,_,_,_,h,_=>by simp at h
 | p :: P,w :: vs,0,m,nd,h1,h2,hk=>by
  simp at h1 h2; subst h1; subst h2
  show bindC kindOf ((p,w) :: P.zip vs) m p = _
  unfold bindC
  rw [zea λv hv=>(List.nodup_cons.mp nd).1 (List.of_mem_zip hv).1,if_neg hk]
  simp
 | p :: P,w :: vs,i + 1,m,nd,h1,h2,hk=>by
  show bindC kindOf ((p,w) :: P.zip vs) m x = _
  unfold bindC
  exact zec (i:=i) (List.nodup_cons.mp nd).2 (by simpa using h1) (by simpa using h2) hk
def start (N : List Str) (vs : List V) : St:=vs.map some++List.replicate (N.length - vs.length) none
def cxOf (CX : CXT) (P : Program) (w : World) (K : PySem.W.Frag) (mg : Str -> Option Value) (base : Heap) (N : List Str) (qual : Str) (scope : Scope) (f : Addr) (cd : Value) (A : Around) (outer : List Env) (s : Shared) (H : Hp) (E : XK) : Cx where
 prog:=P
 w:=w
 K:=K
 mg:=mg
 base:=base
 A:=A.deeper (envOfC qual scope s.heap.objs.size f cd)
 N:=N
 s₀:=s
 H₀:=H
 env:=envOfC qual scope s.heap.objs.size f cd
 outer:=outer
 stack:=envOfC qual scope s.heap.objs.size f cd :: outer
 ex:=[]
 calm:=true
 fn:=λ_=>true
 pn:=[]
 xe:=λe s' => wpAny (model P w) (A.deeper (envOfC qual scope s.heap.objs.size f cd)) (leaving (envOfC qual scope s.heap.objs.size f cd) e) (λ_ s'' => CX outer H s E e s'') (λe' s'' => CX outer H s E e' s'') s'
theorem zeU {sc : Scope} {n : Nat} {x : Str} (h : sc.names.lookup x = some .cell) : ∃ c,(cellsFrom n sc.names []).lookup x = some c:=by
 have q:=PySem.W.cellsFrom_some sc.names n [] (.inl h)
 exact Option.isSome_iff_exists.mp q
theorem zhl {CX : CXT} {P : Program} {w : World} {K : PySem.W.Frag} {mg : Str -> Option Value} {base : Heap} {N ps : List Str} {qual : Str} {scope : Scope} {f : Addr} {cd : Value} {A : Around} {outer : List Env} {s s1 : Shared} {H : Hp} {E : XK} {us : List Value} {vs : List V}
  (S : FnScope N ps scope) (hd : A.handled = none) (e0 : Env0 P w K mg base A outer s H) (hl : vs.length = ps.length) (r : Vals vs us)
  (x : InCallC s s.heap.objs.size (bindL (envOfC qual scope s.heap.objs.size f cd).kindOf (ps.zip us) λ_=>none) (cellsFrom (s.heap.objs.size + 1) scope.names []) (bindC (envOfC qual scope s.heap.objs.size f cd).kindOf (ps.zip us) λ_=>none) s1) :
  Inv (cxOf CX P w K mg base N qual scope f cd A outer s H E) [] (start N vs) H s1:=by
 have hpl : ps.length <= N.length:=by have:=congrArg List.length S.pre; rw [List.length_take] at this; omega
 obtain ⟨h1,tk,rfl,hk⟩:=x.done
 have noA : ∀ b : Addr,b ∉ (cxOf CX P w K mg base N qual scope f cd A outer s H E).ex:=λb z=>absurd (show b ∈ ([] : List Addr) from z) (by simp)
 refine ⟨⟨e0.mod,S.kind,rfl,rfl,Nat.le_refl _,λy z c h1 h2=>?_,λy hy=>?_,λy c _ h=>?_,λ_=>hd,Around.frames_deeper e0.frames,.inr ⟨rfl,rfl⟩,λb z=>absurd z (noA b),e0.bs,e0.bsz,λb _ _=>noA b,λb z=>absurd z (noA b),e0.funs,e0.frf⟩,
  rfl,e0.bare,Un.kept hk,⟨_,x.toInCall.ns,λi y v h1 h2 h3=>?_⟩,λy c h=>⟨_,x.cell y c h⟩,e0.hok.fresh (Nat.le_refl _),λy c h=>?_,λp hp=>absurd (show p ∈ ([] : List (Addr × Obj)) from hp) (by simp),e0.hok.kept hk,?_⟩
 ·exact name_of_addr x.apart (PySem.mem_of_lookup h1) (PySem.mem_of_lookup h2)
 ·have hy : scope.names.lookup y = some .cell \/ scope.names.lookup y = some .free:=hy
  rcases hy with hy | hy
  ·exact zeU hy
  ·exact absurd rfl (S.nofree _ (PySem.mem_of_lookup hy))
 ·exact Nat.le_of_lt (x.above y c (PySem.mem_of_lookup h))
 ·have hi : i < vs.length:=by
   unfold start at h2
   by_cases hi : i < vs.length
   ·exact hi
   ·rw [List.getElem?_append_right (by simpa using hi)] at h2
    rw [List.getElem?_replicate] at h2
    split at h2<;>cases h2
  have ha : vs[i]? = some v:=by
   unfold start at h2
   rw [List.getElem?_append_left (by simpa using hi),List.getElem?_map] at h2
   cases e : vs[i]? with
   | none=>rw [e] at h2; cases h2
   | some a=>rw [e] at h2; cases h2; rfl
  obtain ⟨u,hu,rv⟩:=r.get ha
  have hp : ps[i]? = some y:=by
   rw [<- S.pre,List.getElem?_take_of_lt (by omega)]; exact h1
  have ndP : ps.Nodup:=by rw [<- S.pre]; exact S.nd.sublist (List.take_sublist _ _)
  refine ⟨u,rv,?_⟩
  rcases S.par y (List.mem_of_getElem? hp) with k | k
  ·exact .inl ⟨k,zeb ndP hp hu k⟩
  ·obtain ⟨c,e⟩:=zeU (n:=s.heap.objs.size + 1) k
   refine .inr ⟨.inl k,c,e,?_⟩
   have q:=x.cell y c e
   rw [zec ndP hp hu (by show scope.names.lookup y ≠ _; rw [k]; decide)] at q
   exact q
 ·exact e0.hok.fresh (Nat.le_of_lt (x.above y c (PySem.mem_of_lookup h)))
 ·unfold start
  show _ = N.length
  rw [List.length_append,List.length_map,List.length_replicate]
  omega
theorem yib {CX : CXT} {P : Program} {w : World} {K : PySem.W.Frag} {mg : Str -> Option Value} {base : Heap} {k : Nat} {f : Addr} {name qual : Str} {params : Arguments} {body : List Stmt} {scope : Scope} {dV kV doc pm cdv ct oc : Value} {an od : Option Addr}
  {osl : Array (Option Value)} {N ps : List Str} {sp : Sp} (lk : K.lookup f = some ⟨oc,od,.func (PySem.W.fnOf name qual params body scope dV kV doc pm an cdv ct),osl⟩) (hcd : PySem.W.codeIn K cdv qual = true) (S : FnScope N ps scope)
  (len : ∀ vs H Q E,sp vs H Q E -> vs.length = ps.length)
  (hbody : ∀ (A : Around) (outer : List Env) (s : Shared) (H : Hp) (vs : List V) (Q : VK) (E : XK),Room k (A.deeper (envOfC qual scope s.heap.objs.size f cdv)) -> sp vs H Q E ->
   ∃ t,PSs (cxOf CX P w K mg base N qual scope f cdv A outer s H E) body t /\ t { nx:=λ_ H' => Q .non H',rt:=Q } (start N vs) H) :
  FnOk P w K mg base CX (k + 1) f (PySem.W.fnOf name qual params body scope dV kV doc pm an cdv ct) ps sp:=by
 refine ⟨len,λA outer s H args us vs Q E hr e0 hb r hsp=>?_⟩
 have hl:=len _ _ _ _ hsp
 have KX : K.In s.heap:=e0.mod.kin.keeps λb o e=>(e0.bs b o e).1
 have lim : s.heap.NoLimit:=e0.mod.nolimit.keeps λb o e=>(e0.bs b o e).1
 have hkind : ∀ y ∈ ps.zip us,scope.names.lookup y.1 = some .local \/ (scope.names.lookup y.1 = some .cell /\ ((cellsFrom (s.heap.objs.size + 1) scope.names []).lookup y.1).isSome = true):=λ⟨n,v⟩ hy=>by
  rcases S.par n (List.of_mem_zip hy).1 with q | q
  ·exact .inl q
  ·exact .inr ⟨q,PySem.W.cellsFrom_some _ _ _ (.inl q)⟩
 refine codeAny_call_function hr.depth (KX _ _ lk) rfl S.co S.gen rfl (PySem.W.codeRec_of KX hcd) (hb _ _ _ _ ?_)
 refine wpAny_newFunctionEnv_cells S.kind hkind λenv he s1 x=>?_
 subst he
 refine ⟨lim.keeps x.toInCall.keep,codeAny_func ?_⟩
 obtain ⟨t,ht,hq⟩:=hbody A outer s H vs Q E (hr.deeper _) hsp
 have I : Inv (cxOf CX P w K mg base N qual scope f cdv A outer s H E) [] (start N vs) H s1:=zhl S hr.hd e0 hl r x
 refine wpAny_mono (ht [] s1 (start N vs) H _ I hq) (λfl s' hs=>?_) λe s' hs=>hs
 have fin : ∀ {σ' : St} {H' : Hp} {v : V} {u : Value},Inv (cxOf CX P w K mg base N qual scope f cdv A outer s H E) [] σ' H' s' -> RelV v u -> Q v H' -> CE outer P w H s Q u s' :=
  λ{σ' H' v u} J rv q=>⟨v,H',J.os,J.bare,J.base,J.hok,rv,q⟩
 cases fl with
 | ret u =>
  obtain ⟨v,σ',H',J,rv,q⟩:=hs
  exact fin J rv q
 | next =>
  obtain ⟨σ',H',J,q⟩:=hs
  exact fin (v:=V.non) (u:=Value.none) J rfl q
 | brk =>
  obtain ⟨_,_,_,q⟩:=hs
  exact False.elim q
 | cont =>
  obtain ⟨_,_,_,q⟩:=hs
  exact False.elim q
section
variable {X : Cx} {x : Str} {p pos : Pos} {e : Expr} {es : List Expr} {t : TA} {id T : String} {r : List V -> Hp -> VK -> Prop}
def tCB (r : List V -> Hp -> VK -> Prop) (t : TA) : TE:=λσ H Q=>t σ H λvs H1=>r vs H1 Q
theorem zcZ (hc : CallR X (.builtin id) r) (hg : Gl X x) (hm : X.mg x = none) (hv : bootBuiltins x = some (.builtin id)) (ha : PA X (e :: es) t) (hn : x ≠ "__name__" := by decide) (hdb : (x == ("__debug__" : Str)) = false:=by decide)
  (he : starEach (e :: es) X.env = (false,eval e X.env) :: starEach es X.env:=by rfl) (hpl : (backTo pos (starEach es X.env)).any (·.1) = false:=by rfl) : PE X (.Call (.Name x p) (e :: es) [] pos) (tCB r t):=by
 intro pins s σ H Q I h
 refine wpAny_Call_Name_kw (yeo I hg hm hv ?_ hn hdb)
 exact PyProof.Rows.callWith_builtin1 (thn (ha pos pins s σ H _ I h) λus s1 ⟨vs,H1,I1,r1,q1⟩=>hc pins s1 σ H1 vs us Q I1 r1 q1) he hpl
end
end L2
namespace HT
open PySem PyProof.Rows
section
open PySem.SeqAt
open PySem.AutoSeq1 (wpAny_loadPart')
open PySem.MeetsSeq PySem.MeetsSeq2 PySem.MeetsSeq3
end
section
variable {prog : Program} {w : World} {A : Around} {E : Value -> Shared -> Prop} {s : Shared}
theorem cat_tup {t b : Addr} {vs ws : List Value} {Q : Value -> Shared -> Prop} (ht : IsTup s.heap t vs.toArray) (hb : IsTup s.heap b ws.toArray) (hv : vs ≠ [])
  (h1 : ws = [] -> Q (.ref t) s) (h2 : ws ≠ [] -> Q (.ref s.heap.objs.size) { s with heap:=s.heap.push { cls:=.type "tuple",data:=.seq (vs++ws).toArray } })
  (hsz : vs.length + ws.length <= sizeLine) : wpAny (model prog w) A (binaryOp .Add (.ref t) (.ref b)) Q E s:=by
 obtain ⟨⟨cls,dd,data,sl⟩,ho,hc,n,hd⟩:=id ht
 obtain ⟨⟨cls2,dd2,data2,sl2⟩,ho2,hc2,n2,hd2⟩:=id hb
 simp only at hc hd hc2 hd2
 subst hc hd hc2 hd2
 have e : vs.toArray++ws.toArray = (vs++ws).toArray:=by simp
 by_cases hw : ws = []
 ·exact concat_meets ⟨_,ho,rfl⟩ ⟨_,ho2,rfl⟩ noFill_tuple_add seq_tuple_add PySem.F.slot_tuple_add PySem.F.entry_tuple_add (PySem.F.args_tuple_add_2 _ _)
   (tuple_addW1 t b vs.toArray ws.toArray n n2 dd dd2 sl sl2 (by simpa using hv) (by simp [hw])) ⟨ho,ho2,h1 hw⟩
 ·refine concat_meets ⟨_,ho,rfl⟩ ⟨_,ho2,rfl⟩ noFill_tuple_add seq_tuple_add PySem.F.slot_tuple_add PySem.F.entry_tuple_add (PySem.F.args_tuple_add_2 _ _)
   (tuple_addW2 t b vs.toArray ws.toArray n n2 dd dd2 sl sl2 (by simpa using hv) (by simpa using hw) (by rw [List.size_toArray,List.size_toArray]; exact hsz)) ⟨ho,ho2,?_⟩
  rw [e]
  exact h2 hw
def sIx (n d : Nat) : Option Int -> Nat
 | none=>d
 | some v=>if v < 0 then (v + (n : Int)).toNat else min v.toNat n
theorem sIx_none (n d : Nat) : sIx n d none = d:=rfl
theorem sIx_nat (n d k : Nat) : sIx n d (some (k : Int)) = min k n:=by
 show (if (k : Int) < 0 then ((k : Int) + (n : Int)).toNat else min (k : Int).toNat n) = min k n
 rw [if_neg (by lia),Int.toNat_natCast]
theorem sIx_le (n d : Nat) (hd : d <= n) (o : Option Int) : sIx n d o <= n:=by
 cases o with
 | none=>exact hd
 | some v =>
  show (if v < 0 then (v + (n : Int)).toNat else min v.toNat n) <= n
  by_cases hv : v < 0
  ·rw [if_pos hv]; lia
  ·rw [if_neg hv]; exact Nat.min_le_right _ _
theorem zf5 (v : Int) (n d : Nat) : (if v < 0 then max (v + (n : Int)) 0 else min v (n : Int)) = ((sIx n d (some v) : Nat) : Int):=by
 show (if v < 0 then max (v + (n : Int)) 0 else min v (n : Int)) = (((if v < 0 then (v + (n : Int)).toNat else min v.toNat n) : Nat) : Int)
 by_cases hv : v < 0
 ·simp only [if_pos hv]; lia
 ·simp only [if_neg hv]; lia
theorem zgO (lo hi : Option Int) (n : Nat) : Builtin.Slice.sliceAdjust lo hi 1 (n : Int) = (((sIx n 0 lo : Nat) : Int),((sIx n n hi : Nat) : Int)):=by
 have h1 : ¬ ((1 : Int) < 0):=by lia
 unfold Builtin.Slice.sliceAdjust
 simp only [h1,if_false]
 refine Prod.ext ?_ ?_
 ·cases lo with
  | none=>rfl
  | some v=>exact zf5 v n 0
 ·cases hi with
  | none=>rfl
  | some v=>exact zf5 v n n
theorem zgP (i j : Nat) : Builtin.Slice.slicePlaces (i : Int) (j : Int) 1 = j - i:=by
 unfold Builtin.Slice.slicePlaces
 have h1 : (1 : Int) > 0:=by lia
 simp only [h1,if_true,Int.ediv_one]
 split<;>lia
theorem zdp {v : Value} {o : Option Int} {Q : Option Int -> Shared -> Prop} (p : IsPart v o) (h : Q o s) : wpAny (model prog w) A (Builtin.Slice.slicePartIndex v) Q E s:=by
 cases p with
 | none=>exact slicePart_none h
 | int i t=>exact slicePart_int h
theorem zc0 {sl : Addr} {vl vu : Value} {lo hi : Option Int} {n : Nat} {Q : Int × Int × Nat -> Shared -> Prop} (hs : s.heap.IsSliceOf sl vl vu .none) (pl : IsPart vl lo) (pu : IsPart vu hi)
  (h : Q (((sIx n 0 lo : Nat) : Int),1,sIx n n hi - sIx n 0 lo) s) : wpAny (model prog w) A (Builtin.Slice.sliceApplied (.ref sl) (pure (n : Int))) Q E s:=by
 obtain ⟨os,hos,hcs,hds⟩:=id hs
 unfold Builtin.Slice.sliceApplied Builtin.Slice.sliceFields
 refine wpAny_bind (wpAny_bind (wpAny_field hos hds (x:=vl) rfl (wpAny_bind (wpAny_field hos hds (x:=vu) rfl (wpAny_bind (wpAny_field hos hds (x:=.none) rfl (wpAny_pure ?_)))))))
 refine wpAny_bind (slicePart_none ?_)
 show wpAny _ _ (if ((1 : Int) == 0) = true then _ else _) _ _ s
 rw [if_neg (by decide)]
 refine wpAny_bind (zdp pl (wpAny_bind (zdp pu (wpAny_bind (wpAny_pure ?_)))))
 show wpAny _ _ (match Builtin.Slice.sliceAdjust lo hi 1 (n : Int) with | (lo,hi)=>pure (lo,(1 : Int),Builtin.Slice.slicePlaces lo hi 1)) _ _ s
 rw [zgO lo hi n]
 show wpAny _ _ (pure (((sIx n 0 lo : Nat) : Int),(1 : Int),Builtin.Slice.slicePlaces ((sIx n 0 lo : Nat) : Int) ((sIx n n hi : Nat) : Int) 1)) _ _ s
 rw [zgP]
 exact wpAny_pure h
theorem zig (xs : Array Value) (i k : Nat) : ((List.range k).filterMap λ(m : Nat)=>xs[((i : Int) + (m : Int) * 1).toNat]?).toArray = ((xs.toList.drop i).take k).toArray:=by
 have e : (λ(m : Nat)=>xs[((i : Int) + (m : Int) * 1).toNat]?) = λm=>xs[i + m]? := by
  funext m
  have : ((i : Int) + (m : Int) * 1).toNat = i + m:=by lia
  rw [this]
 rw [e]
 have:=pick_run xs i k
 rw [List.filterMap_map] at this
 have e2 : ((λx=>xs[x]?) ∘ λx=>i + x) = λm=>xs[i + m]? := rfl
 rw [e2] at this
 rw [this]
theorem getItem_tuple_cut {t sl : Addr} {items : Array Value} {vl vu : Value} {lo hi : Option Int} {Q : Value -> Shared -> Prop} (ht : IsTup s.heap t items) (hs : s.heap.IsSliceOf sl vl vu .none) (pl : IsPart vl lo) (pu : IsPart vu hi)
  (hw : ¬ (sIx items.size 0 lo = 0 /\ sIx items.size items.size hi = items.size))
  (h : Q (.ref s.heap.objs.size) { s with heap:=s.heap.push { cls:=.type "tuple",data:=.seq ((items.toList.drop (sIx items.size 0 lo)).take (sIx items.size items.size hi - sIx items.size 0 lo)).toArray } })
  (hsz : items.size <= sizeLine) : wpAny (model prog w) A (getItem (.ref t) (.ref sl)) Q E s:=by
 have htake : sizeOk (.seq ((items.toList.drop (sIx items.size 0 lo)).take (sIx items.size items.size hi - sIx items.size 0 lo)).toArray):=by
  show ((items.toList.drop (sIx items.size 0 lo)).take (sIx items.size items.size hi - sIx items.size 0 lo)).toArray.size <= sizeLine
  rw [List.size_toArray,List.length_take,List.length_drop,Array.length_toList]
  omega
 have hj : sIx items.size items.size hi <= items.size:=sIx_le _ _ (Nat.le_refl _) hi
 obtain ⟨os,hos,hcs,hds⟩:=id hs
 have hTs : s.TypeIs (.ref sl) "slice" := ⟨os,hos,hcs⟩
 unfold getItem
 try with_reducible refine wpAny_holding ?_
 first | refine wpAny_bind (wpAny_pure ?_) | skip
 refine wpAny_bind (wpAny_sequenceKey ht.typeIs (by decide) ?_)
 refine wpAny_bind (wpAny_callSpecial?_slot (name:=Str.ofString "__getitem__") ht.typeIs PyProof.Rows.slot_tuple_getitem
  (wpAny_call_entry PyProof.Rows.slot_tuple_getitem ht.typeIs entry_tuple_getitem ?_ (args_tuple_getitem _ _)))
 show wpAny _ _ (Builtin.Tuple.tupleItemsOf (.ref t) >>= _) _ _ s
 refine wpAny_bind (tupleItemsOf_ ht ?_)
 refine wpAny_bind (wpAny_typeOf hTs ?_)
 rw [if_pos (by decide)]
 refine wpAny_bind (zc0 hs pl pu ?_)
 have hno : ¬ ((((sIx items.size 0 lo : Nat) : Int) == 0 && (1 : Int) == 1 && (sIx items.size items.size hi - sIx items.size 0 lo) == items.size) = true):=by
  intro q
  rw [Bool.and_eq_true,Bool.and_eq_true] at q
  have q1 : ((sIx items.size 0 lo : Nat) : Int) = 0:=eq_of_beq q.1.1
  have q2 : sIx items.size items.size hi - sIx items.size 0 lo = items.size:=eq_of_beq q.2
  exact hw ⟨by omega,by omega⟩
 show wpAny _ _ (if (((sIx items.size 0 lo : Nat) : Int) == 0 && (1 : Int) == 1 && (sIx items.size items.size hi - sIx items.size 0 lo) == items.size) = true then _ else _) _ _ s
 rw [if_neg hno,zig]
 first
  | exact wpAny_bind (m:=Builtin.Tuple.tupleExact _) (wpAny_newObj_type (wpAny_pure ⟨_,rfl,wpAny_pure h⟩) htake)
  | exact wpAny_bind (m:=Builtin.Tuple.tupleExact _) (wpAny_newObj_type (wpAny_bind (wpAny_pure (wpAny_pure ⟨_,rfl,wpAny_pure h⟩))) htake)
  | exact wpAny_bind (wpAny_bind (m:=Builtin.Tuple.tupleExact _) (wpAny_newObj_type (wpAny_pure (wpAny_pure ⟨_,rfl,wpAny_pure h⟩)) htake))
  | exact wpAny_bind (wpAny_bind (m:=Builtin.Tuple.tupleExact _) (wpAny_newObj_type (wpAny_pure ⟨_,rfl,wpAny_pure h⟩) htake))
end
end HT
namespace L2
open PySem PySem.Spec PyProof.Rows
abbrev TO:=St -> Hp -> (Option Int -> Hp -> Prop) -> Prop
def PO (X : Cx) (e : Option Expr) (t : TO) : Prop :=
 ∀ (pins : List (Addr × Obj)) (s : Shared) (σ : St) (H : Hp) (Q : Option Int -> Hp -> Prop),Inv X pins σ H s -> t σ H Q ->
  wpAny (model X.prog X.w) X.A (evalPart e X.env) (λu s' => ∃ o H',Inv X pins σ H' s' /\ IsPart u o /\ Q o H') X.xe s
def yfl : TO:=λ_ H Q=>Q none H
def yga (t : TE) : TO:=λσ H Q=>t σ H λx H1=>∃ i,x = .int i /\ Q (some i) H1
section
variable {X : Cx} {e : Expr} {te : TE} {lo hi : Option Expr} {tl th : TO} {pos p2 : Pos}
theorem zjm : PO X none yfl:=by
 intro pins s σ H Q I h
 rw [evalPart_none]
 exact wpAny_pure ⟨none,H,I,.none,h⟩
theorem zjn (h : PE X e te) : PO X (some e) (yga te):=by
 intro pins s σ H Q I hw
 rw [evalPart_some]
 refine thn (h pins s σ H _ I hw) λu s1 Zz=>?_;obtain ⟨x,H1,I1,r1,q1⟩:=Zz
 obtain ⟨i,rfl,q⟩:=q1
 obtain ⟨t,rfl⟩:=r1
 exact ⟨some i,H1,I1,.int i t,q⟩
def SlR (X : Cx) (r : V -> Option Int -> Option Int -> Hp -> VK -> Prop) : Prop :=
 ∀ (pins : List (Addr × Obj)) (s : Shared) (σ : St) (H : Hp) (x : V) (v vl vu : Value) (lo hi : Option Int) (sl : Addr) (Q : VK),Inv X pins σ H s -> RelV x v -> s.heap.IsSliceOf sl vl vu .none -> IsPart vl lo -> IsPart vu hi -> r x lo hi H Q ->
  ∃ T id,typeLookup (.type T) "__getitem__" = pure (some (.builtin id)) /\ s.TypeIs v T /\ wpAny (model X.prog X.w) X.A (getItem v (.ref sl)) (EP X pins σ Q) X.xe s
theorem SlR.or {r r' : V -> Option Int -> Option Int -> Hp -> VK -> Prop} (h : SlR X r) (h' : SlR X r') : SlR X (λx lo hi H Q=>r x lo hi H Q \/ r' x lo hi H Q):=by
 intro pins s σ H x v vl vu lo hi sl Q I rx hs pl pu q
 rcases q with q | q
 ·exact h pins s σ H x v vl vu lo hi sl Q I rx hs pl pu q
 ·exact h' pins s σ H x v vl vu lo hi sl Q I rx hs pl pu q
def tSl (r : V -> Option Int -> Option Int -> Hp -> VK -> Prop) (te : TE) (tl th : TO) : TE:=λσ H Q=>te σ H λx H1=>tl σ H1 λl H2=>th σ H2 λu H3=>r x l u H3 Q
theorem zih {r : V -> Option Int -> Option Int -> Hp -> VK -> Prop} (hr : SlR X r) (he : PE X e te) (hl : PO X lo tl) (hu : PO X hi th) : PE X (.Subscript e (.Slice lo hi none p2) pos) (tSl r te tl th):=by
 intro pins s σ H Q I h
 refine Subscript_ (thn (he pins s σ H _ I h) λv s1 Zz=>?_);obtain ⟨x,H1,I1,r1,q1⟩:=Zz
 refine wpAny_Slice (thn (hl pins s1 σ H1 _ I1 q1) λvl s2 ⟨l,H2,I2,pl,q2⟩=>thn (hu pins s2 σ H2 _ I2 q2) λvu s3 Zz=>?_);obtain ⟨u,H3,I3,pu,q3⟩:=Zz
 rw [evalPart_none]
 refine wpAny_pure ?_
 have I4 : Inv X pins σ H3 { s3 with heap:=s3.heap.push { cls:=.type "slice",data:=.fields #[vl,vu,.none] } }:=I3.kept (t' := s3.toks) λb ob q=>Heap.get?_push_of_some _ q
 obtain ⟨T,id,hT,ht,hg⟩:=hr pins { s3 with heap:=s3.heap.push { cls:=.type "slice",data:=.fields #[vl,vu,.none] } } σ H3 x v vl vu l u s3.heap.objs.size Q I4 r1 (Heap.IsSliceOf.new ..) pl pu q3
 show wpAny (model X.prog X.w) X.A (subscriptTail e (.Slice lo hi none p2) v (.ref s3.heap.objs.size)) (EP X pins σ Q) X.xe { s3 with heap:=s3.heap.push { cls:=.type "slice",data:=.fields #[vl,vu,.none] } }
 exact tail_any (ops:=[.ref s3.heap.objs.size,v]) ht hT hg (by with_unfolding_all rfl)
def cutV (xs : List V) (lo hi : Option Int) : List V:=(xs.drop (HT.sIx xs.length 0 lo)).take (HT.sIx xs.length xs.length hi - HT.sIx xs.length 0 lo)
theorem zcR (xs : List V) (lo hi : Option Int) : (cutV xs lo hi).length <= xs.length:=by
 unfold cutV
 rw [List.length_take,List.length_drop]
 lia
def rSlT (K : PySem.W.Frag) : V -> Option Int -> Option Int -> Hp -> VK -> Prop:=λx lo hi H Q=>∃ a xs,x = .ref a /\ SqT K H a xs /\
 ¬ (HT.sIx xs.length 0 lo = 0 /\ HT.sIx xs.length xs.length hi = xs.length) /\ ∀ p,H p = none -> Q (.ref p) (upd H p (.tup (cutV xs lo hi)))
theorem sl_tup : SlR X (rSlT X.K):=by
 intro pins s σ H x v vl vu lo hi sl Q I rx hs pl pu h
 obtain ⟨a,xs,rfl,hx,hw,q⟩:=h
 cases rx
 obtain ⟨its,r,ht,hz⟩:=I.tuple hx
 have hlen : its.toArray.size = xs.length:=by rw [List.size_toArray]; exact r.length.symm
 refine ⟨"tuple",_,PyProof.Rows.slot_tuple_getitem.lookup,ht.typeIs,?_⟩
 refine HT.getItem_tuple_cut ht hs pl pu (by rw [hlen]; exact hw) ?_ (by rw [hlen]; exact hz)
 rw [hlen]
 refine ⟨.ref s.heap.objs.size,_,I.laid (t' := s.toks) (o:=.tup (cutV xs lo hi)) (λb ob q=>Heap.get?_push_of_some _ q) (Nat.le_refl _) ?_,rfl,q _ (I.hok.fresh (Nat.le_refl _))⟩
 exact ⟨Nat.le_trans (zcR xs lo hi) hz,_,(r.drop (HT.sIx xs.length 0 lo)).take (HT.sIx xs.length xs.length hi - HT.sIx xs.length 0 lo),IsTup.new _ _⟩
def yic (K : PySem.W.Frag) : R2:=λx y H Q=>∃ a b xs ys,x = .ref a /\ y = .ref b /\ SqT K H a xs /\ SqT K H b ys /\ xs ≠ [] /\ xs.length + ys.length <= sizeLine /\
 (ys = [] -> Q (.ref a) H) /\ (ys ≠ [] -> ∀ p,H p = none -> Q (.ref p) (upd H p (.tup (xs++ys))))
theorem Vals.nil_iff {xs : List V} {us : List Value} (r : Vals xs us) : us = [] ↔ xs = []:=by
 cases r with
 | nil=>simp
 | cons _ _=>simp
theorem zjo : OpR X (binaryOp .Add) (yic X.K):=by
 intro pins s σ H x y v u Q I rx ry h
 obtain ⟨a,b,xs,ys,rfl,rfl,ha,hb,hx,hz,q1,q2⟩:=h
 cases rx
 cases ry
 obtain ⟨its,r1,p1,_⟩:=I.tuple ha
 obtain ⟨its2,r2,p2,_⟩:=I.tuple hb
 refine HT.cat_tup p1 p2 (λz=>hx (r1.nil_iff.mp z)) (λz=>⟨.ref a,H,I,rfl,q1 (r2.nil_iff.mp z)⟩) (λz=>?_) (by rw [<- r1.length,<- r2.length]; exact hz)
 refine ⟨.ref s.heap.objs.size,_,I.laid (t' := s.toks) (o:=.tup (xs++ys)) (λb ob q=>Heap.get?_push_of_some _ q) (Nat.le_refl _) ?_,rfl,q2 (λw=>z (r2.nil_iff.mpr w)) _ (I.hok.fresh (Nat.le_refl _))⟩
 exact ⟨by rw [List.length_append]; exact hz,_,r1.append r2,IsTup.new _ _⟩
end
def ixN (n : Nat) (i : Int) : Option Nat:=if 0 <= i then (if i < n then some i.toNat else none) else if -(n : Int) <= i then some (i + n).toNat else none
def atI {α : Type} (xs : List α) (i : Int) : Option α:=(ixN xs.length i).bind λj=>xs[j]?
theorem zf6 {n : Nat} {i : Int} {j : Nat} (h : ixN n i = some j) : seqIndex? i n = some j /\ j < n /\ -(n : Int) <= i /\ i < n:=by
 unfold ixN at h
 by_cases h0 : 0 <= i
 ·rw [if_pos h0] at h
  by_cases h1 : i < n
  ·rw [if_pos h1] at h
   have e : i.toNat = j:=Option.some.inj h
   exact ⟨by rw [seqIndex_of h0 h1,e],by lia,by lia,h1⟩
  ·rw [if_neg h1] at h; cases h
 ·rw [if_neg h0] at h
  by_cases h1 : -(n : Int) <= i
  ·rw [if_pos h1] at h
   have e : (i + n).toNat = j:=Option.some.inj h
   exact ⟨by rw [seqIndex_neg (by lia) h1,e],by lia,h1,by lia⟩
  ·rw [if_neg h1] at h; cases h
theorem zcB {α : Type} {xs : List α} {i : Int} {v : α} (h : atI xs i = some v) : ∃ j,seqIndex? i xs.length = some j /\ xs[j]? = some v /\ j < xs.length /\ -(xs.length : Int) <= i /\ i < xs.length:=by
 unfold atI at h
 cases e : ixN xs.length i with
 | none=>rw [e] at h; cases h
 | some j =>
  rw [e] at h
  obtain ⟨h1,h2,h3,h4⟩:=zf6 e
  exact ⟨j,h1,h,h2,h3,h4⟩
theorem zcC {α : Type} {xs : List α} {j : Nat} {v : α} (h : xs[j]? = some v) : atI xs (j : Int) = some v:=by
 have hj : j < xs.length:=(List.getElem?_eq_some_iff.mp h).1
 have e : ixN xs.length (j : Int) = some j:=by
  unfold ixN
  rw [if_pos (by lia),if_pos (by lia)]; simp
 unfold atI; rw [e]; exact h
def yfm (b : Expr) : Prop:=∀ o i,subscripted b false o i = operate [o,i] (getItem o i)
def IxR (X : Cx) (r : R2) : Prop :=
 ∀ (value slice : Expr) (pins : List (Addr × Obj)) (s : Shared) (σ : St) (H : Hp) (x y : V) (v u : Value) (Q : VK),Inv X pins σ H s -> RelV x v -> RelV y u -> r x y H Q ->
  subscripted slice false v u = operate [v,u] (getItem v u) -> wpAny (model X.prog X.w) X.A (subscriptTail value slice v u) (EP X pins σ Q) X.xe s
def MtR (X : Cx) (id : String) (r : V -> List V -> Hp -> VK -> Prop) : Prop :=
 ∀ (pins : List (Addr × Obj)) (s : Shared) (σ : St) (H : Hp) (x : V) (xs : List V) (v : Value) (us : List Value) (Q : VK),Inv X pins σ H s -> RelV x v -> Vals xs us -> r x xs H Q ->
  wpAny (model X.prog X.w) X.A (call (.builtin id) (v :: us)) (EP X pins σ Q) X.xe s
section
variable {X : Cx} {a b : Expr} {ta tb : TE} {pos : Pos}
theorem IxR.or {r r' : R2} (h : IxR X r) (h' : IxR X r') : IxR X (λx y H Q=>r x y H Q \/ r' x y H Q):=by
 intro value slice pins s σ H x y v u Q I rx ry q hs
 rcases q with q | q
 ·exact h value slice pins s σ H x y v u Q I rx ry q hs
 ·exact h' value slice pins s σ H x y v u Q I rx ry q hs
theorem yid {r : R2} (hr : IxR X r) (ha : PE X a ta) (hb : PE X b tb) (hs : yfm b) : PE X (.Subscript a b pos) (tOp r ta tb):=by
 intro pins s σ H Q I h
 exact Subscript_ (binT ha hb I h λv u s2 x y H2 I2 rx ry q=>hr a b pins s2 σ H2 x y v u Q I2 rx ry q (hs _ _))
def rIxL (K : PySem.W.Frag) : R2:=λx y H Q=>∃ p xs i v,x = .ref p /\ y = .int i /\ SqL K H p xs /\ atI xs i = some v /\ Q v H
def rIxT (K : PySem.W.Frag) : R2:=λx y H Q=>∃ p xs i v,x = .ref p /\ y = .int i /\ SqT K H p xs /\ atI xs i = some v /\ Q v H
def rIxS : R2:=λx y H Q=>∃ z i c,x = .str z /\ y = .int i /\ z.length <= sizeLine /\ atI z.cps.toList i = some c /\ Q (.str ⟨#[c]⟩) H
theorem zjp : IxR X (rIxL X.K):=by
 intro value slice pins s σ H x y v u Q I rx ry h hs
 obtain ⟨p,xs,i,z,rfl,rfl,hq,he,q⟩:=h
 cases rx
 obtain ⟨t,rfl⟩:=ry
 obtain ⟨its,r,pl,hz⟩:=I.list hq
 obtain ⟨j,h1,h2,h3,h4,h5⟩:=zcB he
 obtain ⟨w,ew,rw'⟩:=r.get h2
 have hl:=r.length
 have hn:=ydw
 have fin : EP X pins σ Q w s:=⟨z,H,I,rw',q⟩
 by_cases h0 : 0 <= i
 ·have hj : i.toNat = j:=by
   rw [seqIndex_of h0 h5] at h1
   exact Option.some.inj h1
  exact item_listR pl.isList h0 (by lia) (by rw [hj]; simpa using ew) fin hs
 ·have hj : (i + (its.toArray.size : Int)).toNat = j:=by
   rw [seqIndex_neg (by lia) h4] at h1
   rw [List.size_toArray,<- hl]
   exact Option.some.inj h1
  exact subscriptTail_builtinR (x:=w) pl.isList.typeIs slot_list_getitem.lookup
   (wpAny_getItem_list_neg (Q:=λr s' => r = w /\ EP X pins σ Q r s') pl.isList (by lia) (by rw [List.size_toArray]<;>lia) (by lia) (by rw [hj]; simpa using ew) ⟨rfl,fin⟩) hs
theorem ix_tup : IxR X (rIxT X.K):=by
 intro value slice pins s σ H x y v u Q I rx ry h hs
 obtain ⟨p,xs,i,z,rfl,rfl,hq,he,q⟩:=h
 cases rx
 obtain ⟨t,rfl⟩:=ry
 obtain ⟨its,r,pl,hz⟩:=I.tuple hq
 obtain ⟨j,h1,h2,h3,h4,h5⟩:=zcB he
 obtain ⟨w,ew,rw'⟩:=r.get h2
 have hl:=r.length
 have hn:=ydw
 have fin : EP X pins σ Q w s:=⟨z,H,I,rw',q⟩
 exact subscriptTail_builtinR (x:=w) pl.typeIs slot_tuple_getitem.lookup
  (getItem_tuple (j:=j) (Q:=λr s' => r = w /\ EP X pins σ Q r s') pl (by lia) (by lia) (by rw [List.size_toArray,<- hl]; exact h1) (by simpa using ew) ⟨rfl,fin⟩) hs
theorem ygS : IxR X rIxS:=by
 intro value slice pins s σ H x y v u Q I rx ry h hs
 obtain ⟨z,i,c,rfl,rfl,hz,he,q⟩:=h
 obtain ⟨t,rfl⟩:=rx
 obtain ⟨t',rfl⟩:=ry
 obtain ⟨j,h1,h2,h3,h4,h5⟩:=zcB he
 have hl : z.cps.toList.length = z.length:=by simp [Str.length]
 rw [hl] at h1 h4 h5
 have hn:=ydw
 exact tail_any (typeIs_str s z t) slot_str_getitem.lookup (getItem_str (c:=c) (by
  have e1 : decide (i < -(2 ^ 63 : Int)) = false:=decide_eq_false (by lia)
  have e2 : decide (i ≥ 2 ^ 63) = false:=decide_eq_false (by lia)
  rw [e1,e2,Bool.or_false]) (by rw [h1]; simpa using h2) ⟨.str ⟨#[c]⟩,H,I.tok _,⟨_,rfl⟩,q⟩) hs
def rIx (K : PySem.W.Frag) : R2:=λx y H Q=>rIxL K x y H Q \/ rIxT K x y H Q \/ rIxS x y H Q
theorem ygT : IxR X (rIx X.K):=zjp.or (ix_tup.or ygS)
theorem zgQ (its : List Value) (n j : Nat) (u : Value) : Obj.mapSeq (·.setIfInBounds j u) { cls:=.type "list",data:=.seq its.toArray n } = { cls:=.type "list",data:=.seq (its.set j u).toArray n }:=by
 simp [Obj.mapSeq]
theorem Inv.lst {pins : List (Addr × Obj)} {σ : St} {H : Hp} {s : Shared} {p : Addr} {xs : List V} (I : Inv X pins σ H s) (h : H p = some (.lst xs)) :
  ∃ (its : List Value) (n : Nat),Vals xs its /\ s.heap.get? p = some { cls:=.type "list",data:=.seq its.toArray n } /\ xs.length <= sizeLine:=by
 obtain ⟨z,its,n,r,e⟩:=I.hok p _ h
 exact ⟨its,n,r,e,z⟩
theorem Inv.lstUpd {pins : List (Addr × Obj)} {σ : St} {H : Hp} {s : Shared} {p : Addr} {xs ys : List V} {its its' : List Value} {n n' : Nat} {f : Obj -> Obj} (I : Inv X pins σ H s) (h : H p = some (.lst xs))
  (ho : s.heap.get? p = some { cls:=.type "list",data:=.seq its.toArray n }) (hf : f { cls:=.type "list",data:=.seq its.toArray n } = { cls:=.type "list",data:=.seq its'.toArray n' }) (r : Vals ys its') (hz : ys.length <= sizeLine) (t : Nat) :
  Inv X pins σ (upd H p (.lst ys)) { s with heap:=s.heap.update p f,toks:=t }:=by
 have e : (s.heap.update p f).get? p = some { cls:=.type "list",data:=.seq its'.toArray n' }:=by
  rw [Heap.get?_update_self f ho (by rw [hf]<;>rfl),hf]
 refine I.write (x:=p) (e:=p) (by rw [h]; trivial) (.inl rfl) (λb u hb q=>(Heap.get?_update_other _ _ (Ne.symm hb)).trans q) ⟨_,e⟩ ?_
 exact ⟨hz,its',n',r,e⟩
def yie : V -> V -> V -> Hp -> (Hp -> Prop) -> Prop:=λo i v H Q=>∃ p xs k j,o = .ref p /\ i = .int k /\ H p = some (.lst xs) /\ ixN xs.length k = some j /\ Q (upd H p (.lst (xs.set j v)))
theorem zii : PSet X yie:=by
 intro pins s σ H o i v ov iv u Q I ro ri rv h
 obtain ⟨p,xs,k,j,rfl,rfl,hp,hj,q⟩:=h
 cases ro
 obtain ⟨t,rfl⟩:=ri
 obtain ⟨its,n,r,ho,hz⟩:=I.lst hp
 obtain ⟨h1,h2,h3,h4⟩:=zf6 hj
 have hl:=r.length
 have hn:=ydw
 have I' : Inv X pins σ (upd H p (.lst (xs.set j v))) { s with heap:=s.heap.update p (Obj.mapSeq (·.setIfInBounds j u)) } :=
  I.lstUpd hp ho (zgQ its n j u) (r.set rv j) (by rw [List.length_set]; exact hz) s.toks
 by_cases h0 : 0 <= k
 ·have hk : k.toNat = j:=by
   rw [seqIndex_of h0 h4] at h1
   exact Option.some.inj h1
  exact PySem.W.ki_setAt ho h0 (by lia) (by rw [List.size_toArray,<- hl]; exact h4) (by rw [hk]; exact ⟨_,I',q⟩)
 ·have hk : (k + (its.toArray.size : Int)).toNat = j:=by
   rw [seqIndex_neg (by lia) h3] at h1
   rw [List.size_toArray,<- hl]
   exact Option.some.inj h1
  exact PySem.W.ki_setBack ho (by lia) (by rw [List.size_toArray,<- hl]; exact h3) (by lia) (by rw [hk]; exact ⟨_,I',q⟩)
theorem zeV (lo hi : Option Int) (n : Nat) : (sliceBounds lo hi none n).1 = ((HT.sIx n 0 lo : Nat) : Int) /\ (sliceBounds lo hi none n).2.1 = ((HT.sIx n n hi : Nat) : Int) /\ (sliceBounds lo hi none n).2.2 = 1:=by
 refine ⟨?_,?_,rfl⟩
 ·cases lo with
  | none=>simp [sliceBounds,HT.sIx]
  | some i =>
   simp only [sliceBounds,HT.sIx,Option.getD_none,show (1 : Int) > 0 by decide,if_true]
   by_cases h : i < 0
   ·simp only [h,if_true]<;>lia
   ·simp only [h,if_false]<;>lia
 ·cases hi with
  | none=>simp [sliceBounds,HT.sIx]
  | some i =>
   simp only [sliceBounds,HT.sIx,Option.getD_none,show (1 : Int) > 0 by decide,if_true]
   by_cases h : i < 0
   ·simp only [h,if_true]<;>lia
   ·simp only [h,if_false]<;>lia
theorem zeC (its : List Value) (lo hi : Option Int) : slicePick its.toArray lo hi none = ((its.drop (HT.sIx its.length 0 lo)).take (HT.sIx its.length its.length hi - HT.sIx its.length 0 lo)).toArray:=by
 obtain ⟨h1,h2,h3⟩:=zeV lo hi its.toArray.size
 unfold slicePick
 rw [h1,h2,h3]
 simp only [sliceRange_one,pick_run,List.size_toArray]<;>rfl
def rSlL (K : PySem.W.Frag) : V -> Option Int -> Option Int -> Hp -> VK -> Prop:=λx lo hi H Q=>∃ a xs,x = .ref a /\ SqL K H a xs /\ ∀ p,H p = none -> Q (.ref p) (upd H p (.lst (cutV xs lo hi)))
theorem zjq : SlR X (rSlL X.K):=by
 intro pins s σ H x v vl vu lo hi sl Q I rx hs pl pu h
 obtain ⟨a,xs,rfl,hx,q⟩:=h
 cases rx
 obtain ⟨its,r,ht,hz⟩:=I.list hx
 have hlen:=r.length
 refine ⟨"list",_,slot_list_getitem.lookup,ht.isList.typeIs,?_⟩
 refine wpAny_getItem_list_slice ht.isList hs pl pu .none (by simp) ?_ (by rw [List.size_toArray]<;>omega)
 rw [zeC,<- hlen]
 refine ⟨.ref s.heap.objs.size,_,I.laid (t' := s.toks) (o:=.lst (cutV xs lo hi)) (λb ob q=>Heap.get?_push_of_some _ q) (Nat.le_refl _) ?_,rfl,q _ (I.hok.fresh (Nat.le_refl _))⟩
 exact ⟨Nat.le_trans (zcR xs lo hi) hz,_,0,(r.drop (HT.sIx xs.length 0 lo)).take (HT.sIx xs.length xs.length hi - HT.sIx xs.length 0 lo),Heap.get?_push_size _ rfl⟩
theorem zeW : OpR X (compareOp .NotIn) (λx y H Q=>∃ i j,x = .str i /\ y = .str j /\ Q (.bl (!(!(Builtin.Str.occurrences j i 0 j.length 1).isEmpty))) H):=by
 intro pins s σ H x y v u Q I rx ry h
 obtain ⟨i,j,rfl,rfl,q⟩:=h
 obtain ⟨t,rfl⟩:=rx
 obtain ⟨t',rfl⟩:=ry
 exact notIn_str ⟨.bl _,H,I,rfl,q⟩
theorem zeX : CallR X (.builtin "len") (λxs H Q=>∃ p ys,xs = [.ref p] /\ (SqL X.K H p ys \/ SqT X.K H p ys) /\ Q (.int ys.length) H):=by
 intro pins s σ H xs us Q I r h
 obtain ⟨p,ys,rfl,hq,q⟩:=h
 obtain ⟨u,rfl,rx⟩:=yea r
 cases rx
 have hn:=ydw
 rcases hq with hq | hq
 ·obtain ⟨its,r',pl,hz⟩:=I.list hq
  have hlen:=r'.length
  exact Calls.call_len_list pl.isList (by simp only [List.size_toArray]<;>lia) ⟨.int ys.length,H,I.tok _,⟨s.toks + 1,by rw [List.size_toArray,hlen]⟩,q⟩
 ·obtain ⟨its,r',pl,hz⟩:=I.tuple hq
  have hlen:=r'.length
  exact len_tuple pl (by simp only [List.size_toArray]<;>lia) ⟨.int ys.length,H,I.tok _,⟨s.toks + 1,by rw [List.size_toArray,hlen]⟩,q⟩
theorem zeY : CallR X (.builtin "len") (λxs H Q=>∃ z,xs = [.str z] /\ z.length <= sizeLine /\ Q (.int z.length) H):=by
 intro pins s σ H xs us Q I r h
 obtain ⟨z,rfl,hz,q⟩:=h
 obtain ⟨u,rfl,t,rfl⟩:=yea r
 have hn:=ydw
 exact len_str (by lia) ⟨.int z.length,H,I.tok _,⟨_,rfl⟩,q⟩
theorem CallR.or {f : Value} {r r' : List V -> Hp -> VK -> Prop} (h : CallR X f r) (h' : CallR X f r') : CallR X f (λxs H Q=>r xs H Q \/ r' xs H Q):=by
 intro pins s σ H xs us Q I rs q
 rcases q with q | q
 ·exact h pins s σ H xs us Q I rs q
 ·exact h' pins s σ H xs us Q I rs q
def tyV (K : PySem.W.Frag) (T : String) (x : V) (H : Hp) : Prop:=match x with
 | .str _=>T = "str"
 | .int _=>T = "int"
 | .ref p=>(T = "list" /\ ∃ xs,SqL K H p xs) \/ (T = "tuple" /\ ∃ o,K.lookup p = some o /\ o.cls = .type "tuple" /\ o.dict = none) \/
   (T = "dict" /\ ((∃ kvs,H p = some (.dK kvs)) \/ ∃ xc kvs,H p = some (.dT xc kvs))) \/ (T = "set" /\ ∃ S n,H p = some (.set S n))
 | _=>False
theorem yfC {pins : List (Addr × Obj)} {σ : St} {H : Hp} {s : Shared} {T : String} {x : V} {v : Value} (I : Inv X pins σ H s) (r : RelV x v) (ty : tyV X.K T x H) :
  s.TypeIs v T /\ ∀ a,v = .ref a -> ∃ ob,s.heap.get? a = some ob /\ ob.dict = none:=by
 cases x with
 | str z =>
  obtain ⟨t,rfl⟩:=r
  cases (show T = "str" from ty)
  exact ⟨typeIs_str s z t,λ_ e=>nomatch e⟩
 | int i =>
  obtain ⟨t,rfl⟩:=r
  cases (show T = "int" from ty)
  exact ⟨typeIs_int s i t,λ_ e=>nomatch e⟩
 | ref p =>
  cases r
  rcases ty with ⟨rfl,xs,hq⟩ | ⟨rfl,o,hk,hc,hd⟩ | ⟨rfl,hk⟩ | ⟨rfl,S,n,hk⟩
  ·obtain ⟨its,_,pl,_⟩:=I.list hq
   refine ⟨pl.isList.typeIs,λa e=>?_⟩
   cases e
   obtain ⟨o,n,e,c,hd,_⟩:=pl
   exact ⟨o,e,hd⟩
  ·refine ⟨⟨o,I.kIn p o hk,hc⟩,λa e=>?_⟩
   cases e
   exact ⟨o,I.kIn _ o hk,hd⟩
  ·have z : ∃ o,s.heap.get? p = some o /\ o.ExactDict:=by
    rcases hk with ⟨kvs,hk⟩ | ⟨xc,kvs,hk⟩
    ·obtain ⟨_,_,_,_,o,_,_,e,ex,_⟩:=I.hok p _ hk
     exact ⟨o,e,ex⟩
    ·obtain ⟨_,_,_,_,o,_,_,e,ex,_⟩:=I.hok p _ hk
     exact ⟨o,e,ex⟩
   obtain ⟨o,e,ex⟩:=z
   refine ⟨⟨o,e,ex.1⟩,λa e2=>?_⟩
   cases e2
   exact ⟨o,e,ex.2.1⟩
  ·obtain ⟨o,_,_,_,e,ex,_⟩:=I.hok p _ hk
   refine ⟨⟨o,e,ex.1⟩,λa e2=>?_⟩
   cases e2
   exact ⟨o,e,ex.2.1⟩
 | _=>exact False.elim ty
def tBM0 (K : PySem.W.Frag) (T : String) (r : V -> List V -> Hp -> VK -> Prop) (to : TE) : TE:=λσ H Q=>to σ H λx H1=>tyV K T x H1 /\ r x [] H1 Q
def tBM (K : PySem.W.Frag) (T : String) (r : V -> List V -> Hp -> VK -> Prop) (to : TE) (t : TA) : TE:=λσ H Q=>to σ H λx H1=>tyV K T x H1 /\ t σ H1 λxs H2=>r x xs H2 Q
variable {o e : Expr} {es : List Expr} {to : TE} {t : TA} {name : Str} {apos cpos : Pos} {T id : String} {r : V -> List V -> Hp -> VK -> Prop}
theorem ygU (pa : PlainAttrs T) (slot : Slot T name id) (hty : typeOf (.builtin id) = pure (.type "method_descriptor")) (hm : MtR X id r) (ho : PE X o to)
  (hbase : attributeBase o name X.env (eval o X.env) = eval o X.env:=by rfl) (hline : (apos.endLine == cpos.line) = true:=by rfl) : PE X (.Call (.Attribute o name apos) [] [] cpos) (tBM0 X.K T r to):=by
 intro pins s σ H Q I h
 refine wpAny_Call_method0_late hbase hline (thn (ho pins s σ H _ I h) λv s1 Zz=>?_);obtain ⟨x,H1,I1,r1,ty,q1⟩:=Zz
 obtain ⟨h1,h2⟩:=yfC I1 r1 ty
 exact ⟨T,id,pa,slot,hty,h1,h2,Calls.callWith_builtin rfl (PySem.evalArgs_none (hm pins s1 σ H1 x [] v [] Q I1 r1 .nil q1))⟩
theorem yif (pa : PlainAttrs T) (slot : Slot T name id) (hty : typeOf (.builtin id) = pure (.type "method_descriptor")) (hm : MtR X id r) (ho : PE X o to) (ha : PA X (e :: es) t)
  (hbase : attributeBase o name X.env (eval o X.env) = eval o X.env:=by rfl)
  (hfew : ((backTo cpos (starEach (e :: es) X.env)).all (λx=>!x.1) && (backToKw cpos (keywordEach [] X.env)).all (λx=>x.1.isSome)
   && decide ((e :: es).length + ([] : List Keyword).length + (if ([] : List Keyword).isEmpty then 0 else 1) < 30)) = true:=by rfl)
  (hline : (apos.endLine == cpos.line) = true:=by rfl) (hs : starEach (e :: es) X.env = (false,eval e X.env) :: starEach es X.env:=by rfl) (hplain : (backTo cpos (starEach es X.env)).any (·.1) = false:=by rfl) :
  PE X (.Call (.Attribute o name apos) (e :: es) [] cpos) (tBM X.K T r to t):=by
 intro pins s σ H Q I h
 refine wpAny_Call_method_late hbase hfew hline rfl (thn (ho pins s σ H _ I h) λv s1 Zz=>?_);obtain ⟨x,H1,I1,r1,ty,q1⟩:=Zz
 obtain ⟨h1,h2⟩:=yfC I1 r1 ty
 refine ⟨T,id,pa,slot,hty,h1,h2,?_⟩
 have hA:=ha cpos pins s1 σ H1 _ I1 q1
 rw [hs] at hA ⊢
 refine Calls.callWith_builtin (by show (false || (backTo cpos (starEach es X.env)).any (·.1)) = false; rw [hplain]<;>rfl) (Calls.evalArgs_plain ?_)
 exact thn hA λus s2 ⟨vs,H2,I2,r2,q2⟩=>hm pins s2 σ H2 x vs v us Q I2 r1 r2 q2
end
def MtM (X : Cx) (id : String) (r : V -> List V -> Hp -> VK -> Prop) : Prop :=
 ∀ (pins : List (Addr × Obj)) (s : Shared) (σ : St) (H : Hp) (x : V) (xs : List V) (v : Value) (us : List Value) (Q : VK),Inv X pins σ H s -> RelV x v -> Vals xs us -> r x xs H Q ->
  wpAny (model X.prog X.w) X.A (call (.builtin id) (v :: us)) (EP X pins σ Q) X.xe s
theorem Vals.one : ∀ {x : V} {us : List Value},Vals [x] us -> ∃ u,us = [u] /\ RelV x u
 | _,_,.cons r .nil=>⟨_,rfl,r⟩
theorem Vals.zero : ∀ {us : List Value},Vals [] us -> us = []
 | _,.nil=>rfl
theorem Vals.dropLast {xs : List V} {us : List Value} (h : Vals xs us) : Vals xs.dropLast us.dropLast:=by
 induction h with
 | nil=>exact .nil
 | cons r t ih =>
  cases t with
  | nil=>exact .nil
  | cons q t' => exact .cons r ih
theorem zgR {α : Type} (l : List α) : l.eraseIdx (l.length - 1) = l.dropLast:=by
 induction l with
 | nil=>rfl
 | cons a r ih =>
  cases r with
  | nil=>rfl
  | cons b r =>
   have e : (a :: b :: r).length - 1 = ((b :: r).length - 1) + 1:=by
    have h1 : (a :: b :: r).length = r.length + 2:=rfl
    have h2 : (b :: r).length = r.length + 1:=rfl
    omega
   rw [e,List.eraseIdx_cons_succ,ih]
   all_goals rfl
section
variable {X : Cx} {pins : List (Addr × Obj)} {σ : St} {H : Hp} {s : Shared} {l b : Addr} {xs ys zs : List V}
theorem Inv.lset {its its' : List Value} {n : Nat} {f : Array Value -> Array Value} {t' : Nat} (I : Inv X pins σ H s) (hH : H l = some (.lst xs))
  (e : s.heap.get? l = some { cls:=.type "list",data:=.seq its.toArray n }) (hf : f its.toArray = its'.toArray) (hv : Vals ys its') (hz : ys.length <= sizeLine) :
  Inv X pins σ (upd H l (.lst ys)) { s with heap:=s.heap.update l (Obj.mapSeq f),toks:=t' }:=by
 have q:=PySem.IsL.update e f
 rw [hf] at q
 refine I.write (x:=l) (e:=l) (by rw [hH]; exact trivial) (.inl rfl) (λb' u hb hu=>(Heap.get?_update_other s.heap (Obj.mapSeq f) (Ne.symm hb)).trans hu) ⟨_,q⟩ ?_
 exact ⟨hz,its',_,hv,q⟩
theorem Inv.lnew {its : List Value} {t' : Nat} (I : Inv X pins σ H s) (hv : Vals ys its) (hz : ys.length <= sizeLine) :
  Inv X pins σ (upd H s.heap.objs.size (.lst ys)) { s with heap:=s.heap.push { cls:=.type "list",data:=.seq its.toArray },toks:=t' } :=
 I.laid (λ_ _ q=>Heap.get?_push_of_some _ q) (Nat.le_refl _) ⟨hz,its,0,hv,Heap.get?_push_size _ rfl⟩
theorem Inv.fresh (I : Inv X pins σ H s) : H s.heap.objs.size = none:=I.hok.fresh (Nat.le_refl _)
theorem Inv.lstM (I : Inv X pins σ H s) (hH : H l = some (.lst xs)) : xs.length <= sizeLine /\ ∃ (its : List Value) (n : Nat),Vals xs its /\ xs.length = its.length /\ s.heap.get? l = some { cls:=.type "list",data:=.seq its.toArray n }:=by
 obtain ⟨z,its,n,r,e⟩:=I.hok l _ hH
 exact ⟨z,its,n,r,r.length,e⟩
end
section
variable {X : Cx}
def ygn : V -> List V -> Hp -> VK -> Prop:=λx vs H Q=>∃ l xs y,x = .ref l /\ vs = [y] /\ H l = some (.lst xs) /\ xs.length < sizeLine /\ Q .non (upd H l (.lst (xs++[y])))
theorem zed : MtM X "list.append" ygn:=by
 intro pins s σ H x vs v us Q I rx rv h
 obtain ⟨l,xs,y,rfl,rfl,hH,hz,q⟩:=h
 cases rx
 obtain ⟨u,rfl,ru⟩:=rv.one
 obtain ⟨z,its,n,r,hl,e⟩:=I.lstM hH
 refine call_meets F.slot_list_append ⟨_,e,rfl⟩ F.entry_list_append (F.args_list_append_2 _ _) (PySem.list_append l its.toArray n u (by rw [List.size_toArray]; lia)) ⟨e,?_⟩
 refine ⟨.non,_,I.lset (its' := its++[u]) hH e (by simp) (r.append (.cons ru .nil)) ?_,rfl,q⟩
 rw [List.length_append,List.length_singleton]
 lia
def rPop : V -> List V -> Hp -> VK -> Prop:=λx vs H Q=>∃ l xs y,x = .ref l /\ vs = [] /\ H l = some (.lst xs) /\ xs[xs.length - 1]? = some y /\ Q y (upd H l (.lst xs.dropLast))
theorem ygV : MtM X "list.pop" rPop:=by
 intro pins s σ H x vs v us Q I rx rv h
 obtain ⟨l,xs,y,rfl,rfl,hH,hy,q⟩:=h
 cases rx
 have hus:=rv.zero
 subst hus
 obtain ⟨z,its,n,r,hl,e⟩:=I.lstM hH
 obtain ⟨u,hu,ru⟩:=r.get hy
 have hy' : its.toArray[its.toArray.size - 1]? = some u:=by
  show its.toArray[its.length - 1]? = some u
  rw [<- Array.getElem?_toList,<- hl]
  exact hu
 refine call_meets F.slot_list_pop ⟨_,e,rfl⟩ F.entry_list_pop (F.args_list_pop_1 _) (MeetsSeq.list_pop_last l its.toArray n u hy' (by rw [List.size_toArray]; omega)) ⟨e,?_⟩
 refine ⟨y,_,I.lset (its' := its.dropLast) hH e ?_ r.dropLast ?_,ru,q⟩
 ·show its.toArray.eraseIdxIfInBounds (its.toArray.size - 1) = its.dropLast.toArray
  rw [List.size_toArray,List.eraseIdxIfInBounds_toArray,zgR]
 ·rw [List.length_dropLast]
  omega
def ygW : V -> List V -> Hp -> VK -> Prop:=λx vs H Q=>∃ l xs,x = .ref l /\ vs = [] /\ H l = some (.lst xs) /\ Q .non (upd H l (.lst []))
theorem zij : MtM X "list.clear" ygW:=by
 intro pins s σ H x vs v us Q I rx rv h
 obtain ⟨l,xs,rfl,rfl,hH,q⟩:=h
 cases rx
 have hus:=rv.zero
 subst hus
 obtain ⟨z,its,n,r,hl,e⟩:=I.lstM hH
 refine call_meets F.slot_list_clear ⟨_,e,rfl⟩ F.entry_list_clear (F.args_list_clear_1 _) (AutoSeq1.list_clear_list_0 l its.toArray n (by rw [List.size_toArray]; lia)) ⟨e,?_⟩
 exact ⟨.non,_,I.lset (its' := []) (ys:=[]) hH e rfl .nil (Nat.zero_le _),rfl,q⟩
end
section
variable {prog : Program} {w : World} {A : Around} {E : Value -> Shared -> Prop} {s : Shared}
end
section
variable {X : Cx}
end
section
variable {κ : Type} [DecidableEq κ]
def valV (kvs : List (κ × V)) (k : κ) : Option V:=(kvs.find? λkv=>decide (kv.1 = k)).map (·.2)
def putK (kvs : List (κ × V)) (k : κ) (v : V) : List (κ × V) :=
 if (kvs.any λkv=>decide (kv.1 = k)) = true then kvs.map (λkv=>if kv.1 = k then (kv.1,v) else kv) else kvs++[(k,v)]
theorem zbT {p : κ × V} {r : List (κ × V)} {k : κ} (e : p.1 = k) : valV (p :: r) k = some p.2:=by simp [valV,List.find?_cons,e]
theorem zbr {p : κ × V} {r : List (κ × V)} {k : κ} (e : ¬ p.1 = k) : valV (p :: r) k = valV r k:=by simp [valV,List.find?_cons,e]
theorem zbU (k : κ) : ∀ kvs : List (κ × V),(kvs.any λkv=>decide (kv.1 = k)) = (valV kvs k).isSome
 | []=>rfl
 | p :: r=>by
  rw [List.any_cons]
  by_cases e : p.1 = k
  ·simp only [zbT e,decide_eq_true e,Bool.true_or,Option.isSome_some]
  ·rw [zbr e,decide_eq_false e,Bool.false_or]; exact zbU k r
theorem zcS (kvs : List (κ × V)) (k : κ) (v : V) : (putK kvs k v).length <= kvs.length + 1:=by
 unfold putK
 split
 ·rw [List.length_map]; lia
 ·rw [List.length_append,List.length_cons,List.length_nil]; lia
theorem RelO.isSome_eq {o : Option V} {u : Option Value} (r : RelO o u) : o.isSome = u.isSome:=by
 cases o with
 | none=>cases u with
  | none=>rfl
  | some _=>exact (show False from r).elim
 | some _=>cases u with
  | none=>exact (show False from r).elim
  | some _=>rfl
theorem RelO.getD {o : Option V} {u : Option Value} {d : V} {d' : Value} (r : RelO o u) (rd : RelV d d') : RelV (o.getD d) (u.getD d'):=by
 cases o with
 | none=>cases u with
  | none=>exact rd
  | some _=>exact (show False from r).elim
 | some _=>cases u with
  | none=>exact (show False from r).elim
  | some _=>exact r
theorem KV.val {kvs : List (κ × V)} {vs : List (κ × Value)} (r : KV kvs vs) (k : κ) : RelO (valV kvs k) (valueAt vs k):=by
 unfold KV at r
 induction r with
 | nil=>exact True.intro
 | @cons p q ps qs h t ih =>
  obtain ⟨h1,h2⟩:=h
  by_cases e : p.1 = k
  ·have e' : q.1 = k:=h1.symm.trans e
   have b : valueAt (q :: qs) k = some q.2:=by simp [valueAt,List.find?_cons,e']
   rw [zbT e,b]; exact h2
  ·have e' : ¬ q.1 = k:=λz=>e (h1.trans z)
   have b : valueAt (q :: qs) k = valueAt qs k:=by simp [valueAt,List.find?_cons,e']
   rw [zbr e,b]; exact ih
theorem KV.any {kvs : List (κ × V)} {vs : List (κ × Value)} (r : KV kvs vs) (k : κ) : (kvs.any λkv=>decide (kv.1 = k)) = vs.any λkv=>decide (kv.1 = k):=by
 unfold KV at r
 induction r with
 | nil=>rfl
 | cons h t ih=>rw [List.any_cons,List.any_cons,ih,h.1]
theorem KV.repl {kvs : List (κ × V)} {vs : List (κ × Value)} (r : KV kvs vs) (k : κ) {y : V} {u : Value} (ry : RelV y u) :
  KV (kvs.map λkv=>if kv.1 = k then (kv.1,y) else kv) (vs.map λkv=>if kv.1 = k then (kv.1,u) else kv):=by
 unfold KV at r ⊢
 induction r with
 | nil=>exact .nil
 | @cons p q ps qs h t ih =>
  rw [List.map_cons,List.map_cons]
  refine .cons ?_ ih
  obtain ⟨h1,h2⟩:=h
  by_cases e : p.1 = k
  ·rw [if_pos e,if_pos (h1.symm.trans e)]; exact ⟨h1,ry⟩
  ·rw [if_neg e,if_neg (λz=>e (h1.trans z))]; exact ⟨h1,h2⟩
theorem KV.put {kvs : List (κ × V)} {vs : List (κ × Value)} (r : KV kvs vs) (k : κ) {y : V} {u : Value} (ry : RelV y u) : KV (putK kvs k y) (stored vs k u):=by
 unfold putK stored
 rw [r.any k]
 by_cases e : (vs.any λkv=>decide (kv.1 = k)) = true
 ·rw [if_pos e,if_pos e]; exact r.repl k ry
 ·rw [if_neg e,if_neg e]; exact Paired.snoc r ⟨rfl,ry⟩
theorem KV.length {kvs : List (κ × V)} {vs : List (κ × Value)} (r : KV kvs vs) : kvs.length = vs.length:=Paired.length r
end
theorem ye5 {P : Program} {w : World} {k : Key} {u : Value} (r : RelV (kV k) u) : (ybR P w).is k u = true:=by
 cases k with
 | inl i=>obtain ⟨t,e⟩:=(show ∃ t,u = Value.int i t from r); subst e; exact zfC P w i t
 | inr x=>obtain ⟨t,e⟩:=(show ∃ t,u = Value.str x t from r); subst e; exact zfD P w x t
theorem ygX {P : Program} {w : World} {y : V} {k : Key} {u : Value} (e : kOf y = some k) (r : RelV y u) : (yb1 P w).is k u = true:=by
 cases y with
 | int i=>cases e; obtain ⟨t,e⟩:=(show ∃ t,u = Value.int i t from r); subst e; exact zeS P w i t
 | str x=>cases e; obtain ⟨t,e⟩:=(show ∃ t,u = Value.str x t from r); subst e; exact zeT P w x t
 | bl b=>cases e; cases (show u = Value.bool b from r); exact decide_eq_true rfl
 | _=>cases e
theorem zee {P : Program} {w : World} : ∀ {ys : List V} {ks : List Key} {us : List Value},ys.map kOf = ks.map some -> Vals ys us -> ItemsAre (yb1 P w) ks us
 | [],[],_,_,r=>by cases r; exact .nil
 | [],_ :: _,_,e,_=>by simp at e
 | _ :: _,[],_,e,_=>by simp at e
 | y :: ys,k :: ks,_,e,r=>by
  rw [List.map_cons,List.map_cons] at e
  injection e with e1 e2
  cases r with
  | cons h t=>exact .cons (ygX e1 h) (zee e2 t)
def KTup (H : Hp) (b : Addr) (k : List Key) : Prop:=∃ ys,H b = some (.tup ys) /\ ys.map kOf = k.map some
theorem KTup.of {H : Hp} {b : Addr} {k : List Key} (e : H b = some (.tup (k.map kV))) : KTup H b k:=⟨_,e,by rw [List.map_map]; exact List.map_congr_left λx _=>ygr x⟩
def DictE {P : Program} {w : World} {K : Type} [DecidableEq K] (h : Heap) (kn : PySem.HeapKind P w K) (d : Addr) (xs : List (K × Addr × Value)) (n : Nat) : Prop :=
 ∃ o es,h.get? d = some o /\ o.ExactDict /\ o.data = .dict es n /\ es.toList = xs.map (entryOfKey kn) /\ (∀ x ∈ xs,kn.is h x.1 x.2.1) /\ (xs.map (·.1)).Nodup
theorem DictE.of {P : Program} {w : World} {K : Type} [DecidableEq K] {h : Heap} {kn : PySem.HeapKind P w K} {d : Addr} {xs : List (K × Addr × Value)} {n : Nat} (e : DictE h kn d xs n) : h.DictOfH kn d xs:=e.imp λ_ ⟨es,r⟩=>⟨es,n,r⟩
theorem setE {P : Program} {w : World} {K : Type} [DecidableEq K] {kn : PySem.HeapKind P w K} {d b : Addr} {k : K} {xs : List (K × Addr × Value)} {A : Around} {E : Value -> Shared -> Prop} {s : Shared} {v : Value} {Q : Unit -> Shared -> Prop}
  (hu : kn.room A.in1) (hk : kn.is s.heap k b) (hm : DictE s.heap kn d xs xs.length) (hz : xs.length <= sizeLine)
  (q : ∀ g,DictE g kn d (storedH xs k b v) (storedH xs k b v).length -> Heap.SameBut d s.heap g -> Q () { s with heap:=g,toks:=s.toks + kn.draws k }) :
  wpAny (model P w) A (setItem (.ref d) (.ref b) v) Q E s:=by
 have ty:=hm.of.typeIs
 obtain ⟨o,es,e1,e2,e3,e4,e5,e6⟩:=hm
 unfold setItem
 try with_reducible refine wpAny_holding ?_
 refine wpAny_bind (wpAny_sequenceKey ty (by decide) (wpAny_bind (wpAny_callSpecial?_slot (name:=Str.ofString "__setitem__") ty slot_dict_setitem (wpAny_call_entry slot_dict_setitem ty entry_dict_setitem ?_ (args_dict_setitem _ _ _)))))
 show wpAny _ _ (Builtin.Dict.notOrdered "__setitem__" _ >>= _) _ _ s
 refine wpAny_bind (wpAny_notOrdered_dict ty (show wpAny _ _ (dictSet d (.ref b) v >>= _) _ _ s from wpAny_bind ?_))
 have fin : ∀ g,DictE g kn d (storedH xs k b v) (storedH xs k b v).length -> Heap.SameBut d s.heap g -> wpAny (model P w) A.in1 (pure Unit.unit) (λ_ s' => Q () s') (λ_ _=>False) { s with heap:=g,toks:=s.toks + kn.draws k }:=λg a c=>wpAny_pure (q g a c)
 unfold dictSet
 try with_reducible refine wpAny_holding ?_
 refine wpAny_bind (kn.pyHash hu hk ?_)
 unfold dictSetHashed
 try with_reducible refine wpAny_holding ?_
 refine wpAny_bind (wpAny_dictFind_heap (s:={ s with toks:=s.toks + kn.draws k }) hu hk e1 e3 e4 e5 e6 (λno=>?_) λj p hj=>?_)
 ·have st:=storedH_new (a:=b) (v:=v) (atKey_none_of_get no)
  refine wpAny_bind (wpAny_rule (wpAny_updateDictKeys (hz:=by have z:=size_of_entries e4; lia) (s:={ s with toks:=s.toks + kn.draws k }) e1 e3 (wpAny_pure ⟨.none,rfl,wpAny_pure (q _ ?_ (Heap.SameBut.update ..))⟩)))
  have ln : (xs++[(k,b,v)]).length = xs.length + 1:=by simp
  rw [st,ln]
  refine ⟨_,_,Heap.get?_update_self _ e1 (Obj.isFreed_of_dict (Obj.data_mapDictKeys e3 _)),e2.mapDictKeys _,Obj.data_mapDictKeys e3 _,?_,λx hx=>?_,?_⟩
  ·simp [e4,entryOfKey]
  ·rcases List.mem_append.mp hx with hx | hx
   ·exact kn.keeps (e5 x hx) e1 e3 (Heap.SameBut.update ..)
   ·have z : x = (k,b,v):=by simpa using hx
    rw [z]; exact kn.keeps hk e1 e3 (Heap.SameBut.update ..)
  ·rw [List.map_append,List.nodup_append]
   exact ⟨e6,by simp,λx hx y hy z=>not_mem_keys_of_get no (by
    have e : y = k:=by simpa using hy
    rw [<- e,<- z]; exact hx)⟩
 ·have st:=storedH_old (a:=b) (v:=v) (atKey_of_get e6 hj)
  refine wpAny_bind (wpAny_rule (wpAny_bind (wpAny_updateDict (s:={ s with toks:=s.toks + kn.draws k }) e1 e3 (wpAny_point (wpAny_pure ⟨.none,rfl,wpAny_pure (q _ ?_ (Heap.SameBut.update ..))⟩)))))
  rw [st,List.length_map]
  refine ⟨_,_,Heap.get?_update_self _ e1 (Obj.isFreed_of_dict (Obj.data_mapDict e3 _)),e2.mapDict _,Obj.data_mapDict e3 _,?_,λx hx=>?_,?_⟩
  ·have z:=modify_map_putAt (entryOfKey kn) (λe : DictEntry=>{ e with val:=v }) k v (λ_ _=>rfl) e6 hj
   rw [<- e4] at z
   obtain ⟨l⟩:=es
   simpa using z
  ·obtain ⟨y,hy,rfl⟩:=List.mem_map.mp hx
   unfold putAt
   split<;>exact kn.keeps (e5 y hy) e1 e3 (Heap.SameBut.update ..)
  ·rw [keys_map_putAt]; exact e6
def adX (xc : Option (List Addr)) (old : Bool) (b : Addr) : Option (List Addr):=xc.map λas=>if old then as else as++[b]
theorem ygY {xs : List (List Key × Addr × Value)} {k : List Key} {b : Addr} {u : Value} {xc : Option (List Addr)} (h : ∀ as,xc = some as -> xs.map (·.2.1) = as) : ∀ as,adX xc (atKey xs k).isSome b = some as -> (storedH xs k b u).map (·.2.1) = as:=by
 intro as e
 obtain ⟨bs,e1,e2⟩:=Option.map_eq_some_iff.mp e
 subst e2
 unfold storedH
 by_cases q : (atKey xs k).isSome = true
 ·rw [if_pos q,if_pos q,List.map_map,<- h bs e1]
  exact List.map_congr_left λx _=>by show (putAt k u x).2.1 = x.2.1; unfold putAt; split<;>rfl
 ·rw [if_neg q,if_neg q,List.map_append,h bs e1]; rfl
abbrev KT (H : Hp) : List (List Key × V) -> List (List Key × Addr × Value) -> Prop:=Paired λp q=>p.1 = q.1 /\ (∃ ys,H q.2.1 = some (.tup ys) /\ ys.map kOf = p.1.map some) /\ RelV p.2 q.2.2
theorem KT.val {H : Hp} {kvs : List (List Key × V)} {xs : List (List Key × Addr × Value)} (r : KT H kvs xs) (k : List Key) : RelO (valV kvs k) ((atKey xs k).map (·.2)):=by
 induction r with
 | nil=>exact True.intro
 | @cons p q ps qs h t ih =>
  obtain ⟨h1,_,h2⟩:=h
  by_cases e : p.1 = k
  ·have e' : q.1 = k:=h1.symm.trans e
   have b : atKey (q :: qs) k = some q.2:=by simp [atKey,List.find?_cons,e']
   rw [zbT e,b]; exact h2
  ·have e' : ¬ q.1 = k:=λz=>e (h1.trans z)
   have b : atKey (q :: qs) k = atKey qs k:=by simp [atKey,List.find?_cons,e']
   rw [zbr e,b]; exact ih
theorem KT.repl {H : Hp} {kvs : List (List Key × V)} {xs : List (List Key × Addr × Value)} (r : KT H kvs xs) (k : List Key) {y : V} {u : Value} (ry : RelV y u) :
  KT H (kvs.map λkv=>if kv.1 = k then (kv.1,y) else kv) (xs.map (putAt k u)):=by
 induction r with
 | nil=>exact .nil
 | @cons p q ps qs h t ih =>
  rw [List.map_cons,List.map_cons]
  refine .cons ?_ ih
  obtain ⟨h1,h2,h3⟩:=h
  unfold putAt
  by_cases e : p.1 = k
  ·rw [if_pos e,if_pos (h1.symm.trans e)]; exact ⟨h1,h2,ry⟩
  ·rw [if_neg e,if_neg (λz=>e (h1.trans z))]; exact ⟨h1,h2,h3⟩
theorem KT.put {H : Hp} {kvs : List (List Key × V)} {xs : List (List Key × Addr × Value)} (r : KT H kvs xs) (k : List Key) {b : Addr} {y : V} {u : Value} (hb : KTup H b k) (ry : RelV y u) :
  KT H (putK kvs k y) (storedH xs k b u):=by
 have e : (kvs.any λkv=>decide (kv.1 = k)) = (atKey xs k).isSome:=by
  rw [zbU,(r.val k).isSome_eq,Option.isSome_map]
 unfold putK storedH
 rw [e]
 by_cases q : (atKey xs k).isSome = true
 ·rw [if_pos q,if_pos q]; exact r.repl k ry
 ·rw [if_neg q,if_neg q]; exact Paired.snoc r ⟨rfl,hb,ry⟩
theorem KT.keeps {H H' : Hp} {kvs : List (List Key × V)} {xs : List (List Key × Addr × Value)} (r : KT H kvs xs) (ht : ∀ b ys,H b = some (.tup ys) -> H' b = some (.tup ys)) : KT H' kvs xs :=
 Paired.mapP r λ_ _ z=>⟨z.1,z.2.1.imp λ_ e=>⟨ht _ _ e.1,e.2⟩,z.2.2⟩
section
variable {P : Program} {w : World} {H : Hp} {h : Heap} {a : Addr}
theorem ygb {u : HO} (ok : HOk P w H h) (e : Rd H a u) : ObjOk P w H h a u:=e.ok ok
theorem yeb {kvs : List (Key × V)} (ok : HOk P w H h) (e : Rd H a (.dK kvs)) : kvs.length <= sizeLine /\ (a == sysModules) = false /\ ∃ vs,KV kvs vs /\ h.DictOf (ybR P w) a vs :=
 show ObjOk P w H h a (.dK kvs) from ygb ok e
theorem ygc {kvs : List (Key × V)} (ok : HOk P w H h) (e : H a = some (.dK kvs)) : kvs.length <= sizeLine /\ (a == sysModules) = false /\ ∃ vs,KV kvs vs /\ h.DictOf (ybR P w) a vs:=yeb ok (.inl e)
theorem yep {ks : List Key} (ok : HOk P w H h) (e : KTup H a ks) : (tupleKind (yb1 P w)).is h ks a:=by
 obtain ⟨ys,e,ek⟩:=e
 obtain ⟨_,its,r,o,h1,h2,n,h3⟩:=(show ObjOk P w H h a (.tup ys) from ok a _ e)
 exact ⟨o,its.toArray,n,h1,h2,h3,by simpa using zee ek r⟩
theorem yey {xc : Option (List Addr)} {kvs : List (List Key × V)} (ok : HOk P w H h) (e : Rd H a (.dT xc kvs)) : kvs.length <= sizeLine /\ (a == sysModules) = false /\
  ∃ xs,KT H kvs xs /\ (∀ as,xc = some as -> xs.map (·.2.1) = as) /\ DictE h (tupleKind (yb1 P w)) a xs xs.length:=by
 obtain ⟨z,y,xs,r,o,es,ep,h1,h2,h3,h4,h5⟩:=(show ObjOk P w H h a (.dT xc kvs) from ygb ok e)
 obtain ⟨h5,h6,h7⟩:=h5
 subst h6
 refine ⟨z,y,xs,r,h7,o,es,h1,h2,h3,h4,λx hx=>?_,h5⟩
 have all : ∀ {l : List (List Key × V)} {m : List (List Key × Addr × Value)},KT H l m -> ∀ x ∈ m,(tupleKind (yb1 P w)).is h x.1 x.2.1:=by
  intro l m q
  induction q with
  | nil=>intro x hx; exact nomatch hx
  | @cons p q ps qs hq t ih =>
   intro x hx
   rcases List.mem_cons.mp hx with e | hx
   ·subst e
    exact yep ok (by rw [<- hq.1]; exact hq.2.1)
   ·exact ih x hx
 exact all r x hx
theorem yig {xc : Option (List Addr)} {kvs : List (List Key × V)} (ok : HOk P w H h) (e : H a = some (.dT xc kvs)) : kvs.length <= sizeLine /\ (a == sysModules) = false /\
  ∃ xs,KT H kvs xs /\ (∀ as,xc = some as -> xs.map (·.2.1) = as) /\ DictE h (tupleKind (yb1 P w)) a xs xs.length:=yey ok (.inl e)
end
def DGet (H : Hp) (a : Addr) (y : V) (r : Option V) : Prop :=
 (∃ kvs k,Rd H a (.dK kvs) /\ y = kV k /\ r = valV kvs k) \/ ∃ xc kvs k b,Rd H a (.dT xc kvs) /\ y = .ref b /\ KTup H b k /\ r = valV kvs k
def DPut (H : Hp) (a : Addr) (y v : V) (H' : Hp) : Prop :=
 (∃ kvs k,H a = some (.dK kvs) /\ y = kV k /\ kvs.length < sizeLine /\ H' = upd H a (.dK (putK kvs k v))) \/
 ∃ xc kvs k b,H a = some (.dT xc kvs) /\ y = .ref b /\ KTup H b k /\ kvs.length < sizeLine /\ H' = upd H a (.dT (adX xc (kvs.any λkv=>decide (kv.1 = k)) b) (putK kvs k v))
theorem DGet.k {H : Hp} {a : Addr} {kvs : List (Key × V)} {k : Key} (e : H a = some (.dK kvs)) : DGet H a (kV k) (valV kvs k):=.inl ⟨kvs,k,.inl e,rfl,rfl⟩
theorem DGet.t {H : Hp} {a b : Addr} {kvs : List (List Key × V)} {k : List Key} {xc : Option (List Addr)} (e : H a = some (.dT xc kvs)) (eb : KTup H b k) : DGet H a (.ref b) (valV kvs k):=.inr ⟨xc,kvs,k,b,.inl e,rfl,eb,rfl⟩
theorem DPut.k {H : Hp} {a : Addr} {kvs : List (Key × V)} {k : Key} {v : V} (e : H a = some (.dK kvs)) (hl : kvs.length < sizeLine) : DPut H a (kV k) v (upd H a (.dK (putK kvs k v))):=.inl ⟨kvs,k,e,rfl,hl,rfl⟩
theorem DPut.t {H : Hp} {a b : Addr} {kvs : List (List Key × V)} {k : List Key} {v : V} (e : H a = some (.dT none kvs)) (eb : KTup H b k) (hl : kvs.length < sizeLine) :
  DPut H a (.ref b) v (upd H a (.dT none (putK kvs k v))):=.inr ⟨none,kvs,k,b,e,rfl,eb,hl,rfl⟩
section
variable {X : Cx} {pins : List (Addr × Obj)} {σ : St} {H : Hp} {s : Shared} {a : Addr} {y v : V} {u r : Value} {o : Option V} {A : Around} {E : Value -> Shared -> Prop}
theorem Inv.big (I : Inv X pins σ H s) : sysModules < s.heap.objs.size:=by
 have h : mainGlobals < s.heap.objs.size:=(I.mod.glob.keeps I.bk).lt
 exact Nat.lt_trans (by decide) h
theorem zhm {Q : Value -> Shared -> Prop} (hu : A.units + 1 < cLine) (I : Inv X pins σ H s) (g : DGet H a y (some v)) (ry : RelV y u) (h : ∀ w' s',Inv X pins σ H s' -> RelV v w' -> Q w' s') :
  wpAny (model X.prog X.w) A (getItem (.ref a) u) Q E s:=by
 rcases g with ⟨kvs,k,e,ey,l⟩ | ⟨xc,kvs,k,b,e,ey,eb,l⟩
 ·subst ey
  obtain ⟨z,hd,vs,rel,dd⟩:=yeb I.hok e
  obtain ⟨w',hw,rw'⟩:=RelO.some_of (v:=v) (o:=valueAt vs k) (by rw [l]; exact rel.val k)
  exact wpAny_getItem_of (ye5 ry) dd.mapOf hw (h w' _ (I.tok _) rw')
 ·subst ey
  cases (show u = Value.ref b from ry)
  obtain ⟨z,hd,xs,rel,_,dd⟩:=yey I.hok e
  replace dd:=dd.of
  obtain ⟨w',hw,rw'⟩:=RelO.some_of (v:=v) (o:=(atKey xs k).map (·.2)) (by rw [l]; exact rel.val k)
  obtain ⟨p,hp,hp2⟩:=Option.map_eq_some_iff.mp hw
  refine wpAny_getItem_heap (tupleKind_room_in1 hu) (yep I.hok eb) dd hp ?_
  rw [hp2]
  exact h w' _ (I.tok _) rw'
theorem zjr {Q : Value -> Shared -> Prop} (hu : A.units + 1 < cLine) (I : Inv X pins σ H s) (g : DGet H a y o) (ry : RelV y u) (h : ∀ s',Inv X pins σ H s' -> Q (.bool (!o.isSome)) s') :
  wpAny (model X.prog X.w) A (compareOp .NotIn u (.ref a)) Q E s:=by
 rcases g with ⟨kvs,k,e,ey,l⟩ | ⟨xc,kvs,k,b,e,ey,eb,l⟩
 ·subst ey
  obtain ⟨z,hd,vs,rel,dd⟩:=yeb I.hok e
  refine wpAny_notIn_of (ye5 ry) hd dd.mapOf ?_
  rw [<- (rel.val k).isSome_eq,<- l]
  exact h _ (I.tok _)
 ·subst ey
  cases (show u = Value.ref b from ry)
  obtain ⟨z,hd,xs,rel,_,dd⟩:=yey I.hok e
  replace dd:=dd.of
  refine wpAny_notIn_heap (tupleKind_room_in1 hu) (yep I.hok eb) hd dd ?_
  have q:=(rel.val k).isSome_eq
  rw [Option.isSome_map] at q
  rw [<- q,<- l]
  exact h _ (I.tok _)
theorem zf7 {h' : Heap} {t' : Nat} {ob : HO} (I : Inv X pins σ H s) (mu : Mut (H a)) (hs : Heap.SameBut a s.heap h') (he : ∃ q,h'.get? a = some q) (new : ObjOk X.prog X.w (upd H a ob) h' a ob) :
  Inv X pins σ (upd H a ob) { s with heap:=h',toks:=t' } :=
 I.write (x:=a) (e:=a) mu (.inl rfl) (λb q hb z=>(hs.2 b hb).trans z) he new
theorem ygZ {P : Program} {w : World} {H' : Hp} {h' : Heap} {kvs : List (Key × V)} {vs : List (Key × Value)} (z : kvs.length <= sizeLine) (hd : (a == sysModules) = false) (rel : KV kvs vs) (dd : h'.DictOf (ybR P w) a vs) :
  ObjOk P w H' h' a (.dK kvs):=⟨z,hd,vs,rel,dd⟩
theorem zhn {H' : Hp} {Q : Unit -> Shared -> Prop} (hu : A.units + 1 < cLine) (I : Inv X pins σ H s) (g : DPut H a y v H') (ry : RelV y u) (rv : RelV v r) (h : ∀ s',Inv X pins σ H' s' -> Q () s') :
  wpAny (model X.prog X.w) A (setItem (.ref a) u r) Q E s:=by
 rcases g with ⟨kvs,k,e,ey,l,eH⟩ | ⟨xc,kvs,k,b,e,ey,eb,l,eH⟩
 ·subst ey eH
  obtain ⟨z,hd,vs,rel,dd⟩:=ygc I.hok e
  have hz : vs.length <= sizeLine:=by rw [<- rel.length]; exact z
  have hl : (putK kvs k v).length <= sizeLine:=by have:=zcS kvs k v; lia
  refine wpAny_setItem_pairs (hsz:=hz) (ye5 ry) dd λh' dd' hs=>h _ ?_
  have he : ∃ q,h'.get? a = some q:=let ⟨q,_,_,hq,_⟩:=dd'; ⟨q,hq⟩
  exact zf7 I (by rw [e]; exact True.intro) hs he (ygZ hl hd (rel.put k rv) dd')
 ·subst ey eH
  cases (show u = Value.ref b from ry)
  obtain ⟨z,hd,xs,rel,ha,dd⟩:=yig I.hok e
  have hz : xs.length <= sizeLine:=by rw [<- Paired.length rel]; exact z
  have hl : (putK kvs k v).length <= sizeLine:=by have:=zcS kvs k v; lia
  have eo : (kvs.any λkv=>decide (kv.1 = k)) = (atKey xs k).isSome:=by rw [zbU,(rel.val k).isSome_eq,Option.isSome_map]
  refine setE (tupleKind_room_in1 hu) (yep I.hok eb) dd hz λh' dd' hs=>h _ ?_
  obtain ⟨q,es,hq,h2,h3,h4,_,h5⟩:=dd'
  refine zf7 I (by rw [e]; exact True.intro) hs ⟨q,hq⟩ ⟨hl,hd,_,(rel.put k eb rv).keeps λc ys ec=>?_,q,es,_,hq,h2,h3,h4,h5,rfl,by rw [eo]; exact ygY ha⟩
  rw [yaw (yhV ec e (λz=>nomatch z))]
  exact ec
end
section
variable {X : Cx} {pins : List (Addr × Obj)} {σ : St} {H : Hp} {s : Shared} {a : Addr} {kvs : List (Key × V)} {k : Key} {u : Value} {A : Around} {E : Value -> Shared -> Prop}
theorem yih {Q : Value -> Shared -> Prop} (I : Inv X pins σ H s) (e : Rd H a (.dK kvs)) (h : ∀ t s',Inv X pins σ H s' -> Q (.int kvs.length t) s') : wpAny (model X.prog X.w) A (call (.builtin "len") [.ref a]) Q E s:=by
 obtain ⟨z,hd,vs,rel,dd⟩:=yeb I.hok e
 refine call_len_dict hd dd (by rw [<- rel.length]; rw [sizeLine_eq] at z; lia) ?_
 rw [<- rel.length]
 exact h _ _ (I.tok _)
end
def NoSl (i : Expr) : Prop:=∀ ov iv,subscripted i false ov iv = operate [ov,iv] (getItem ov iv)
theorem zjs {prog : Program} {w : World} {A : Around} {E : Value -> Shared -> Prop} {s : Shared} {env : Env} {value slice : Expr} {pos : Pos} {T id : String} {Q : Value -> Shared -> Prop}
  (hl : typeLookup (.type T) "__getitem__" = pure (some (.builtin id))) (hs : NoSl slice)
  (h : wpAny (model prog w) A (eval value env) (λo s₁=>wpAny (model prog w) A (eval slice env) (λi s₂=>s₂.TypeIs o T /\ wpAny (model prog w) A (getItem o i) Q E s₂) E s₁) E s) :
  wpAny (model prog w) A (eval (.Subscript value slice pos) env) Q E s:=by
 refine Subscript_ (wpAny_mono h (λo s₁ h₁=>wpAny_mono h₁ (λi s₂ h₂=>?_) λ_ _ x=>x) λ_ _ x=>x)
 obtain ⟨hT,h₂⟩:=h₂
 unfold subscriptTail
 refine wpAny_bind ?_
 rw [getitemInPython_of_ne hT.not_modules]
 refine wpAny_bind (wpAny_specialOf hT hl ?_)
 have fin : wpAny (model prog w) A (subscripted slice false o i) (λr s₃=>wpAny (model prog w) A (letTemporaryGo value o r >>= λ_=>pure r) Q E s₃) E s₂:=by
  rw [hs o i]
  exact wpAny_operating (wpAny_mono h₂ (λr s₃ h₃=>wpAny_bind (wpAny_letTemporaryGo (wpAny_pure h₃))) λ_ _ x=>x)
 first
  | exact wpAny_pure (wpAny_bind fin)
  | exact wpAny_bind (wpAny_pure (wpAny_bind fin))
  | exact wpAny_bind fin
theorem zfE {X : Cx} {pins : List (Addr × Obj)} {σ : St} {H : Hp} {s : Shared} {a : Addr} {y : V} {o : Option V} (I : Inv X pins σ H s) (g : DGet H a y o) : s.TypeIs (.ref a) "dict" := by
 rcases g with ⟨kvs,k,e,_,_⟩ | ⟨xc,kvs,k,b,e,_,_,_⟩
 ·obtain ⟨_,_,vs,_,dd⟩:=yeb I.hok e
  exact dd.typeIs
 ·obtain ⟨_,_,xs,_,_,dd⟩:=yey I.hok e
  replace dd:=dd.of
  exact dd.typeIs
def yii (td ty : TE) : TE:=λσ H Q=>td σ H λx H1=>ty σ H1 λy H2=>∃ a v,x = .ref a /\ DGet H2 a y (some v) /\ Q v H2
def yij (td ty tv : TE) : TS:=λD σ H=>tv σ H λv H1=>td σ H1 λx H2=>ty σ H2 λy H3=>∃ a H4,x = .ref a /\ DPut H3 a y v H4 /\ D.nx σ H4
section
variable {X : Cx} {o i e value : Expr} {pos pos' tpos : Pos} {td ty tv : TE}
theorem zjt (hu : X.A.units + 1 < cLine) (ho : PE X o td) (hi : PE X i ty) (hs : NoSl i) : PE X (.Subscript o i pos) (yii td ty):=by
 intro pins s σ H Q I h
 refine zjs PySem.F.slot_dict_getitem.lookup hs (thn (ho pins s σ H _ I h) λu s1 ⟨x,H1,I1,rx,q1⟩=>thn (hi pins s1 σ H1 _ I1 q1) λiv s2 Zz=>?_);obtain ⟨y,H2,I2,ry,a,v,ex,g,q2⟩:=Zz
 subst ex
 obtain rfl : u = Value.ref a:=rx
 exact ⟨zfE I2 g,zhm hu I2 g ry λw' s3 I3 rw' => ⟨v,H2,I3,rw',q2⟩⟩
theorem zju (hu : X.A.units + 1 < cLine) (ho : PE X o td) (hi : PE X i ty) (hv : PE X value tv) (hs : swapsWith value (some (.Subscript o i pos')) pos.line X.env = pure false) :
  PS X (.Assign [.Subscript o i pos'] value pos) (yij td ty tv):=by
 intro pins s σ H D I h
 refine wpAny_Assign_Subscript (thn (hv pins s σ H _ I h) λr s1 ⟨v,H1,I1,rv,q1⟩=>thn (ho pins s1 σ H1 _ I1 q1) λu s2 ⟨x,H2,I2,rx,q2⟩=>thn (hi pins s2 σ H2 _ I2 q2) λiv s3 Zz=>?_) hs;obtain ⟨y,H3,I3,ry,a,H4,ex,g,q3⟩:=Zz
 subst ex
 obtain rfl : u = Value.ref a:=rx
 exact zhn hu I3 g ry rv λs4 I4=>⟨σ,H4,I4,q3⟩
end
theorem zik {P : Program} {w : World} {H : Hp} (h : Heap) (hb : sysModules < h.objs.size) : ObjOk P w H (h.push { cls:=.type "dict",data:=.dict #[] }) h.objs.size (.dK []) :=
 ⟨Nat.zero_le _,beq_eq_false_iff_ne.mpr (Ne.symm (Nat.ne_of_lt hb)),[],.nil,Heap.DictOf.new h⟩
theorem zil {P : Program} {w : World} {H : Hp} {xc : Option (List Addr)} (hx : xc = none \/ xc = some []) (h : Heap) (hb : sysModules < h.objs.size) : ObjOk P w H (h.push { cls:=.type "dict",data:=.dict #[] }) h.objs.size (.dT xc []) :=
 ⟨Nat.zero_le _,beq_eq_false_iff_ne.mpr (Ne.symm (Nat.ne_of_lt hb)),[],.nil,_,#[],0,Heap.get?_push_size _ rfl,⟨rfl,rfl,rfl⟩,rfl,rfl,List.nodup_nil,rfl,λas e=>by
  rcases hx with rfl | rfl
  ·cases e
  ·injection e⟩
def yg0 : TE:=λ_ H Q=>∀ p,H p = none -> Q (.ref p) (upd H p (.dK []))
def yg1 : TE:=λ_ H Q=>∀ p,H p = none -> Q (.ref p) (upd H p (.dT none []))
section
variable {X : Cx} {pos : Pos}
theorem zim : PE X (.Dict [] [] pos) yg0:=λpins s σ H Q I h =>
 wpAny_Dict_empty ⟨.ref s.heap.objs.size,_,I.laid (a:=s.heap.objs.size) (o:=.dK []) (t' := s.toks) (λ_ _ q=>Heap.get?_push_of_some _ q) (Nat.le_refl _) (zik s.heap I.big),rfl,h _ (I.hok.fresh (Nat.le_refl _))⟩
theorem zin : PE X (.Dict [] [] pos) yg1:=λpins s σ H Q I h =>
 wpAny_Dict_empty ⟨.ref s.heap.objs.size,_,I.laid (a:=s.heap.objs.size) (o:=.dT none []) (t' := s.toks) (λ_ _ q=>Heap.get?_push_of_some _ q) (Nat.le_refl _) (zil (.inl rfl) s.heap I.big),rfl,h _ (I.hok.fresh (Nat.le_refl _))⟩
end
structure M1 (X : Cx) (o : Expr) (m : Str) (apos : Pos) (e : Expr) (cpos : Pos) : Prop where
 base : attributeBase o m X.env (eval o X.env) = eval o X.env
 few : ((backTo cpos (starEach [e] X.env)).all (λx=>!x.1) && (backToKw cpos (keywordEach [] X.env)).all (λx=>x.1.isSome)
  && decide (([e] : List Expr).length + ([] : List Keyword).length + (if ([] : List Keyword).isEmpty then 0 else 1) < 30)) = true
 line : (apos.endLine == cpos.line) = true
 trees : backTo cpos (starEach [e] X.env) = [(false,eval e X.env)]
def IsD (H : Hp) (a : Addr) : Prop:=(∃ kvs,Rd H a (.dK kvs)) \/ ∃ xc kvs,Rd H a (.dT xc kvs)
theorem yg2 {X : Cx} {pins : List (Addr × Obj)} {σ : St} {H : Hp} {s : Shared} {a : Addr} (I : Inv X pins σ H s) (d : IsD H a) :
  s.TypeIs (.ref a) "dict" /\ (∀ b,Value.ref a = .ref b -> ∃ ob,s.heap.get? b = some ob /\ ob.dict = none) /\ (a == sysModules) = false:=by
 rcases d with ⟨kvs,e⟩ | ⟨xc,kvs,e⟩
 ·obtain ⟨_,hd,vs,_,dd⟩:=yeb I.hok e
  refine ⟨dd.typeIs,λb q=>?_,hd⟩
  cases q
  obtain ⟨ob,_,_,h1,h2,_⟩:=dd
  exact ⟨ob,h1,h2.2.1⟩
 ·obtain ⟨_,hd,xs,_,_,dd⟩:=yey I.hok e
  replace dd:=dd.of
  refine ⟨dd.typeIs,λb q=>?_,hd⟩
  cases q
  obtain ⟨ob,_,_,h1,h2,_⟩:=dd
  exact ⟨ob,h1,h2.2.1⟩
section
variable {X : Cx} {pins : List (Addr × Obj)} {σ : St} {H : Hp} {s : Shared} {a : Addr} {y d : V} {u r : Value} {o : Option V} {A : Around} {E : Value -> Shared -> Prop}
theorem yg3 {Q : Value -> Shared -> Prop} (hu : A.units + 1 < cLine) (I : Inv X pins σ H s) (g : DGet H a y o) (ry : RelV y u) (h : ∀ w' s',Inv X pins σ H s' -> RelV (o.getD .non) w' -> Q w' s') :
  wpAny (model X.prog X.w) A (call (.builtin "dict.get") [.ref a,u]) Q E s:=by
 rcases g with ⟨kvs,k,e,ey,l⟩ | ⟨xc,kvs,k,b,e,ey,eb,l⟩
 ·subst ey
  obtain ⟨z,hd,vs,rel,dd⟩:=yeb I.hok e
  refine call_meetsIn PySem.F.slot_dict_get dd.typeIs PySem.F.entry_dict_get (PySem.F.args_dict_get_2 _ _) (meets_dict_get (ybR X.prog X.w) a (ye5 ry) hd) ⟨_,dd.mapOf,h _ _ (I.tok _) ?_⟩
  rw [l]
  exact (rel.val k).getD rfl
 ·subst ey
  cases (show u = Value.ref b from ry)
  obtain ⟨z,hd,xs,rel,_,dd⟩:=yey I.hok e
  replace dd:=dd.of
  refine call_meetsIn PySem.F.slot_dict_get dd.typeIs PySem.F.entry_dict_get (PySem.F.args_dict_get_2 _ _) (meetsH_dict_get (tupleKind (yb1 X.prog X.w)) a b hd) ⟨tupleKind_room_in1 hu,k,xs,yep I.hok eb,dd,h _ _ (I.tok _) ?_⟩
  rw [l]
  exact (rel.val k).getD rfl
end
def yg4 (td ty : TE) : TE:=λσ H Q=>td σ H λx H1=>∃ a,x = .ref a /\ IsD H1 a /\ ty σ H1 λy H2=>∃ o,DGet H2 a y o /\ Q (o.getD .non) H2
section
variable {X : Cx} {o e f : Expr} {apos cpos : Pos} {td ty tx : TE}
theorem zio (hu : X.A.units + 1 < cLine) (ho : PE X o td) (he : PE X e ty) (m : M1 X o "get" apos e cpos) : PE X (.Call (.Attribute o "get" apos) [e] [] cpos) (yg4 td ty):=by
 intro pins s σ H Q I h
 refine wpAny_Call_method m.base m.few m.line PySem.F.plainAttrs_dict PySem.F.slot_dict_get PySem.F.type_dict_get (thn (ho pins s σ H _ I h) λu s1 Zz=>?_);obtain ⟨x,H1,I1,rx,a,ex,d,q1⟩:=Zz
 subst ex
 obtain rfl : u = Value.ref a:=rx
 obtain ⟨t1,t2,_⟩:=yg2 I1 d
 refine ⟨t1,t2,?_⟩
 rw [m.trees]
 refine Calls.callWith_builtin rfl (Calls.evalArgs_plain (Calls.spliced_cons (thn (he pins s1 σ H1 _ I1 q1) λiv s2 ⟨y,H2,I2,ry,ov,g,q2⟩=>Calls.spliced_nil ?_)))
 exact yg3 hu I2 g ry λw' s3 I3 rw' => ⟨_,H2,I3,rw',q2⟩
end
section
variable {X : Cx} {pins : List (Addr × Obj)} {σ : St} {H : Hp} {s : Shared} {a : Addr} {kvs : List (Key × V)} {A : Around} {E : Value -> Shared -> Prop}
end
section
variable {X : Cx} {pins : List (Addr × Obj)} {σ : St} {H : Hp} {s : Shared} {a : Addr} {y : V} {u : Value} {A : Around} {E : Value -> Shared -> Prop}
end
end L2
namespace Att
open PySem PySem.W PySem.Calls PyProof.Rows
theorem zdq {P : Params} {h : Heap} : ∀ (ns : List Int) (vs : List Value),WellAll P h vs (ns.map WData.int) -> IntsAre vs ns:=by
 intro ns
 induction ns with
 | nil =>
  intro vs w
  rw [List.map_nil] at w
  cases w
  exact .nil
 | cons n ns ih =>
  intro vs w
  rw [List.map_cons] at w
  cases w with
  | cons a b =>
   cases a
   exact .cons _ _ (ih _ b)
theorem zho {l : OpenLaw} {n : Nat} (hn : l.most = some n) {P : Params} {h : Heap} {args : List WData} {vals : List Value}
  (hpre : l.row.toRowW.claim.pre args = true) (hwl : WellAll P h vals args) :
  ∃ a vs ns,vals = [Value.ref a] /\ args = [WData.list (ns.map WData.int)] /\ h.get? a = some { cls:=.type "list",data:=.seq vs.toArray } /\ IntsAre vs ns /\ ns.length <= n:=by
 have hsh : WShape.hasAll [] args [.list .int] = true:=(pre_splitW hpre).1
 have hc : l.pre.holds [] { args:=args } = true:=(pre_splitW hpre).2
 obtain ⟨d,r,rfl,h1,h2⟩:=hasAllW_cons hsh
 obtain rfl:=hasAllW_nil h2
 obtain ⟨xs,rfl,h3⟩:=hasW_list h1
 obtain ⟨ns,rfl⟩:=items_int h3
 have hlen : ns.length <= n:=by
  unfold OpenLaw.pre at hc
  have h4 : (WTm.not (.lt (.lit (.int (n : Int))) (.len (.arg 0)))).holds [] { args:=[.list (ns.map .int)] } = true:=by
   have h4:=(holds_andW hc).1
   rw [hn] at h4
   exact h4
  have h5:=condW_of h4 (w_not (w_lt w_lit (w_len_list (w_arg rfl))))
  rw [List.length_map] at h5
  refine Nat.le_of_not_lt λq=>?_
  have q' : (n : Int) < ((ns.length : Nat) : Int):=by lia
  first
   | (rw [decide_eq_true q'] at h5; exact absurd h5 (by decide))
   | (simp at h5; lia)
 cases hwl with
 | cons w1 w2 =>
  cases w2
  cases w1 with
  | list ho hall=>exact ⟨_,_,ns,rfl,rfl,ho,zdq ns _ hall,hlen⟩
theorem zhp (l : OpenLaw) (args : List WData) : l.row.toRowW.claim.post args (.bool true) args = true :=
 postW_of (r:=l.row.toRowW) (X:=(true == true))
  (show WShape.has [] (.bool true) .bool = true by first | rfl | decide | simp [WShape.has,WShape.arms,WShape.armsAll])
  (show (WTm.eq .res (.lit (.bool true))).value [] { args:=args,res:=some (.bool true),after:=args } = some (.bool (true == true)) from w_eq_bool (w_res rfl) w_lit) rfl
theorem attach_call {l : OpenLaw} {n : Nat} {q : Program} {loose : List Str} {XP : (Str -> Option Value) -> Heap -> Prop} {YP : World -> Heap -> Prop} {d : DefRec}
  (hn : l.most = some n) (hdf : d.params.defaults = [])
  (call : ∀ (w : World) (s₀ s₁ : Shared) (mg mb : Str -> Option Value) (fa : Addr) (o : Obj) (pm cd doc : Value) (a : Addr) (vs : List Value) (ns : List Int),
   Ground q loose [] XP w s₀ mg mb s₁.heap -> YP w s₁.heap ->
   s₁.heap.get? fa = some o -> o.data = .func (docDef d.name d.params d.body d.scope pm cd doc) -> s₁.heap.CodeRec cd d.name -> mg d.name = some (.ref fa) ->
   s₁.heap.get? a = some { cls:=.type "list",data:=.seq vs.toArray } -> IntsAre vs ns -> ns.length <= n -> s₁.gens = #[] ->
   codeAny (model l.prog w) callerA (.call (.ref fa) ⟨[.ref a],[]⟩) (λr s' => r = .ok (.ret (.bool true)) /\ OldK s₁.heap s'.heap /\ s'.os = s₁.os /\ AllBare s'.gens) s₁) :
  WalkO q loose XP YP l.row.toRowW d [] (λf vs=>PySem.call f vs):=by
 intro w s₀ s₁ mg mb G Y fa o pm cd doc dV kV ho hd hcd hD hmg hg args vals as hpre hlay hrd hwl hlo
 obtain rfl : dV = .none:=Dflts.none hD hdf
 obtain rfl : kV = .none:=Dflts.noKw hD
 obtain ⟨a,vs,ns,rfl,rfl,hobj,hints,hlen⟩:=zho hn hpre hwl
 refine enter_call (codeAny_mono (call w s₀ s₁ mg mb fa o pm cd doc a vs ns G Y ho (fd_plain hd) hcd hmg hobj hints hlen hg) λr s' hq=>?_)
 obtain ⟨rfl,h2,h3,h4⟩:=hq
 exact ⟨.inl ⟨.bool true,.bool true,[],rfl,λ_=>rfl,.bool true,zhp l _,λ_=>⟨List.Pairwise.nil,λ_ hm=>(nomatch hm)⟩⟩,h2,h3,h4⟩
section
variable {prog : Program} {w : World} {A : Around} {E : Value -> Shared -> Prop} {s : Shared} {K : Frag}
end
end Att
namespace L2
open PySem PySem.Spec PyProof.Rows
theorem zef : ∀ {vs : List Value} {ns : List Int},IntsAre vs ns -> Vals (ns.map V.int) vs
 | _,_,.nil=>.nil
 | _,_,.cons n t h=>.cons ⟨t,rfl⟩ (zef h)
def Only (H : Hp) : Prop:=∀ b,H b = none \/ ∃ o xs,H b = some (.frz o (.lst xs))
theorem ziq {P : Program} {w : World} {K : PySem.W.Frag} {mg mb : Str -> Option Value} {CX : CXT} {k : Nat} {fa a : Addr} {fd : FuncData} {x : Str} {sp : Sp} {s₁ : Shared} {vs : List Value} {ns : List Int}
  (KX : K.In s₁.heap) (hns : s₁.heap.Ns mainGlobals mg) (hb : s₁.heap.Ns builtinsNs mb) (hbb : ∀ x : Str,x ≠ "__name__" -> mb x = bootBuiltins x) (hlim : s₁.heap.NoLimit) (hg : s₁.gens = #[])
  (ha : s₁.heap.get? a = some { cls:=.type "list",data:=.seq vs.toArray }) (hi : IntsAre vs ns) (hl : ns.length <= sizeLine) (hr : Room k callerA)
  (F : ∀ base : Heap,K.In base -> base.Ns mainGlobals mg -> FnOk P w K mg base CX k fa fd [x] sp) (hbind : ∀ (s : Shared) (u : Value),BindsTo s fd ⟨[u],[]⟩ [(x,u)])
  (hsp : ∀ H : Hp,Only H -> SqL K H a (ns.map V.int) -> sp [.ref a] H (λv _=>v = .bl true) λ_ _ _=>False)
  (hCX : ∀ H e s',CX [] H s₁ (λ_ _ _=>False) e s' -> False) :
  codeAny (model P w) callerA (.call (.ref fa) ⟨[.ref a],[]⟩) (λr s' => r = .ok (.ret (.bool true)) /\ OldK s₁.heap s'.heap /\ s'.os = s₁.os /\ AllBare s'.gens) s₁:=by
 have rv:=zef hi
 have lenV:=hi.length
 have core : ∀ H : Hp,Only H -> SqL K H a (ns.map V.int) -> HOk P w H s₁.heap -> (∀ b,H b ≠ none -> b = a) -> (H a ≠ none -> K.lookup a = none) ->
   codeAny (model P w) callerA (.call (.ref fa) ⟨[.ref a],[]⟩) (λr s' => r = .ok (.ret (.bool true)) /\ OldK s₁.heap s'.heap /\ s'.os = s₁.os /\ AllBare s'.gens) s₁:=by
  intro H hO hS hok hA hK
  have base_of : ∀ {b : Addr} {o : Obj},s₁.heap.get? b = some o -> H b = none -> (hidT s₁.heap H).get? b = some o:=λe n=>zh6 e n
  have noA : ∀ {b : Addr} {o : Obj} {es : Array DictEntry} {ep : Nat},s₁.heap.get? b = some o -> o.data = .dict es ep -> H b = none:=λ{b o es ep} e d=>by
   cases q : H b with
   | none=>rfl
   | some u =>
    have e' : b = a:=hA b (by rw [q]; simp)
    subst e'
    rw [ha] at e; cases e
    have d' : Data.seq vs.toArray _ = Data.dict es ep:=d
    cases d'
  have nsK : ∀ {b : Addr} {m : Str -> Option Value},s₁.heap.Ns b m -> (hidT s₁.heap H).Ns b m:=λ{b m} ⟨o,es,ep,e,d,r⟩=>⟨o,es,ep,base_of e (noA e d),d,r⟩
  have hKb : K.In (hidT s₁.heap H):=λb o e=>base_of (KX b o e) (by
   cases q : H b with
   | none=>rfl
   | some u =>
    have e' : b = a:=hA b (by rw [q]; simp)
    subst e'
    rw [hK (by rw [q]; simp)] at e; cases e)
  have hM : Mod K mg (hidT s₁.heap H):=⟨hKb,nsK hns,⟨mb,nsK hb,hbb⟩,let ⟨mc,h1,h2⟩:=hlim; ⟨mc,nsK h1,h2⟩⟩
  have e0 : Env0 P w K mg (hidT s₁.heap H) callerA [] s₁ H:=⟨rfl,hM,λb o e=>zja e,Nat.le_of_eq (zhc _ _),trivial,λb hb=>absurd (show b ∈ ([] : List Addr) from hb) (by simp),hok,.of_eq hg⟩
  refine codeAny_mono ((F _ hKb (nsK hns)).run callerA [] s₁ H ⟨[.ref a],[]⟩ [.ref a] [.ref a] _ _ hr e0 (hbind s₁ (.ref a)) (.cons rfl .nil) (hsp H hO hS)) λr s' h=>?_
  cases r with
  | error e=>exact (hCX H e s' h).elim
  | ok fl =>
   cases fl with
   | next=>exact False.elim h
   | brk=>exact False.elim h
   | cont=>exact False.elim h
   | ret u =>
    obtain ⟨v,H',os,bare,un,hok',r',q⟩:=h
    have q' : v = .bl true:=q
    subst q'
    obtain rfl : u = Value.bool true:=r'
    refine ⟨rfl,OldK.of_keep λb o e=>?_,os,bare⟩
    cases q : H b with
    | none=>exact un.keep b o e q (by intro z; exact absurd (show b ∈ ([] : List Addr) from z) (by simp)) (by simp)
    | some u =>
     rcases hO b with z | ⟨ob,xs,z⟩
     ·rw [q] at z; cases z
     ·have z2:=un.frzs b ob _ z
      obtain ⟨e1,_⟩:=hok b _ z
      obtain ⟨e2,_⟩:=hok' b _ z2
      rw [e] at e1; cases e1
      exact e2
 cases hk : K.lookup a with
 | some o =>
  have e:=KX a o hk
  rw [ha] at e
  cases e
  refine core (λ_=>none) (λ_=>.inl rfl) (.inr ⟨_,vs.toArray,_,hk,rfl,rfl,rfl,by rw [List.size_toArray,lenV]; exact hl,by simpa using rv⟩) (λb u z=>by have z' : (none : Option HO) = some u:=z; cases z') (λb z=>absurd rfl z) λz=>absurd rfl z
 | none =>
  refine core (λb=>if b = a then some (.frz { cls:=.type "list",data:=.seq vs.toArray } (.lst (ns.map V.int))) else none) (λb=>?_) (.inl (.inr ⟨{ cls:=.type "list",data:=.seq vs.toArray },if_pos rfl⟩)) (λb u z=>?_) (λb z=>?_) λ_=>hk
  ·by_cases hb : b = a
   ·exact .inr ⟨_,_,if_pos hb⟩
   ·exact .inl (if_neg hb)
  ·by_cases hb : b = a
   ·have z' := (if_pos hb).symm.trans z
    cases z'
    subst hb
    exact ⟨ha,by rw [List.length_map]; exact hl,vs,_,rv,ha⟩
   ·have z' := (if_neg hb).symm.trans z
    cases z'
  ·by_cases hb : b = a
   ·exact hb
   ·exact absurd (if_neg hb) z
theorem walk_of {l : PySem.W.OpenLaw} {n k : Nat} {q : Program} {loose : List Str} {XP : (Str -> Option Value) -> Heap -> Prop} {YP : World -> Heap -> Prop} {d : DefRec} {K : Params -> PySem.W.Frag} {CX : World -> CXT} {sp : World -> Sp} {x : Str}
  (hn : l.most = some n) (hn2 : n <= sizeLine) (hdf : d.params.defaults = []) (hr : Room k callerA)
  (hY : ∀ (w : World) (h : Heap),YP w h -> (K w.params).In h)
  (F : ∀ (w : World) (mg : Str -> Option Value) (fa : Addr) (h : Heap),(K w.params).In h -> h.Ns mainGlobals mg -> mg d.name = some (.ref fa) ->
   ∃ fd : FuncData,(∀ (s : Shared) (u : Value),BindsTo s fd ⟨[u],[]⟩ [(x,u)]) /\
    ∀ base : Heap,(K w.params).In base -> base.Ns mainGlobals mg -> FnOk l.prog w (K w.params) mg base (CX w) k fa fd [x] (sp w))
  (hsp : ∀ (w : World) (H : Hp) (a : Addr) (ns : List Int),ns.length <= n -> Only H -> SqL (K w.params) H a (ns.map V.int) -> sp w [.ref a] H (λv _=>v = .bl true) λ_ _ _=>False)
  (hCX : ∀ (w : World) (H : Hp) (s : Shared) (e : Value) (s' : Shared),CX w [] H s (λ_ _ _=>False) e s' -> False) :
  PySem.W.WalkO q loose XP YP l.row.toRowW d [] (λf vs=>PySem.call f vs):=by
 refine Att.attach_call hn hdf λw s₀ s₁ mg mb fa o pm cd doc a vs ns G Y ho hd hcd hmg hobj hints hlen hg=>?_
 have KX:=hY w _ Y
 obtain ⟨fd,hb,hF⟩:=F w mg fa _ KX G.T.g hmg
 exact ziq KX G.T.g G.T.b G.T.builtins G.T.nolimit hg hobj hints (Nat.le_trans hlen hn2) hr hF hb (λH hO hS=>hsp w H a ns hlen hO hS) λH e s' => hCX w H s₁ e s'
def yaG (s : Stmt) (j : Nat) : Stmt:=match s with
 | .ClassDef _ _ _ body _ _ _ _ _ _ _=>body.getD j (.Pass ⟨0,0,0,0⟩)
 | _=>.Pass ⟨0,0,0,0⟩
def yc3 (s : Stmt) : Arguments:=match s with
 | .FunctionDef _ a _ _ _ _ _ _ _ _=>a
 | _=>{ posonlyargs:=[],args:=[],vararg:=none,kwonlyargs:=[],kw_defaults:=[],kwarg:=none,defaults:=[] }
def ych (s : Stmt) : List Stmt:=match s with
 | .FunctionDef _ _ b _ _ _ _ _ _ _=>b
 | _=>[]
def yag (s : Stmt) : Scope:=match s with
 | .FunctionDef _ _ _ _ _ _ sc _ _ _=>sc
 | _=>{ kind:=.function,names:=[],isGenerator:=false,isCoroutine:=false }
abbrev E0 : XK:=λ_ _ _=>False
structure Fun (K : PySem.W.Frag) (x qual : Str) (st : Stmt) (f : Addr) (fd : FuncData) : Prop where
 ex : ∃ (oc : Value) (od : Option Addr) (kV doc pm : Value) (an : Option Addr) (cdv ct : Value) (osl : Array (Option Value)),
  fd = PySem.W.fnOf x qual (yc3 st) (ych st) (yag st) .none kV doc pm an cdv ct /\ K.lookup f = some ⟨oc,od,.func fd,osl⟩ /\ PySem.W.codeIn K cdv qual = true
 kp : PySem.W.keepIn K (.ref f) = true
section
variable {P : Program} {w : World} {K : PySem.W.Frag} {mg : Str -> Option Value} {base : Heap}
theorem Fun.binds {x qual : Str} {st : Stmt} {f : Addr} {fd : FuncData} {ps : List Str} (F : Fun K x qual st f fd)
  (h : ∀ (kV doc pm : Value) (an : Option Addr) (cdv ct : Value) (us : List Value),us.length = ps.length -> bindArgs (PySem.W.fnOf x qual (yc3 st) (ych st) (yag st) .none kV doc pm an cdv ct) ⟨us,[]⟩ = pure (ps.zip us)) : Binds K fd ps []:=by
 obtain ⟨oc,od,kV,doc,pm,an,cdv,ct,osl,rfl,lk,hcd⟩:=F.ex
 exact .all (h kV doc pm an cdv ct)
theorem yfD {x qual : Str} {st : Stmt} {f : Addr} {oc : Value} {od an : Option Addr} {osl : Array (Option Value)} {kV doc pm cdv ct : Value} (l : K.lookup f = some ⟨oc,od,.func (PySem.W.fnOf x qual (yc3 st) (ych st) (yag st) .none kV doc pm an cdv ct),osl⟩)
  (c : PySem.W.codeIn K cdv qual = true) (k : PySem.W.keepIn K (.ref f) = true) : Fun K x qual st f (PySem.W.fnOf x qual (yc3 st) (ych st) (yag st) .none kV doc pm an cdv ct):=⟨⟨oc,od,kV,doc,pm,an,cdv,ct,osl,rfl,l,c⟩,k⟩
end
section
variable {X : Cx}
theorem pv (i : Nat) {x : Str} {pos : Pos} (hN : X.N[i]? = some x:=by rfl) (hv : Vis X.env.scope x:=by first | exact Or.inl rfl | exact Or.inr (Or.inl rfl) | exact Or.inr (Or.inr rfl)) (hd : (x == ("__debug__" : Str)) = false:=by decide)
  (hcd : (x == ("__classdict__" : Str)) = false:=by decide) : PE X (.Name x pos) (tVar i):=ygs hN hv hd hcd
theorem zhq : CallR X (.builtin "len") (λxs H Q=>∃ a kvs,xs = [V.ref a] /\ H a = some (.dK kvs) /\ Q (.int kvs.length) H):=by
 intro pins s σ H xs us Q I r h
 obtain ⟨a,kvs,rfl,ha,q⟩:=h
 obtain ⟨u,rfl,ru⟩:=yea r
 cases ru
 exact yih I (.inl ha) λt s' I' => ⟨.int kvs.length,H,I',⟨t,rfl⟩,q⟩
end
section
variable {κ : Type} [DecidableEq κ]
end
end L2
set_option maxHeartbeats 4000000
namespace L2
open PySem PySem.Spec PyProof.Rows
section
variable {X : Cx} {pins : List (Addr × Obj)} {σ : St} {H : Hp} {s : Shared} {h' : Heap}
theorem Inv.turnedL {t' : Nat} {fp : List Addr} (I : Inv X pins σ H s) (k : ∀ b o,b ∉ fp -> s.heap.get? b = some o -> h'.get? b = some o) (hf : ∀ b ∈ fp,FpOk X pins H b) :
  Inv X pins σ H { s with heap:=h',toks:=t' }:=by
 have nit : ∀ b u,H b = some u -> b ∉ fp:=λb u e z=>by
  have q:=(hf b z).1
  rw [q] at e
  cases e
 refine I.step (g' := s.gens) (d' := s.drawn) (ch:=fp) (λb hb=>?_) (λb o _ _ hc e _=>k b o hc e) (λb o _ _ hc e _=>⟨o.slots,k b o hc e⟩) (λ_ _ _ _ n=>n)
  (λb o hc e=>⟨o,k b o hc e⟩) (λ_ _ e=>e) (λ_ _ _ e=>e) (λb ps e=>⟨#[],by rw [e]; simp⟩) (λm hm=>?_) (λb u e=>?_) I.bare
 ·obtain ⟨_,f1,_,f3,f4,f5⟩:=hf b hb
  exact ⟨f3,f1,f4,f5⟩
 ·obtain ⟨o,es,ep,ho,r⟩:=hm
  exact ⟨o,es,ep,k _ o (λz=>(hf _ z).2.1 rfl) ho,r⟩
 ·refine (I.hok b u e).stay (λc v hc q=>k c v ?_ q) (λ_ q=>q) λ_ _ q=>q
  rcases hc with z | z
  ·rw [z]; exact nit b u e
  ·exact nit c _ z
theorem Inv.adopt {T : Addr} {ob : HO} (I : Inv X pins σ H s) (hn : H T = none) (hT : X.s₀.heap.objs.size <= T) (hL : T ≠ X.env.locals) (hc : ∀ x c,X.env.cells.lookup x = some c -> c ≠ T)
  (hp : ∀ p ∈ X.pn++pins,p.1 ≠ T) (new : ObjOk X.prog X.w (upd H T ob) s.heap T ob) : Inv X pins σ (upd H T ob) s:=by
 have hne : ∀ b u,H b = some u -> b ≠ T:=λb u e=>zan e hn
 refine I.step (h' := s.heap) (g' := s.gens) (d' := s.drawn) (t' := s.toks) (ch:=[T]) (λb hb=>?_) (λb o _ _ _ e _=>e) (λb o _ _ _ e _=>⟨o.slots,e⟩) (λb o hb e n=>?_) (λb o _ e=>⟨o,e⟩)
  (λb xs e=>by rw [yaw (hne b _ e)]; exact e) (λb o u e=>by rw [yaw (hne b _ e)]; exact e) (λb ps e=>⟨#[],by rw [yaw (hne b _ e),e]; simp⟩) (λm hm=>hm) (λb u e=>?_) I.bare
 ·have e : b = T:=by simpa using hb
  subst e
  exact ⟨.inr hT,hL,hc,hp⟩
 ·rw [yaw (λz=>hb (by simp [z]))]; exact n
 ·by_cases hb : b = T
  ·subst hb; rw [zaq] at e; cases e; exact new
  ·rw [yaw hb] at e
   exact (I.hok b u e).stay (λc v _ q=>q) (λc q=>by rw [yaw (hne c _ q)]; exact q) λc xs q=>by rw [yaw (hne c _ q)]; exact q
end
section
variable {X : Cx}
end
def Its (x : Str) : It:=⟨λi _=>i < x.cps.size,λi H v H' => H' = H /\ ∃ c,x.cps[i]? = some c /\ v = .str ⟨#[c]⟩,λi _=>x.cps.size <= i⟩
theorem zhr {P : Program} {w : World} {A : Around} (hh : A.handled = none) (it : Addr) (x : Str) (t : Tok) :
  Walks P w A it [it] [it] x.cps.size (SignAt x) (λi h=>h.IsStrIter it (strIterType x) x t i):=by
 cases ha : x.cps.all (· < 128) with
 | false =>
  have e : strIterType x = "str_iterator" := by simp [strIterType,ha]
  rw [e]
  exact Walks.strWide hh it x t
 | true =>
  have e : strIterType x = "str_ascii_iterator" := by simp [strIterType,ha]
  rw [e]
  exact Walks.strAscii hh it x t
theorem zir {P : Program} {w : World} {K : PySem.W.Frag} {y : Str} {py : Pos} (it : Addr) (x : Str) (t : Tok) : Turn P w K (.Name y py) (Its x) [it] it (λi h=>h.IsStrIter it (strIterType x) x t i) where
 mem:=by simp
 obj:=λi h st b hb=>by
  have e : b = it:=by simpa using hb
  subst e
  obtain ⟨o,e,c,d⟩:=st
  exact ⟨o,e,λv z=>by rw [d] at z; cases z⟩
 keep:=λi h h' st k=>by
  obtain ⟨o,e,r⟩:=st
  exact ⟨o,k it (by simp) o e,r⟩
 item:=by
  intro X hP hw hK hc i pins s σ H E I hf st hg
  subst hP hw hK
  refine (zhr (I.ok.hd hc) it x t).item i s _ _ hg st λv h1 tk hv st1 kk=>?_
  obtain ⟨c,u,hcp,rfl⟩:=hv
  have I1 : Inv X pins σ H { s with heap:=h1,toks:=tk }:=I.turnedL (fp:=[it]) kk hf
  exact ⟨_,rfl,wpAny_pure ⟨.str ⟨#[c]⟩,H,I1,⟨u,rfl⟩,⟨rfl,c,hcp,rfl⟩,st1,λb hb=>(hf b hb).1⟩⟩
 done:=by
  intro X hP hw hK hc i pins s σ H E I hf st hg
  subst hP hw hK
  have hx : x.cps[i]? = none:=Array.getElem?_eq_none hg
  cases ha : x.cps.all (· < 128) with
  | false =>
   have e : strIterType x = "str_iterator" := by simp [strIterType,ha]
   rw [e] at st
   exact wpAny_pyNext_wide_end (I.ok.hd hc) st hx λh' eb=>⟨rfl,I.turnedL (fp:=[it]) (t' := s.toks) (λb o hb q=>eb b o (λz=>hb (by simp [z])) q) hf⟩
  | true =>
   have e : strIterType x = "str_ascii_iterator" := by simp [strIterType,ha]
   rw [e] at st
   exact wpAny_pyNext_ascii_end (I.ok.hd hc) st hx λh' eb=>⟨rfl,I.turnedL (fp:=[it]) (t' := s.toks) (λb o hb q=>eb b o (λz=>hb (by simp [z])) q) hf⟩
 self:=λA i s Q E st h=>by
  cases ha : x.cps.all (· < 128) with
  | false =>
   have e : strIterType x = "str_iterator" := by simp [strIterType,ha]
   rw [e] at st
   exact wpAny_pyIter_striter_wide st h
  | true =>
   have e : strIterType x = "str_ascii_iterator" := by simp [strIterType,ha]
   rw [e] at st
   exact wpAny_pyIter_striter_ascii st h
section
variable {X : Cx}
def iStr (tl : TE) : TI:=λσ H R=>tl σ H λx H1=>∃ t,x = .str t /\ R (Its t) H1
theorem yg5 {l : Expr} {tl : TE} {y : Str} {py : Pos} (hl : PE X l tl) : PI X (.Name y py) l (iStr tl):=by
 intro pins s σ H R I h
 refine thn (hl pins s σ H _ I h) λv s1 Zz=>?_;obtain ⟨x,H1,I1,r1,q1⟩:=Zz
 obtain ⟨t,e,q⟩:=q1
 subst e
 obtain ⟨tk,rfl⟩:=r1
 refine wpAny_pyIter_strU ?_
 refine ⟨s1.heap.objs.size,[s1.heap.objs.size],_,_,H1,rfl,I1.kept (t' := s1.toks) λb o e=>Heap.get?_push_of_some _ e,zir _ t tk,⟨_,Heap.get?_push_size _ rfl,rfl,rfl⟩,λb hb=>?_,q⟩
 have e : b = s1.heap.objs.size:=by simpa using hb
 subst e
 exact I1.fpOk (Nat.le_refl _) (I1.hok.fresh (Nat.le_refl _))
end
def yaW (env : Env) : List (Str × NameKind) -> List (Str × Addr) -> List (Str × Addr)
 | [],acc=>acc
 | (n,k) :: r,acc=>yaW env r (if k = .free then (n,(env.cells.lookup n).getD 0) :: acc else acc)
theorem zgS {env : Env} {scope : Scope} (h : ∀ y ∈ scope.names,y.2 = .free -> (env.cells.lookup y.1).isSome = true) : closureFor scope env = pure (yaW env scope.names []):=by
 have all : ∀ (l : List (Str × NameKind)) (acc : List (Str × Addr)),(∀ y ∈ l,y.2 = .free -> (env.cells.lookup y.1).isSome = true) ->
   (forIn l acc λ(x : Str × NameKind) (cs : List (Str × Addr))=>if (x.2 == NameKind.free) = true then (do let a <- cellOf env x.1; pure (ForInStep.yield ((x.1,a) :: cs))) else (pure (ForInStep.yield cs) : Sem _)) = pure (yaW env l acc):=by
  intro l
  induction l with
  | nil=>intro acc _; rfl
  | cons y r ih =>
   intro acc hl
   obtain ⟨n,k⟩:=y
   rw [List.forIn_cons]
   have hr:=λz hz=>hl z (List.mem_cons_of_mem _ hz)
   by_cases hk : k = .free
   ·subst hk
    obtain ⟨c,hc⟩:=Option.isSome_iff_exists.mp (hl (n,.free) List.mem_cons_self rfl)
    have e1 : cellOf env n = pure c:=by
     simp only [cellOf]
     have hc' : env.cells.lookup n = some c:=hc
     rw [hc']
    simp only [beq_self_eq_true,if_true,e1,pure_bind,yaW]
    have hc' : env.cells.lookup n = some c:=hc
    rw [hc']
    exact ih _ hr
   ·have hb : (k == NameKind.free) = false:=by simpa using hk
    simp only [hb,Bool.false_eq_true,if_false,pure_bind,yaW,hk]
    exact ih _ hr
 unfold closureFor
 have q:=all scope.names [] h
 first
  | exact q
  | (simp only [bind_pure]; exact q)
  | (rw [<- q]; simp)
theorem zc1 {env : Env} : ∀ {l : List (Str × NameKind)} {acc : List (Str × Addr)},(∀ y ∈ l,y.2 = .free -> (env.cells.lookup y.1).isSome = true) -> (∀ y c,acc.lookup y = some c -> env.cells.lookup y = some c) ->
  ∀ y c,(yaW env l acc).lookup y = some c -> env.cells.lookup y = some c
 | [],_,_,h,y,c,e=>h y c e
 | (n,k) :: r,acc,hl,h,y,c,e=>by
  refine zc1 (l:=r) (λz hz=>hl z (List.mem_cons_of_mem _ hz)) ?_ y c e
  intro y c e
  by_cases hk : k = .free
  ·rw [if_pos hk] at e
   rw [List.lookup_cons] at e
   cases hy : y == n with
   | true =>
    rw [hy] at e
    have e' : y = n:=by simpa using hy
    obtain ⟨c',hc'⟩:=Option.isSome_iff_exists.mp (hl (n,k) List.mem_cons_self hk)
    have hc'' : env.cells.lookup n = some c' := hc'
    rw [hc''] at e
    rw [e',hc'']
    exact e
   | false =>
    rw [hy] at e
    exact h y c e
  ·rw [if_neg hk] at e
   exact h y c e
theorem zc2 {env : Env} : ∀ {l : List (Str × NameKind)} {acc : List (Str × Addr)} {y : Str},(y,NameKind.free) ∈ l \/ (acc.lookup y).isSome = true -> ((yaW env l acc).lookup y).isSome = true
 | [],_,_,h=>by
  rcases h with h | h
  ·cases h
  ·exact h
 | (n,k) :: r,acc,y,h=>by
  refine zc2 (l:=r) ?_
  rcases h with h | h
  ·rcases List.mem_cons.mp h with e | e
   ·right
    cases e
    rw [if_pos rfl,List.lookup_cons]
    simp
   ·exact .inl e
  ·right
   by_cases hk : k = .free
   ·rw [if_pos hk,List.lookup_cons]
    cases hy : y == n with
    | true=>rfl
    | false=>exact h
   ·rw [if_neg hk]; exact h
theorem zaH {names : List (Str × NameKind)} {x : Str} {k : NameKind} (h : names.lookup x = some k) : (x,k) ∈ names:=PySem.mem_of_lookup h
theorem zaS {env : Env} {x : Str} {k : NameKind} : ∀ {names : List (Str × NameKind)},(names.map λ(n,k)=>if (k == NameKind.free && env.scope.kind == .function && env.kindOf n == some .cell) then (n,NameKind.cell) else (n,k)).lookup x = some k ->
  names.lookup x = some k \/ (k = .cell /\ names.lookup x = some .free)
 | [],h=>by simp at h
 | (n,kk) :: r,h=>by
  have ih:=@zaS env x k r
  by_cases hc : (kk == NameKind.free && env.scope.kind == .function && env.kindOf n == some .cell) = true
  ·have hf : kk = .free:=by
    have q:=(Bool.and_eq_true _ _).mp ((Bool.and_eq_true _ _).mp hc).1
    simpa using q.1
   subst hf
   have h' : List.lookup x ((n,NameKind.cell) :: (r.map λ(n,k)=>if (k == NameKind.free && env.scope.kind == .function && env.kindOf n == some .cell) then (n,NameKind.cell) else (n,k))) = some k:=by
    have e : (λ(p : Str × NameKind)=>match p with | (n,k)=>if (k == NameKind.free && env.scope.kind == .function && env.kindOf n == some .cell) = true then (n,NameKind.cell) else (n,k)) (n,NameKind.free) = (n,NameKind.cell):=by
     show (if _ then _ else _) = _
     rw [if_pos hc]
    rw [List.map_cons] at h
    rw [<- e]
    exact h
   rw [List.lookup_cons] at h' ⊢
   cases hx : x == n with
   | true =>
    rw [hx] at h'
    right
    exact ⟨(Option.some.inj h').symm,rfl⟩
   | false =>
    rw [hx] at h'
    exact ih h'
  ·have h' : List.lookup x ((n,kk) :: (r.map λ(n,k)=>if (k == NameKind.free && env.scope.kind == .function && env.kindOf n == some .cell) then (n,NameKind.cell) else (n,k))) = some k:=by
    have e : (λ(p : Str × NameKind)=>match p with | (n,k)=>if (k == NameKind.free && env.scope.kind == .function && env.kindOf n == some .cell) = true then (n,NameKind.cell) else (n,k)) (n,kk) = (n,kk):=by
     show (if _ then _ else _) = _
     rw [if_neg hc]
    rw [List.map_cons] at h
    rw [<- e]
    exact h
   rw [List.lookup_cons] at h' ⊢
   cases hx : x == n with
   | true =>
    rw [hx] at h'
    exact .inl h'
   | false =>
    rw [hx] at h'
    exact ih h'
structure CompOk (X : Cx) (ns : List Str) (jf : List (Nat × Str)) (scope : Scope) : Prop where
 hN : (ns++jf.map (·.2)).Nodup
 hx : ∀ x ∈ ns,scope.names.lookup x = some .local
 hjf : ∀ p ∈ jf,X.N[p.1]? = some p.2
 hjl : ∀ p ∈ jf,scope.names.lookup p.2 = some .free
 hkind : scope.kind = .function
 hcell : ∀ y ∈ scope.names,y.2 ≠ .cell
 hfr : ∀ y ∈ scope.names,y.2 = .free -> X.env.kindOf y.1 = some .cell \/ X.env.kindOf y.1 = some .free
 hnames : ∀ y ∈ scope.names,y.2 = .local -> scope.names.lookup y.1 = some .local
def ya4 (X : Cx) (pins : List (Addr × Obj)) (ns : List Str) (jf : List (Nat × Str)) (scope : Scope) (cl : List (Str × Addr)) (s : Shared) (H : Hp) (fp : List Addr) : Cx where
 prog:=X.prog
 w:=X.w
 K:=X.K
 mg:=X.mg
 base:=X.base
 A:=X.A
 N:=ns++jf.map (·.2)
 s₀:=s
 H₀:=H
 env:=compEnvC scope cl s.heap.objs.size X.env
 outer:=X.stack
 stack:=X.stack
 ex:=fp
 fn:=λ_=>false
 calm:=X.calm
 pn:=X.pn++pins
 xe:=λ_ _=>False
def ybG (vs : List (Option V)) (js : List (Nat × Str)) (σ : St) : St:=vs++js.map λj=>(σ[j.1]?).join
def PTs (X : Cx) (ifs : List Expr) (t : TT) : Prop :=
 ∀ (pins : List (Addr × Obj)) (s : Shared) (σ : St) (H : Hp) (Q : Bool -> Hp -> Prop),Inv X pins σ H s -> t σ H Q ->
  wpAny (model X.prog X.w) X.A (forIn ifs true λc r=>if r = true then do let ok <- isTrue c X.env (eval c X.env); pure (ForInStep.yield ok) else pure (ForInStep.yield r)) (TP X pins σ Q) X.xe s
def tYes : TT:=λ_ H Q=>Q true H
theorem zjv {X : Cx} : PTs X [] tYes:=λpins s σ H Q I h=>wpAny_tests_nil ⟨H,I,h⟩
def ygd (k : Nat) (g : TG) (jf : List (Nat × Str)) (tc : TT) (te : TE) (σ : St) (Q : VK) (J : It) (H1 : Hp) : Prop:=∀ D,H1 D = none -> ∃ W : Nat -> Nat -> List V -> Hp -> Prop,(∃ m,W 0 m [] (upd H1 D (.lst []))) /\
 ∀ i m ys H2,W i m ys H2 -> H2 D = some (.lst ys) /\ ((J.stop i H2 /\ Q (.ref D) H2) \/ (J.go i H2 /\ ys.length < sizeLine /\ ∀ x H3,J.yld i H2 x H3 -> ∃ us : List V,us.length = k /\ g x (ybG (List.replicate k none) jf σ) H3 (λσ' H' => σ' = ybG (us.map some) jf σ /\ H' = H3) /\ tc (ybG (us.map some) jf σ) H3 λb H5 =>
  if b = true then te (ybG (us.map some) jf σ) H5 λv H6=>H6 D = some (.lst ys) /\ ∃ m',m' < m /\ W (i + 1) m' (ys++[v]) (upd H6 D (.lst (ys++[v]))) else ∃ m',m' < m /\ W (i + 1) m' ys H5))
def ye6 (k : Nat) (g : TG) (jf : List (Nat × Str)) (wi : TI) (tc : TT) (te : TE) : TE:=λσ H Q=>wi σ H (ygd k g jf tc te σ Q)
section
variable {X : Cx} {pins : List (Addr × Obj)} {σ : St} {H : Hp} {s : Shared} {ns : List Str} {jf : List (Nat × Str)} {scope : Scope} {fp : List Addr}
theorem CompOk.pg {cl : List (Str × Addr)} {x : Str} {p : Pos} (C : CompOk X ns jf scope) (i : Nat) (h : (ns++jf.map (·.2))[i]? = some x) (m : x ∈ ns) : PG (ya4 X pins ns jf scope cl s H fp) (.Name x p) (yex i) :=
 zdL C.hN h (.inl (lookup_relabel_local (C.hx x m))) (.inr (lookup_relabel_local (C.hx x m)))
theorem Inv.block {h1 : Heap} {tk : Nat} (I : Inv X pins σ H s) (hf : ∀ b ∈ fp,FpOk X pins H b) (hlt : ∀ b ∈ fp,b < s.heap.objs.size) (C : CompOk X ns jf scope)
  (hn : h1.Ns s.heap.objs.size (λ_=>none)) (hk : ∀ b o,s.heap.get? b = some o -> h1.get? b = some o) :
  Inv (ya4 X pins ns jf scope (yaW X.env scope.names []) s H fp) [] (ybG (List.replicate ns.length none) jf σ) H { s with heap:=h1,toks:=tk }:=by
 obtain ⟨_,_,hjf,hjl,hkind,hcell,hfr,_⟩:=C
 have hsome : ∀ y ∈ scope.names,y.2 = .free -> (X.env.cells.lookup y.1).isSome = true:=λy hy hyf=>Option.isSome_iff_exists.mpr (I.ok.has y.1 (hfr y hy hyf))
 have sub : ∀ y c,(yaW X.env scope.names []).lookup y = some c -> X.env.cells.lookup y = some c:=zc1 hsome (λy c e=>by simp at e)
 have hsz:=I.sz
 have inE : ∀ b,b ∈ (ya4 X pins ns jf scope (yaW X.env scope.names []) s H fp).ex -> b ∈ fp:=λb z=>z
 have stk : ∀ b ∈ frs X.stack,b < s.heap.objs.size:=λb hb=>by
  obtain ⟨_,o,ho,_⟩:=I.stack.mem hb
  exact Heap.lt_size ho
 refine ⟨⟨I.ok.mod,hkind,I.ok.glob,I.ok.blt,Nat.le_refl _,λy z c e1 e2=>I.ok.inj y z c (sub y c e1) (sub z c e2),λy hy=>?_,λy c hfn _=>(by cases hfn),I.ok.hd,I.ok.frames,.inl rfl,λb hb=>?_,λb o e=>I.bs b o e,Nat.le_trans I.ok.bsz hsz,λb o e z=>?_,λb hb z=>?_,I.stack,I.stkFree⟩,
  rfl,I.bare,Un.kept hk,⟨_,hn,λi y v e1 e2 e3=>?_⟩,λy c e=>?_,I.hok.fresh (Nat.le_refl _),λy c e=>I.freeC y c (sub y c e),λp hp=>?_,I.hok.kept hk,?_⟩
 ·have hy' : (relabel scope X.env).names.lookup y = some .cell \/ (relabel scope X.env).names.lookup y = some .free:=hy
  have mem : (y,NameKind.free) ∈ scope.names:=by
   rcases hy' with q | q
   ·rcases zaS (env:=X.env) q with z | z
    ·exact absurd rfl (hcell _ (zaH z))
    ·exact zaH z.2
   ·rcases zaS (env:=X.env) q with z | z
    ·exact zaH z
    ·exact zaH z.2
  exact Option.isSome_iff_exists.mp (zc2 (.inl mem))
 ·exact ⟨Nat.ne_of_lt (hlt b hb),λy c e=>(hf b hb).2.2.2.2.1 y c (sub y c e)⟩
 ·rcases (hf b z).2.2.2.1 with q | q
  ·exact I.ok.noex b o e q
  ·exact absurd (Nat.lt_of_lt_of_le (Heap.lt_size e) (Nat.le_trans I.ok.bsz q)) (Nat.lt_irrefl _)
 ·rcases List.mem_cons.mp (I.stkSub b z) with q | q
  ·exact (hf b hb).2.1 q
  ·exact (hf b hb).2.2.1 q
 ·have e1' : (ns++jf.map (·.2))[i]? = some y:=e1
  unfold ybG at e2
  by_cases hi : i < ns.length
  ·rw [List.getElem?_append_left (by rw [List.length_replicate]; exact hi),List.getElem?_replicate,if_pos hi] at e2; cases e2
  ·have hi:=Nat.le_of_not_lt hi
   rw [List.getElem?_append_right hi,List.getElem?_map] at e1'
   rw [List.getElem?_append_right (by rw [List.length_replicate]; exact hi),List.length_replicate,List.getElem?_map] at e2
   cases q : jf[i - ns.length]? with
   | none=>rw [q] at e2; cases e2
   | some p =>
    rw [q] at e1' e2
    have ey : p.2 = y:=Option.some.inj e1'
    have ev : (σ[p.1]?).join = some v:=Option.some.inj e2
    have hp : p ∈ jf:=List.mem_of_getElem? q
    have eσ : σ[p.1]? = some (some v):=by
     cases z : σ[p.1]? with
     | none=>rw [z] at ev; cases ev
     | some r=>rw [z] at ev; rw [show r = some v from ev]
    have hfree : scope.names.lookup y = some .free:=by rw [<- ey]; exact hjl p hp
    have mem:=zaH hfree
    have kX:=hfr _ mem rfl
    obtain ⟨m,hnX,hl⟩:=I.loc
    obtain ⟨u,ru,lk⟩:=hl p.1 y v (by rw [<- ey]; exact hjf p hp) eσ (by
     rcases kX with z | z
     ·exact .inr (.inl z)
     ·exact .inr (.inr z))
    refine ⟨u,ru,.inr ⟨?_,?_⟩⟩
    ·have e3' : Vis (relabel scope X.env) y:=e3
     rcases e3' with z | z | z
     ·exfalso
      rcases zaS (env:=X.env) z with q | q
      ·rw [hfree] at q; cases q
      ·cases q.1
     ·exact .inl z
     ·exact .inr z
    ·rcases lk with ⟨z,_⟩ | ⟨_,c,hc,hcell'⟩
     ·exfalso
      rcases kX with q | q
      ·rw [show X.env.kindOf y = some .cell from q] at z; cases z
      ·rw [show X.env.kindOf y = some .free from q] at z; cases z
     ·obtain ⟨c',hc'⟩:=Option.isSome_iff_exists.mp (zc2 (env:=X.env) (acc:=[]) (.inl mem))
      have e:=sub y c' hc'
      rw [hc] at e
      cases e
      obtain ⟨o,ho,hd⟩:=hcell'
      exact ⟨c,hc',o,hk c o ho,hd⟩
 ·obtain ⟨v,o,ho,hd⟩:=I.cell y c (sub y c e)
  exact ⟨v,o,hk c o ho,hd⟩
 ·have hp' : p ∈ X.pn++pins:=by simpa [ya4] using hp
  obtain ⟨e,n,ne,nf,d⟩:=I.pin p hp'
  refine ⟨hk _ _ e,n,Nat.ne_of_lt (Heap.lt_size e),λz=>?_,d⟩
  rcases List.mem_cons.mp (I.stkSub p.1 z) with q | q
  ·exact ne q
  ·exact nf q
 ·unfold ybG
  show _ = (ns++jf.map (·.2)).length
  rw [List.length_append,List.length_append,List.length_replicate,List.length_map,List.length_map]
end
theorem HOk.sameBut {P : Program} {w : World} {H : Hp} {h h' : Heap} {C : Addr} (ok : HOk P w H h) (hn : H C = none) (hs : Heap.SameBut C h h') : HOk P w H h' := λb u e=>by
 refine (ok b u e).stay (λc v hc q=>(hs.2 c ?_).trans q) (λ_ q=>q) λ_ _ q=>q
 rcases hc with z | z
 ·rw [z]; exact zan e hn
 ·exact zan z hn
theorem Un.sameBut {fs ex : List Addr} {H H' : Hp} {h h1 h2 : Heap} {C : Addr} (u : Un fs ex H H' h h1) (hC : h.get? C = none) (hs : Heap.SameBut C h1 h2) : Un fs ex H H' h h2:=by
 have ne : ∀ b o,h.get? b = some o -> b ≠ C:=λb o e z=>by rw [z,hC] at e; cases e
 refine ⟨λb o e n hb hx=>(hs.2 b (ne b o e)).trans (u.keep b o e n hb hx),λb o e n hb hx=>?_,u.free,λb o e hx=>?_,u.tups,u.frzs,u.tbls⟩
 ·obtain ⟨sl,q⟩:=u.slot b o e n hb hx
  exact ⟨sl,(hs.2 b (ne b o e)).trans q⟩
 ·obtain ⟨o',q⟩:=u.there b o e hx
  exact ⟨o',(hs.2 b (ne b o e)).trans q⟩
theorem zeZ {prog : Program} {w : World} {A : Around} {R : Result -> Shared -> Prop} {s : Shared} {elt target iter : Expr} {ifs : List Expr} {scope : Scope} {pos : Pos} {it acc : Value} {env : Env} (I : Nat -> Shared -> Prop)
  (turn : ∀ n s,I n s -> wpAny (model prog w) A (pyNext it) (λr s₁=>match r with
   | none=>R (.ok .next) s₁
   | some v=>wpAny (model prog w) A (letOwnedTupleGo target it v) (λ_ s₂=>wpAny (model prog w) A (assign target env v) (λ_ s₃ =>
     wpAny (model prog w) A (forIn ifs true λc r=>if r = true then do let ok <- isTrue c env (eval c env); pure (ForInStep.yield ok) else pure (ForInStep.yield r)) (λok s₄ =>
      if ok = true then wpAny (model prog w) A (eval elt env) (λx s₅=>wpAny (model prog w) A (call (.builtin "list.append") [acc,x]) (λ_ s₆=>∃ m,m < n /\ I m s₆) (λ_ _=>False) s₅) (λ_ _=>False) s₄
      else ∃ m,m < n /\ I m s₄) (λ_ _=>False) s₃) (λ_ _=>False) s₂) (λ_ _=>False) s₁) (λ_ _=>False) s)
  (n : Nat) (h : I n s) : codeAny (model prog w) A (.compLoop (.ListComp elt [⟨target,iter,ifs,0⟩] scope pos) 0 it acc env) R s:=by
 refine codeAny_loop rfl I (λn s hI=>?_) n h
 show wpAny _ A ((compTurn (.ListComp elt [⟨target,iter,ifs,0⟩] scope pos) 0 it acc env).onRaise (λx=>do noteFrame x env; theTreesLotGoes x)) _ _ s
 refine wpAny_noted ?_
 rw [compTurn_list]
 refine wpAny_bind (wpAny_standAt (wpAny_bind (wpAny_mono (turn n s hI) (λr s₁ h₁=>?_) λ_ _ z=>z.elim)))
 cases r with
 | none=>exact wpAny_pure h₁
 | some v =>
  refine wpAny_bind (wpAny_mono h₁ (λ_ s₂ h₂=>?_) λ_ _ z=>z.elim)
  refine wpAny_bind (wpAny_mono h₂ (λ_ s₃ h₃=>wpAny_bind (wpAny_mono h₃ (λok s₄ h₄=>?_) λ_ _ z=>z.elim)) λ_ _ z=>z.elim)
  cases ok with
  | false=>exact wpAny_pure ⟨rfl,h₄⟩
  | true =>
   exact wpAny_bind (wpAny_bind (wpAny_mono h₄ (λx s₅ h₅=>wpAny_bind (wpAny_mono h₅ (λ_ s₆ h₆=>wpAny_pure (wpAny_pure ⟨rfl,h₆⟩)) λ_ _ z=>z.elim)) λ_ _ z=>z.elim))
section
variable {X : Cx} {ns : List Str} {tg : Expr} {g : TG} {jf : List (Nat × Str)} {scope : Scope} {iter elt : Expr} {ifs : List Expr} {pos : Pos} {wi : TI} {tc : TT} {te : TE}
theorem ze0 (hcalm : X.calm = true) (hg : ∀ pins cl s H fp,PG (ya4 X pins ns jf scope cl s H fp) tg g) (hi : PI X tg iter wi) (hc : ∀ pins cl s H fp,PTs (ya4 X pins ns jf scope cl s H fp) ifs tc) (he : ∀ pins cl s H fp,PE (ya4 X pins ns jf scope cl s H fp) elt te) (C : CompOk X ns jf scope) {use : Option (Value -> Sem Unit)} {Qf : Value -> Shared -> Prop} {cpos : Pos}
  {pins : List (Addr × Obj)} {σ : St} {H : Hp} {s : Shared} {Q : VK} (I : Inv X pins σ H s) (h : ye6 ns.length g jf wi tc te σ H Q)
  (fin : ∀ D C s6 H6 m6,Inv X pins σ H6 s6 -> Q (.ref D) H6 -> FpOk X pins H6 C -> s6.heap.Ns C m6 -> compPost (model X.prog X.w) X.A X.xe use Qf (.ref D) C (.ok .next) s6) (hs : ∀ x,foldedSetIterable iter X.env x = pure x) :
  wpAny (model X.prog X.w) X.A (comprehension (.ListComp elt [⟨tg,iter,ifs,0⟩] scope pos) scope X.env cpos (newList []) false (eval iter X.env) use) Qf X.xe s:=by
 obtain ⟨_,_,_,_,hkind,hcell,hfr,hnames⟩:=id C
 have hsome : ∀ y ∈ scope.names,y.2 = .free -> (X.env.cells.lookup y.1).isSome = true:=λy hy hyf=>Option.isSome_iff_exists.mpr (I.ok.has y.1 (hfr y hy hyf))
 refine wpAny_comprehension_free (use:=use) rfl hs (zgS hsome) hkind hnames (thn (hi pins s σ H _ I h) λxv s1 h1=>thn h1 λitv s2 h2=>?_)
 obtain ⟨it,fp,tn,J,H2,e,I2,T,st2,f2,h⟩:=h2
 subst e
 refine wpAny_newObj_type (wpAny_newFunctionEnv hcell (by intro y hy; simp at hy) (λh₁ hns₁ hsb₁=>?_) hkind)
 have hD0 : H2 s2.heap.objs.size = none:=I2.hok.fresh (Nat.le_refl _)
 obtain ⟨W,⟨m0,w0⟩,step⟩:=h s2.heap.objs.size hD0
 dsimp only at hns₁ hsb₁ ⊢
 have I3 : Inv X pins σ (upd H2 s2.heap.objs.size (.lst [])) { s2 with heap:=s2.heap.push { cls:=.type "list",dict:=none,data:=.seq ([] : List Value).toArray } } :=
  I2.laid (t' := s2.toks) (λb u q=>Heap.get?_push_of_some _ q) (Nat.le_refl _) ⟨Nat.zero_le _,[],0,.nil,Heap.get?_push_size _ rfl⟩
 generalize hH3 : s2.heap.push { cls:=.type "list",dict:=none,data:=.seq ([] : List Value).toArray } = hp3 at hns₁ hsb₁ I3 ⊢
 have hsz3 : hp3.objs.size = s2.heap.objs.size + 1:=by rw [<- hH3,Heap.size_push]
 have k23 : ∀ b o,s2.heap.get? b = some o -> hp3.get? b = some o:=λb o q=>by rw [<- hH3]; exact Heap.get?_push_of_some _ q
 have flt : ∀ b ∈ fp,b < s2.heap.objs.size:=λb hb=>by
  obtain ⟨o,q,_⟩:=T.obj 0 _ st2 b hb
  exact Heap.lt_size q
 have f3 : ∀ b ∈ fp,FpOk X pins (upd H2 s2.heap.objs.size (.lst [])) b:=λb hb=>by
  obtain ⟨g0,g⟩:=f2 b hb
  exact ⟨by rw [yaw (Nat.ne_of_lt (flt b hb))]; exact g0,g⟩
 have kC : ∀ b o,hp3.get? b = some o -> h₁.get? b = some o:=λb o q=>(hsb₁.2 b (Nat.ne_of_lt (Heap.lt_size q))).trans (Heap.get?_push_of_some _ q)
 have B0:=I3.block (ns:=ns) (jf:=jf) (scope:=scope) (fp:=fp) (h1:=h₁) (tk:=s2.toks + ([] : List (Str × Value)).length) f3 (λb hb=>by show b < hp3.objs.size; rw [hsz3]; exact Nat.lt_succ_of_lt (flt b hb)) C (by simpa using hns₁) kC
 have st4 : tn 0 h₁:=T.keep _ _ _ st2 λb _ o q=>kC b o (k23 b o q)
 have w0' := w0
 have stat : ∀ {H' : Hp},(∀ b ∈ fp,H' b = none) -> ∀ b ∈ fp,FpOk (ya4 X pins ns jf scope (yaW X.env scope.names []) { s2 with heap:=hp3 } (upd H2 s2.heap.objs.size (.lst [])) fp) [] H' b:=λhn b hb=>by
  obtain ⟨_,g1,g2,g3,g4,g5⟩:=f2 b hb
  refine ⟨hn b hb,Nat.ne_of_lt (by show b < hp3.objs.size; rw [hsz3]; exact Nat.lt_succ_of_lt (flt b hb)),λz=>?_,.inl hb,λy c q=>g4 y c (zc1 hsome (λy c e=>by simp at e) y c q),λp hp=>g5 p (by simpa [ya4] using hp)⟩
  rcases List.mem_cons.mp (I2.stkSub b z) with q | q
  ·exact g1 q
  ·exact g2 q
 have loop : codeAny (model X.prog X.w) X.A (.compLoop (.ListComp elt [⟨tg,iter,ifs,0⟩] scope pos) 0 (.ref it) (.ref s2.heap.objs.size) (compEnvC scope (yaW X.env scope.names []) hp3.objs.size X.env))
   (compPost (model X.prog X.w) X.A X.xe use Qf (.ref s2.heap.objs.size) hp3.objs.size) { s2 with heap:=h₁,toks:=s2.toks + ([] : List (Str × Value)).length }:=by
  refine zeZ (λn s' => ∃ i ys H',Inv (ya4 X pins ns jf scope (yaW X.env scope.names []) { s2 with heap:=hp3 } (upd H2 s2.heap.objs.size (.lst [])) fp) [] (ybG (List.replicate ns.length none) jf σ) H' s' /\ tn i s'.heap /\ (∀ b ∈ fp,H' b = none) /\ W i n ys H') ?_ m0
   ⟨0,[],_,B0,st4,λb hb=>(f3 b hb).1,w0⟩
  rintro n s5 ⟨i,ys,H5,I5,st5,fr5,w5⟩
  obtain ⟨hD5,alt⟩:=step i n ys H5 w5
  rcases alt with ⟨stop,q5⟩ | ⟨go,hlen,next⟩
  ·refine wpAny_mono (T.done (ya4 X pins ns jf scope (yaW X.env scope.names []) { s2 with heap:=hp3 } (upd H2 s2.heap.objs.size (.lst [])) fp) rfl rfl rfl hcalm i [] s5 _ H5 (λ_ _=>False) I5 (stat fr5) st5 stop) (λr s6 Zz=>?_) λ_ _ z=>z;obtain ⟨hr,I6⟩:=Zz
   subst hr
   obtain ⟨m6,hn6,_⟩:=id I6.loc
   refine fin _ _ s6 H5 m6 ?_ q5 (I3.fpOk (Nat.le_refl _) I6.free) hn6
   refine I3.call' (ch:=fp) I6.os I6.base I6.hok I6.bare (λb hb=>?_)
   obtain ⟨_,g1,g2,g3,g4,g5⟩:=f2 b hb
   exact ⟨g3,g1,g4,g5⟩
  ·refine wpAny_mono (T.item (ya4 X pins ns jf scope (yaW X.env scope.names []) { s2 with heap:=hp3 } (upd H2 s2.heap.objs.size (.lst [])) fp) rfl rfl rfl hcalm i [] s5 _ H5 (λ_ _=>False) I5 (stat fr5) st5 go) (λr s6 Zz=>?_) λ_ _ z=>z;obtain ⟨u,hr,h6⟩:=Zz
   subst hr
   refine wpAny_mono h6 (λ_ s7 Zz=>?_) λ_ _ z=>z;obtain ⟨x,H7,I7,r7,y7,st7,fr7⟩:=Zz
   have I7' := I7.pinned (stat fr7) (T.obj _ _ st7)
   obtain ⟨us,hu,gq,q8⟩:=next x H7 y7
   refine wpAny_mono (hg pins _ _ _ fp ([]++ycA fp s7.heap) s7 _ H7 x _ _ I7' r7 gq) (λ_ s8 Zz=>?_) λ_ _ z=>z;obtain ⟨σ8,H8,I8,e8,e8'⟩:=Zz
   subst e8 e8'
   have I8' : Inv (ya4 X pins ns jf scope (yaW X.env scope.names []) { s2 with heap:=hp3 } (upd H2 s2.heap.objs.size (.lst [])) fp) ([]++ycA fp s7.heap) (ybG (us.map some) jf σ) H8 s8:=I8
   have again : ∀ {s9 : Shared} {H9 : Hp} {zs : List V} {m' : Nat},Inv (ya4 X pins ns jf scope (yaW X.env scope.names []) { s2 with heap:=hp3 } (upd H2 s2.heap.objs.size (.lst [])) fp) ([]++ycA fp s7.heap) (ybG (us.map some) jf σ) H9 s9 -> m' < n -> W (i + 1) m' zs H9 ->
     ∃ m,m < n /\ ∃ i ys H',Inv (ya4 X pins ns jf scope (yaW X.env scope.names []) { s2 with heap:=hp3 } (upd H2 s2.heap.objs.size (.lst [])) fp) [] (ybG (List.replicate ns.length none) jf σ) H' s9 /\ tn i s9.heap /\ (∀ b ∈ fp,H' b = none) /\ W i m ys H' := λ{s9 H9 zs m'} I9 hm w9=>by
    refine ⟨m',hm,i + 1,zs,H9,I9.unpinned.weak (by simp [ybG,hu]) (λj v e=>?_),T.keep _ _ _ st7 λb hb o e=>(I9.pin (b,o) (List.mem_append_right _ (List.mem_append_right _ (zbl hb e)))).1,λb hb=>?_,w9⟩
    ·unfold ybG at e ⊢
     by_cases hj : j < ns.length
     ·rw [List.getElem?_append_left (by rw [List.length_replicate]; exact hj),List.getElem?_replicate,if_pos hj] at e; cases e
     ·have hj:=Nat.le_of_not_lt hj
      rw [List.getElem?_append_right (by rw [List.length_replicate]; exact hj),List.length_replicate] at e
      rw [List.getElem?_append_right (by rw [List.length_map,hu]; exact hj),List.length_map,hu]
      exact e
    ·obtain ⟨o,e,d⟩:=T.obj _ _ st7 b hb
     exact (I9.pin (b,o) (List.mem_append_right _ (List.mem_append_right _ (zbl hb e)))).2.1
   refine wpAny_mono (hc pins _ _ _ fp ([]++ycA fp s7.heap) s8 _ H8 _ I8' q8) (λok s9 Zz=>?_) λ_ _ z=>z;obtain ⟨H9,I9,q9⟩:=Zz
   cases ok with
   | false =>
    rw [if_neg Bool.false_ne_true] at q9 ⊢
    obtain ⟨m',hm,w9⟩:=q9
    exact again I9 hm w9
   | true =>
    rw [if_pos rfl] at q9 ⊢
    refine wpAny_mono (he pins _ _ _ fp ([]++ycA fp s7.heap) s9 _ H9 _ I9 q9) (λy s10 Zz=>?_) λ_ _ z=>z;obtain ⟨v,H10,I10,r10,hD10,m',hm,w10⟩:=Zz
    refine wpAny_mono (zed (X:=(ya4 X pins ns jf scope (yaW X.env scope.names []) { s2 with heap:=hp3 } (upd H2 s2.heap.objs.size (.lst [])) fp)) ([]++ycA fp s7.heap) s10 (ybG (us.map some) jf σ) H10 (.ref s2.heap.objs.size) [v] (.ref s2.heap.objs.size) [y] (λ_ H' => H' = upd H10 s2.heap.objs.size (.lst (ys++[v]))) I10 rfl (.cons r10 .nil) ⟨_,ys,v,rfl,rfl,hD10,hlen,rfl⟩)
     (λ_ s11 ⟨_,H11,I11,_,e11⟩=>?_) λ_ _ z=>z
    subst e11
    exact again I11 hm w10
 exact codeAny_compStart_list loop (T.self _ 0 _ _ _ st4 loop)
theorem zjw (hcalm : X.calm = true) (hg : ∀ pins cl s H fp,PG (ya4 X pins ns jf scope cl s H fp) tg g) (hi : PI X tg iter wi) (hc : ∀ pins cl s H fp,PTs (ya4 X pins ns jf scope cl s H fp) ifs tc) (he : ∀ pins cl s H fp,PE (ya4 X pins ns jf scope cl s H fp) elt te) (C : CompOk X ns jf scope) (hs : ∀ x,foldedSetIterable iter X.env x = pure x:=by intro _; rfl) :
  PE X (.ListComp elt [⟨tg,iter,ifs,0⟩] scope pos) (ye6 ns.length g jf wi tc te):=by
 intro pins s σ H Q I h
 rw [eval_ListComp]
 refine ze0 hcalm hg hi hc he C (use:=none) (Qf:=EP X pins σ Q) I h (λD C s6 H6 m6 I6 q6 f6 n6=>?_) hs
 refine ⟨m6,n6,λh' hs' => ⟨.ref D,H6,?_,rfl,q6⟩⟩
 exact I6.turnedL (fp:=[C]) (t' := s6.toks) (λb o hb q=>(hs'.2 b (λz=>hb (by simp [z]))).trans q) (λb hb=>by
  have e : b = C:=by simpa using hb
  subst e
  exact f6)
theorem zjx {y : Str} {py spos : Pos} {i : Nat} (hcalm : X.calm = true) (hg : ∀ pins cl s H fp,PG (ya4 X pins ns jf scope cl s H fp) tg g) (hi : PI X tg iter wi) (hc : ∀ pins cl s H fp,PTs (ya4 X pins ns jf scope cl s H fp) ifs tc) (he : ∀ pins cl s H fp,PE (ya4 X pins ns jf scope cl s H fp) elt te) (C : CompOk X ns jf scope) (hNX : X.N.Nodup) (hi' : X.N[i]? = some y) (hy : X.env.scope.names.lookup y = some .local)
  (hsw : swapsWith (.ListComp elt [⟨tg,iter,ifs,0⟩] scope pos) (some (.Name y py)) spos.line X.env = pure true) (hs : ∀ x,foldedSetIterable iter X.env x = pure x:=by intro _; rfl) :
  PS X (.Assign [.Name y py] (.ListComp elt [⟨tg,iter,ifs,0⟩] scope pos) spos) (tAsg (ye6 ns.length g jf wi tc te) (yex i)):=by
 intro pins s σ H D I h
 rw [exec_Assign_Name_used _ _ _ _ hsw]
 refine wpAny_bind (wpAny_standAt (wpAny_bind ?_))
 show wpAny _ X.A (do let _ <- comprehension (.ListComp elt [⟨tg,iter,ifs,0⟩] scope pos) scope X.env _ (newList []) false (eval iter X.env) (some (assign (.Name y py) X.env))) _ _ s
 refine wpAny_bind (wpAny_mono (ze0 (Qf:=λ_ s' => SP X pins D .next s') hcalm hg hi hc he C (use:=some (assign (.Name y py) X.env)) I h (λD' C s6 H6 m6 I6 q6 f6 n6=>?_) hs) (λ_ s' hq=>wpAny_pure (wpAny_pure hq)) λ_ _ e=>e)
 refine wpAny_assign_Name (zd8 I6 hNX hi' (.inl hy) (v:=.ref D') rfl (λs7 I7 Zz=>?_) (.inr hy));obtain ⟨a,hsa,ha⟩:=Zz
 have ne : C ≠ a:=by
  rcases ha with z | z
  ·rw [z]; exact f6.2.1
  ·exact λq=>f6.2.2.2.2.1 y a z q.symm
 refine ⟨m6,n6.sameBut hsa ne,λh' hs' => ⟨_,H6,?_,q6⟩⟩
 exact I7.turnedL (fp:=[C]) (t' := s7.toks) (λb o hb q=>(hs'.2 b (λz=>hb (by simp [z]))).trans q) (λb hb=>by
  have e : b = C:=by simpa using hb
  subst e
  exact f6)
end
section
variable {X : Cx} {a b e : Expr} {ta tb : TE} {p p2 pos : Pos}
theorem zis {c : V} {cv : Value} (rc : ∀ u,RelV c u -> u = cv) :
  CallR X (.builtin "isinstance") (λxs H Q=>∃ x t r,xs = [x,c] /\ TyOf X.K H x t /\ PySem.W.kitOne X.K t cv = some r /\ Q (.bl r) H):=by
 intro pins s σ H xs us Q I r h
 obtain ⟨x,t,k,rfl,ty,hk,q⟩:=h
 obtain ⟨u,w',rfl,rx,ry⟩:=ye4 r
 obtain rfl:=rc _ ry
 exact zhk I rx ty hk λtk=>⟨.bl k,H,I.tok _,rfl,q⟩
theorem yfp (n : String) : ∀ u,RelV (.ty n) u -> u = Value.type n:=λ_ r=>r
theorem yg6 (c : Addr) : ∀ u,RelV (.ref c) u -> u = Value.ref c:=λ_ r=>r
theorem zhs : OpR X (compareOp .LtE) (λx y H Q=>∃ i j,x = .str i /\ y = .str j /\ Q (.bl (!decide (j.cps.toList < i.cps.toList))) H):=by
 intro pins s σ H x y v u Q I rx ry h
 obtain ⟨i,j,rfl,rfl,q⟩:=h
 obtain ⟨t,rfl⟩:=rx
 obtain ⟨t',rfl⟩:=ry
 exact PySem.P.le_str (yaN I q rfl)
theorem ze1 : MtR X "str.count" (λx vs H Q=>∃ z y,x = .str z /\ vs = [.str y] /\ Q (.int ((Builtin.Str.occurrences z y 0 z.length (z.length + 1)).length : Nat)) H):=by
 intro pins s σ H x vs v us Q I rx rv h
 obtain ⟨z,y,rfl,rfl,q⟩:=h
 obtain ⟨t,rfl⟩:=rx
 obtain ⟨u,rfl,t',rfl⟩:=yea rv
 exact call_gives F.slot_str_count (typeIs_str s z t) F.entry_str_count (F.args_str_count_2 _ _) (gives_str_count z y t t') ⟨.int _,H,I.tok _,⟨_,rfl⟩,q⟩
theorem zht (l : List (Array Nat)) : ∀ acc : Array Nat,(l.foldl (· ++ ·) acc).toList = acc.toList++(l.map Array.toList).flatten:=by
 induction l with
 | nil=>intro acc; simp
 | cons x r ih=>intro acc; rw [List.foldl_cons,ih]; simp
theorem zit (hc : X.calm = true) : CallR X (.builtin "all") (λxs H Q=>∃ (a : Addr) (bs : List Bool),xs = [.ref a] /\ SqL X.K H a (bs.map V.bl) /\ Q (.bl (bs.all id)) H):=by
 intro pins s σ H xs us Q I r h
 obtain ⟨l,bs,rfl,hq,q⟩:=h
 obtain ⟨u,rfl,rx⟩:=yea r
 cases rx
 obtain ⟨its,rv,pl,hz⟩:=I.list hq
 have hlt : l < s.heap.objs.size:=by obtain ⟨_,_,e,_⟩:=pl; exact Heap.lt_size e
 have hlen : its.length = bs.length:=by rw [<- rv.length,List.length_map]
 refine call_all_walk (wpAny_pyIter_list pl.isList ?_)
 refine ⟨s.heap.objs.size,[s.heap.objs.size,l],[s.heap.objs.size],its.toArray.size,_,_,λi=>(bs[i]?).getD true,rfl,Walks.list (A:=X.A.in1) (I.ok.hd hc) _ l (Nat.ne_of_lt hlt) its.toArray,
  ⟨⟨_,Heap.get?_push_size _ rfl,rfl,rfl⟩,pl.isList.push _⟩,λi v s' Q' E' hP hQ=>?_,λh' tk hk=>?_⟩
 ·have hP' : its[i]? = some v:=by simpa using hP
  have hi : i < its.length:=(List.getElem?_eq_some_iff.mp hP').1
  have hb : (bs.map V.bl)[i]? = some (V.bl (bs[i]'(by omega))):=by rw [List.getElem?_map,List.getElem?_eq_getElem (by omega)]; rfl
  obtain ⟨u,hu,ru⟩:=rv.get hb
  rw [hP'] at hu
  cases hu
  cases ru
  have e : (bs[i]?).getD true = bs[i]'(by omega):=by rw [List.getElem?_eq_getElem (by omega)]; rfl
  have hQ2 : Q' ((bs[i]?).getD true) s' := hQ
  rw [e] at hQ2
  exact wpAny_truthy_bool hQ2
 ·have e : ((List.range its.toArray.size).all λi=>(bs[i]?).getD true) = bs.all id:=by
   rw [List.size_toArray,hlen,Bool.eq_iff_iff,List.all_eq_true,List.all_eq_true]
   constructor
   ·intro z c hc'
    obtain ⟨i,hi,rfl⟩:=List.getElem_of_mem hc'
    have:=z i (List.mem_range.mpr hi)
    rw [List.getElem?_eq_getElem hi] at this
    exact this
   ·intro z i hi
    have hi' := List.mem_range.mp hi
    rw [List.getElem?_eq_getElem hi']
    exact z _ (List.getElem_mem hi')
  rw [e]
  refine ⟨.bl _,H,I.kept (t' := tk) λb o q=>?_,rfl,q⟩
  exact hk b o (λhm=>by rw [List.mem_singleton.mp hm] at q; exact Nat.lt_irrefl _ (Heap.lt_size q)) (Heap.get?_push_of_some _ q)
end
section
variable {X : Cx}
theorem ziu : OpR X (binaryOp .FloorDiv) (rI (λ_ j=>0 < j /\ j < 2 ^ 200) λi j=>.int (i / j)):=opI λi j _ _ _ _ _ hc q=>by
 obtain ⟨h1,h2⟩:=hc
 refine floordiv_int (by lia) (by rw [Int.fdiv_eq_ediv_of_nonneg i (by lia)]; exact q) (.inl (PyProof.noPylong_of_log2 ?_))
 have h3 : j.natAbs < 2 ^ 200:=by lia
 have h4 : j.natAbs.log2 < 200:=(Nat.log2_lt (by lia)).mpr h3
 lia
theorem ziv : OpR X (binaryOp .Mult) (rI IntMulOk λi j=>.int (i * j)):=opI λ_ _ _ _ _ _ _ hc q=>mul_int q hc
end
theorem yg7 : bootBuiltins "int" = some (.type "int"):=by decide +kernel
theorem zjy : bootBuiltins "bool" = some (.type "bool"):=by decide +kernel
theorem yfE : bootBuiltins "str" = some (.type "str"):=by decide +kernel
open Sem (wp)
def DkH (h h' : Heap) : Prop:=∀ b o,h.get? b = some o -> ∃ o',h'.get? b = some o' /\ o'.dict = o.dict
theorem DkH.refl (h : Heap) : DkH h h:=λ_ o e=>⟨o,e,rfl⟩
def yaT {α : Type} (m : Sem α) : Prop:=∀ (M : Model) (Γ : PySem.Ctx) (Q : α -> Pos -> Shared -> Prop) (E : Value -> Pos -> Shared -> Prop) (p : Pos) (s : Shared) (h0 : Heap),DkH h0 s.heap -> wp M Γ m Q E p s -> wp M Γ m (λa p' s' => Q a p' s' /\ DkH h0 s'.heap) E p s
section
variable {α β : Type}
theorem zae {m : Sem α} {f : α -> Sem β} (h : yaT m) (g : ∀ a,yaT (f a)) : yaT (m >>= f):=λM Γ Q E p s h0 d q=>by
 rw [Sem.wp_bind'] at q ⊢
 exact Sem.wp_mono M Γ m (λa p' s' z=>g a M Γ _ _ p' s' h0 z.2 z.1) (λ_ _ _ x=>x) p s (h M Γ _ _ p s h0 d q)
theorem zai (a : α) : yaT (pure a : Sem α):=λM Γ Q E p s h0 d q=>by
 have q' : Q a p s:=q
 exact (show wp M Γ (Sem.pure a) _ E p s by rw [wp]; exact ⟨q',d⟩)
theorem zaK (w : String) : yaT (Sem.unsupported w : Sem α):=λM Γ Q E p s h0 d q=>by rw [wp] at q; exact q.elim
theorem zjz {a : Addr} {pt : Option Value} {k : Obj -> Sem α} (h : ∀ o,yaT (k o)) : yaT (Sem.load a pt k):=λM Γ Q E p s h0 d q=>by
 rw [wp] at q ⊢
 obtain ⟨o,h1,h2⟩:=q
 exact ⟨o,h1,h o M Γ _ _ p _ h0 d h2⟩
theorem ziw {k : List (Code × Pos) -> Sem α} (h : ∀ o,yaT (k o)) : yaT (Sem.stack k):=λM Γ Q E p s h0 d q=>by
 rw [wp] at q ⊢
 exact h _ M Γ _ _ p _ h0 d q
theorem zix {o : Obj} {k : Addr -> Sem α} (h : ∀ o,yaT (k o)) : yaT (Sem.alloc o k):=λM Γ Q E p s h0 d q=>by
 rw [wp] at q ⊢
 exact h _ M Γ _ _ p { s with heap:=s.heap.push o } h0 (λb o' e=>by
  obtain ⟨o2,e2,e3⟩:=d b o' e
  exact ⟨o2,Heap.get?_push_of_some _ e2,e3⟩) q
theorem zhu {a : Addr} {pt : Option Value} {f : Obj -> Obj} {k : Unit -> Sem α} (hf : ∀ o,(f o).dict = o.dict /\ (o.isFreed = false -> (f o).isFreed = false)) (h : ∀ o,yaT (k o)) : yaT (Sem.update a pt f k):=λM Γ Q E p s h0 d q=>by
 rw [wp] at q ⊢
 refine ⟨q.1,h _ M Γ _ _ p { s with heap:=s.heap.update a f } h0 (λb o' e=>?_) q.2⟩
 obtain ⟨o2,e2,e3⟩:=d b o' e
 by_cases hb : b = a
 ·subst hb
  exact ⟨f o2,Heap.get?_update_self f e2 ((hf o2).2 (Heap.get?_some_iff.mp e2).2),(hf o2).1.trans e3⟩
 ·exact ⟨o2,(Heap.get?_update_ne _ _ _ _ hb).trans e2,e3⟩
end
theorem zc3 (a : Addr) : yaT (load a):=zjz λo=>zai o
theorem yfF {a : Addr} {f : Obj -> Obj} (hf : ∀ o,(f o).dict = o.dict /\ (o.isFreed = false -> (f o).isFreed = false)) : yaT (update a f):=zhu hf λo=>zai o
theorem zhv (v : Value) : yaT (fieldsOf v):=by
 unfold fieldsOf
 cases v<;>first | exact zaK _ | skip
 refine zae (zc3 _) λo=>?_
 cases o.data<;>first | exact zai _ | exact zaK _
theorem zbV (v : Value) (i : Nat) : yaT (field v i):=by
 unfold field
 refine zae (zhv v) λo=>?_
 cases o[i]? <;> first | exact zai _ | exact zaK _
theorem zdr (g : Array Value -> Array Value) (o : Obj) : (Obj.mapFields g o).dict = o.dict /\ (o.isFreed = false -> (Obj.mapFields g o).isFreed = false):=by
 obtain ⟨c,d,dt,sl⟩:=o
 cases dt<;>exact ⟨rfl,λh=>h⟩
theorem zbc (v : Value) (i : Nat) (x : Value) : yaT (setField v i x):=by
 unfold setField
 cases v<;>first | exact zaK _ | skip
 unfold updateField
 refine zae (zc3 _) λo=>?_
 cases o.data<;>first | exact zaK _ | skip
 dsimp only
 split
 ·exact yfF (zdr _)
 ·exact zaK _
theorem zeg (e : Value) (fr : Option Addr) : yaT (setFlight e fr):=by
 unfold setFlight
 refine zae (zbV e 1) λtb=>?_
 split
 ·exact zbc _ _ _
 ·exact zai _
theorem zhw (env : Env) (outer : List Env) : yaT (behindIsImport env outer):=by
 unfold behindIsImport
 split
 ·exact zai _
 ·split
  ·exact zai _
  ·exact zae (zbV _ _) λ_=>zai _
theorem zcg : yaT stack:=ziw λo=>zai o
theorem zhx : yaT underTheClaimsCaller:=by
 unfold underTheClaimsCaller
 exact zae zcg λ_=>zai _
theorem zjA (env : Env) (b : Bool) (l : List Env) : yaT (keptBack env b l):=by
 unfold keptBack
 cases l with
 | nil =>
  dsimp only
  split
  ·exact zai _
  ·exact zae zhx λ_=>zai _
 | cons=>exact zai _
theorem ze2 : ∀ l : List Env,yaT (readyFrames l)
 | []=>zai _
 | env :: outer=>by
  unfold readyFrames
  cases env.frame with
  | none=>exact zaK _
  | some f =>
   refine zae (zc3 f) λo=>?_
   split
   ·exact zai _
   ·refine zae (zhw _ _) λb=>zae (zjA _ _ _) λv=>zae (yfF λo=>⟨rfl,λh=>by obtain ⟨c,d,dt,sl⟩:=o; cases dt<;>exact h⟩) λ_=>ze2 outer
theorem zds (env : Env) : yaT (PySem.frameOf env):=by
 unfold PySem.frameOf frameEnvs
 refine zae (zae zcg λ_=>zai _) λl=>zae ?_ λr=>?_
 ·generalize l.dropWhile _ = m
  unfold frameObject
  cases m with
  | nil=>exact zai _
  | cons e r=>exact zae (ze2 _) λ_=>zai _
 ·cases r with
  | none=>exact zaK _
  | some v=>exact zai _
theorem ze3 (f : Addr) (b : Bool) : yaT (entryPlaceOf f b):=by
 unfold entryPlaceOf
 refine zae zcg λl=>?_
 split
 ·exact zai _
 ·exact zai _
theorem ze4 (a b c d e : Value) (l : List Value) : yaT (EntryCells.newEntry a b c d e l):=by
 unfold EntryCells.newEntry newFields newObj
 dsimp only
 have k : ∀ d,yaT (newObjAsIs (.type "traceback") (.fields d)):=λd=>by
  unfold newObjAsIs
  exact zae (zix λo=>zai o) λ_=>zai _
 generalize ([a,b,c,d,e]++if l.isEmpty = true then List.replicate 6 Value.none else l).toArray = arr
 split
 ·exact zae (zaK _) λ_=>k _
 ·exact k _
theorem zjB (e : Value) (env : Env) : yaT (noteFrame e env):=by
 unfold noteFrame
 cases env.frame with
 | none=>exact zaK _
 | some f =>
  refine zae (zbV e 1) λh=>?_
  dsimp only
  split
  ·refine zae (zbV h 3) λx=>?_
   split
   ·exact zai _
   ·exact zae (zbc _ _ _) λ_=>zae (zds env) λ_=>zae (ze3 _ _) λ_=>zae (ze4 _ _ _ _ _ _) λ_=>zbc _ _ _
  ·exact zae (zds env) λ_=>zae (ze3 _ _) λ_=>zae (ze4 _ _ _ _ _ _) λ_=>zbc _ _ _
theorem yfg {α : Type} {M : Model} {A : Around} {t : Sem α} {Q : α -> Shared -> Prop} {E : Value -> Shared -> Prop} {s : Shared} {h0 : Heap} (k : yaT t) (d : DkH h0 s.heap) (h : wpAny M A t Q E s) : wpAny M A t (λa s' => Q a s' /\ DkH h0 s'.heap) E s :=
 λΓ p hΓ=>k M Γ _ _ p s h0 d (h Γ p hΓ)
theorem ObjOk.some {P : Program} {w : World} {H : Hp} {h : Heap} {a : Addr} {o : HO} (x : ObjOk P w H h a o) : ∃ ob,h.get? a = Option.some ob:=by
 cases o with
 | lst xs=>obtain ⟨_,_,_,_,e⟩:=x; exact ⟨_,e⟩
 | tup xs=>obtain ⟨_,_,_,o,e,_⟩:=x; exact ⟨o,e⟩
 | dK kvs=>obtain ⟨_,_,_,_,o,_,_,e,_⟩:=x; exact ⟨_,e⟩
 | dT xc kvs=>obtain ⟨_,_,_,_,o,_,_,e,_⟩:=x; exact ⟨_,e⟩
 | set S n=>obtain ⟨o,_,_,_,e,_⟩:=x; exact ⟨_,e⟩
 | ins C dx fs=>obtain ⟨_,_,_,e,_⟩:=x; exact ⟨_,e⟩
 | own y=>obtain ⟨_,e⟩:=x; exact ⟨_,e⟩
 | xd fs=>obtain ⟨_,⟨_,_,_,e,_⟩,_⟩:=x; exact ⟨_,e⟩
 | rng lo hi=>obtain ⟨_,_,_,e⟩:=x; exact ⟨_,e⟩
 | frz ob u=>obtain ⟨e,_⟩:=x; exact ⟨_,e⟩
 | tbl ps=>exact ⟨_,(show h.get? a = Option.some _ from x)⟩
 | met f y=>exact ⟨_,(show h.get? a = Option.some _ from x)⟩
 | ext φ=>obtain ⟨_,⟨_,e⟩,_⟩:=x; exact ⟨_,e⟩
def Firm (X : Cx) (pins : List (Addr × Obj)) (H : Hp) (h B : Heap) : Prop :=
 ∀ b o,h.get? b = some o -> b ∉ frs X.stack -> ((∃ u,H b = some u) \/ (∃ o',X.s₀.heap.get? b = some o') \/ ∃ p ∈ X.pn++pins,p.1 = b) -> B.get? b = some o
section
variable {X : Cx} {pins : List (Addr × Obj)} {σ : St} {H : Hp} {s : Shared}
theorem Inv.nofr (I : Inv X pins σ H s) {b : Addr} {o : Obj} (e : X.s₀.heap.get? b = some o) (hb : b ∉ X.fs) : b ∉ frs X.stack:=λz=>by
 rcases List.mem_cons.mp (I.stkSub b z) with q | q
 ·exact Nat.ne_of_lt (Nat.lt_of_lt_of_le (Heap.lt_size e) I.ok.above) q
 ·exact hb q
theorem Inv.nofrT (I : Inv X pins σ H s) {b : Addr} {u : HO} (e : H b = some u) : b ∉ frs X.stack:=λz=>by
 have q:=I.stkFree b z
 rw [q] at e
 cases e
theorem Inv.nofrP (I : Inv X pins σ H s) {p : Addr × Obj} (hp : p ∈ X.pn++pins) : p.1 ∉ frs X.stack:=λz=>by
 obtain ⟨_,_,ne,nf,_⟩:=I.pin p hp
 rcases List.mem_cons.mp (I.stkSub p.1 z) with q | q
 ·exact ne q
 ·exact nf q
theorem Inv.flown {B h' : Heap} {t' : Nat} (I : Inv X pins σ H s) (hex : X.ex = []) (F : Firm X pins H s.heap B) (st : B.StaysIn h') (sm : s.heap.UpToSlots h') : Inv X pins σ H { s with heap:=h',toks:=t' }:=by
 have nx : ∀ b,b ∉ X.ex:=λb z=>by rw [hex] at z; cases z
 refine ⟨I.ok,I.os,I.bare,⟨λb o e n hb hx=>?_,λb o e n hb hx=>?_,I.base.free,λb o e hx=>?_,I.base.tups,I.base.frzs,I.base.tbls⟩,?_,λx c e=>?_,I.free,I.freeC,λp hp=>?_,λb u e=>?_,I.len⟩
 ·exact st b o (F b o (I.base.keep b o e n hb hx) (I.nofr e hb) (.inr (.inl ⟨o,e⟩)))
 ·obtain ⟨sl,q⟩:=I.base.slot b o e n hb hx
  obtain ⟨_,o',ho',hd⟩:=I.funs.mem hb
  rw [q] at ho'
  cases ho'
  obtain ⟨sl',q'⟩:=sm b _ q hd
  exact ⟨sl',q'⟩
 ·obtain ⟨o',q⟩:=I.base.there b o e hx
  by_cases hb : b ∈ X.fs
  ·obtain ⟨_,o'',ho'',hd⟩:=I.funs.mem hb
   rw [q] at ho''
   cases ho''
   obtain ⟨sl',q'⟩:=sm b _ q hd
   exact ⟨_,q'⟩
  ·exact ⟨o',st b o' (F b o' q (I.nofr e hb) (.inr (.inl ⟨o,e⟩)))⟩
 ·obtain ⟨m,hn,hl⟩:=I.loc
  refine ⟨m,sm.ns hn,λi x v e1 e2 e3=>?_⟩
  obtain ⟨u,r,l⟩:=hl i x v e1 e2 e3
  refine ⟨u,r,?_⟩
  rcases l with l | ⟨k,c,e,o,ho,hd⟩
  ·exact .inl l
  ·obtain ⟨sl,q⟩:=sm c o ho λvs z=>by rw [hd] at z; cases z
   exact .inr ⟨k,c,e,_,q,hd⟩
 ·obtain ⟨v,o,ho,hd⟩:=I.cell x c e
  obtain ⟨sl,q⟩:=sm c o ho λvs z=>by rw [hd] at z; cases z
  exact ⟨v,_,q,hd⟩
 ·obtain ⟨e,n,ne,nf,d⟩:=I.pin p hp
  exact ⟨st _ _ (F _ _ e (I.nofrP hp) (.inr (.inr ⟨p,hp,rfl⟩))),n,ne,nf,d⟩
 ·refine (I.hok b u e).stay (λc v hc q=>?_) (λ_ q=>q) λ_ _ q=>q
  rcases hc with z | z
  ·subst z
   exact st _ _ (F _ _ q (I.nofrT e) (.inl ⟨_,e⟩))
  ·exact st _ _ (F _ _ q (I.nofrT z) (.inl ⟨_,z⟩))
theorem Inv.adopt0 {T : Addr} {ob : HO} (I : Inv X pins σ H s) (hn : H T = none) (hT : X.s₀.heap.get? T = none) (hL : T ≠ X.env.locals) (hc : ∀ x c,X.env.cells.lookup x = some c -> c ≠ T)
  (hp : ∀ p ∈ X.pn++pins,p.1 ≠ T) (new : ObjOk X.prog X.w (upd H T ob) s.heap T ob) : Inv X pins σ (upd H T ob) s:=by
 have hne : ∀ b u,H b = some u -> b ≠ T:=λb u e=>zan e hn
 have hs : ∀ b o,X.s₀.heap.get? b = some o -> b ≠ T:=λb o e z=>by rw [z,hT] at e; cases e
 refine ⟨I.ok,I.os,I.bare,⟨I.base.keep,I.base.slot,λb o e n hx=>by rw [yaw (hs b o e)]; exact I.base.free b o e n hx,I.base.there,λb xs e=>?_,λb o u e=>?_,λb ps e=>?_⟩,I.loc,I.cell,by rw [yaw (Ne.symm hL)]; exact I.free,λx c e=>by rw [yaw (hc x c e)]; exact I.freeC x c e,λp hp' => ?_,λb u e=>?_,I.len⟩
 ·have q:=I.base.tups b xs e
  rw [yaw (hne b _ q)]; exact q
 ·have q:=I.base.frzs b o u e
  rw [yaw (hne b _ q)]; exact q
 ·obtain ⟨more,q⟩:=I.base.tbls b ps e
  exact ⟨more,by rw [yaw (hne b _ q)]; exact q⟩
 ·obtain ⟨e,n,ne,nf,d⟩:=I.pin p hp'
  exact ⟨e,by rw [yaw (hp p hp')]; exact n,ne,nf,d⟩
 ·by_cases hb : b = T
  ·subst hb; rw [zaq] at e; cases e; exact new
  ·rw [yaw hb] at e
   exact (I.hok b u e).stay (λc v _ q=>q) (λc q=>by rw [yaw (hne c _ q)]; exact q) λc xs q=>by rw [yaw (hne c _ q)]; exact q
end
structure Arr (X : Cx) (pins : List (Addr × Obj)) (σ : St) (H : Hp) (a : Addr) (cls : Value) (dx : Option Addr) (s : Shared) : Prop where
 inv : Inv X pins σ H s
 un : H a = none
 new : X.s₀.heap.get? a = none
 nl : a ≠ X.env.locals
 nc : ∀ x c,X.env.cells.lookup x = some c -> c ≠ a
 np : ∀ p ∈ X.pn++pins,p.1 ≠ a
 dic : ∃ ob,s.heap.get? a = some ob /\ ob.dict = dx
 fly : ∃ B a0,Firm X pins H s.heap B /\ B.StaysIn s.heap /\ B.get? a = none /\ s.heap.FunFrames B X.stack /\
  ((∃ oe vs,s.heap.get? a = some oe /\ oe.cls = cls /\ oe.data = .fields vs /\ vs[0]? = some a0 /\ vs[1]? = some .none) \/ s.heap.TracedW B a cls a0)
def CXE (P : Program) (w : World) : CXT:=λouter H s E e s' => ∃ (a : Addr) (cls a0 : Value) (dx : Option Addr) (H' : Hp) (B : Heap),e = .ref a /\ s'.os = s.os /\ AllBare s'.gens /\ Un (frs outer) [] H H' s.heap s'.heap /\ HOk P w H' s'.heap /\
 Heap.FlyingW B outer a cls a0 s'.heap /\ (∀ b o,s'.heap.get? b = some o -> b ∉ frs outer -> ((∃ u,H' b = some u) \/ ∃ o',s.heap.get? b = some o') -> B.get? b = some o) /\ H' a = none /\ s.heap.get? a = none /\ (∃ ob,s'.heap.get? a = some ob /\ ob.dict = dx) /\ E cls dx H'
section
variable {X : Cx} {pins : List (Addr × Obj)} {σ : St} {H : Hp} {s : Shared}
theorem ziy {h' : Heap} {e : Addr} {cls : Value} {args : List Value} {t' : Nat} (I : Inv X pins σ H s) (hex : X.ex = []) (hx : Heap.MadeExcOf s.heap h' e cls args) : Arr X pins σ H e cls none { s with heap:=h',toks:=t' }:=by
 have nx : ∀ b,b ∉ X.ex:=λb z=>by rw [hex] at z; cases z
 have none_of : ∀ b o,s.heap.get? b = some o -> b ≠ e:=λb o q z=>by rw [z,hx.new] at q; cases q
 have eq_of : ∀ b o o1,h'.get? b = some o -> s.heap.get? b = some o1 -> o1 = o:=λb o o1 q q1=>by
  have z:=hx.keeps b o1 q1
  rw [q] at z
  exact (Option.some.inj z).symm
 obtain ⟨t,he,_,_⟩:=hx.there
 refine ⟨I.kept hx.keeps,?_,?_,λz=>?_,λx c q z=>?_,λp hp z=>?_,⟨_,he,rfl⟩,PySem.W.hideAll s.heap (frs X.stack),.ref t,λb o q nb alt=>?_,λb o q=>hx.keeps b o (PySem.W.of_hideAll _ q),?_,?_,.inl ⟨_,_,he,rfl,rfl,rfl,rfl⟩⟩
 ·cases q : H e with
  | none=>rfl
  | some u =>
   obtain ⟨ob,z⟩:=(I.hok e u q).some
   exact absurd rfl (none_of e ob z)
 ·cases q : X.s₀.heap.get? e with
  | none=>rfl
  | some o =>
   obtain ⟨ob,z⟩:=I.base.there e o q (nx e)
   exact absurd rfl (none_of e ob z)
 ·obtain ⟨m,⟨o,_,_,ho,_⟩,_⟩:=I.loc
  exact none_of _ o ho z.symm
 ·obtain ⟨v,o,ho,_⟩:=I.cell x c q
  exact none_of _ o ho z
 ·exact none_of _ _ (I.pin p hp).1 z
 ·have there : ∃ o1,s.heap.get? b = some o1:=by
   rcases alt with ⟨u,q'⟩ | ⟨o',q'⟩ | ⟨p,hp,rfl⟩
   ·exact (I.hok b u q').some
   ·exact I.base.there b o' q' (nx b)
   ·exact ⟨_,(I.pin p hp).1⟩
  obtain ⟨o1,q1⟩:=there
  rw [<- eq_of b o o1 q q1]
  exact PySem.W.hideAll_get _ q1 nb
 ·cases q : (PySem.W.hideAll s.heap (frs X.stack)).get? e with
  | none=>rfl
  | some o=>exact absurd rfl (none_of e o (PySem.W.of_hideAll _ q))
 ·refine (PySem.W.funFrames_hide I.stack λenv henv b hb=>List.mem_filterMap.mpr ⟨env,henv,hb⟩).of_keeps λb o q _=>⟨o,hx.keeps b o q,rfl⟩
theorem ze5 {E : XK} {e : Value} {s' : Shared} (I : Inv X pins σ H s) (hex : X.ex = []) (h : CXE X.prog X.w X.stack H s E e s') : ∃ a cls dx H',e = .ref a /\ Arr X pins σ H' a cls dx s' /\ E cls dx H' := by
 obtain ⟨a,cls,a0,dx,H',B,rfl,os,bare,un,hok,⟨f1,f2,f3,f4⟩,ext,na,ns,dk,q⟩:=h
 have nx : ∀ b,b ∉ X.ex:=λb z=>by rw [hex] at z; cases z
 have none_of : ∀ b o,s.heap.get? b = some o -> b ≠ a:=λb o q z=>by rw [z,ns] at q; cases q
 refine ⟨a,cls,dx,H',rfl,⟨I.call' (ch:=[]) os un hok bare (λb z=>absurd z (by simp)),na,?_,λz=>?_,λx c q z=>?_,λp hp z=>?_,dk,B,a0,λb o q nb alt=>?_,f1,f2,f3,.inr f4⟩,q⟩
 ·cases q : X.s₀.heap.get? a with
  | none=>rfl
  | some o =>
   obtain ⟨ob,z⟩:=I.base.there a o q (nx a)
   exact absurd rfl (none_of a ob z)
 ·obtain ⟨m,⟨o,_,_,ho,_⟩,_⟩:=I.loc
  exact none_of _ o ho z.symm
 ·obtain ⟨v,o,ho,_⟩:=I.cell x c q
  exact none_of _ o ho z
 ·exact none_of _ _ (I.pin p hp).1 z
 ·refine ext b o q nb ?_
  rcases alt with ⟨u,q'⟩ | ⟨o',q'⟩ | ⟨p,hp,rfl⟩
  ·exact .inl ⟨u,q'⟩
  ·exact .inr (I.base.there b o' q' (nx b))
  ·exact .inr ⟨_,(I.pin p hp).1⟩
theorem Arr.land0 {a : Addr} {cls : Value} {dx : Option Addr} {Q : Unit -> Shared -> Prop} {E : Value -> Shared -> Prop} {M : Model} {A : Around} (R : Arr X pins σ H a cls dx s) (hex : X.ex = []) (hfr : A.frames = some X.stack) {outer : List Env} (hst : X.stack = X.env :: outer) (hf : X.env.frame = some X.env.locals)
  (hQ : ∀ h' B a0,Firm X pins H s.heap B -> Heap.FlyingW B X.stack a cls a0 h' -> s.heap.UpToSlots h' -> Inv X pins σ H { s with heap:=h' } -> Q () { s with heap:=h' }) :
  wpAny M A (noteFrame (.ref a) X.env) (λ_ s₂=>wpAny M A (setFlight (.ref a) none) Q E s₂) E s:=by
 obtain ⟨B,a0,fm,st,hb,ff,alt⟩:=R.fly
 have after : ∀ h4,Heap.HeldW B X.stack a cls a0 X.env.locals h4 -> s.heap.UpToSlots h4 -> wpAny M A (setFlight (.ref a) none) Q E { s with heap:=h4 }:=λh4 hh sm=>by
  refine wpAny_landsW (s:={ s with heap:=h4 }) hh λh5 fl sm5=>?_
  have sm' : s.heap.UpToSlots h5:=sm.trans sm5
  exact hQ h5 B a0 fm fl sm' (R.inv.flown (t' := s.toks) hex fm fl.1 sm')
 rw [hst] at hfr
 rw [hst] at ff
 rcases alt with ⟨oe,vs,he,hc,hd,h0,h1⟩ | tr
 ·subst hc
  have hsz : 1 < vs.size:=(Array.getElem?_eq_some_iff.mp h1).1
  unfold noteFrame
  simp only [hf]
  refine wpAny_bind (wpAny_field he hd h1 ?_)
  rw [if_neg (by decide)]
  refine wpAny_entryW hfr ff hf he st hb hd hsz h0 λh4 hN=>?_
  obtain ⟨k1,k2,k3,k4⟩:=hN
  exact after h4 (by rw [hst]; exact ⟨k1,hb,k2,k3⟩) k4
 ·exact wpAny_looks_onW hfr hf ⟨st,hb,ff,tr⟩ λh4 hh sm=>after h4 (by rw [hst]; exact hh) sm
theorem Arr.land {a : Addr} {cls : Value} {dx : Option Addr} {Q : Unit -> Shared -> Prop} {E : Value -> Shared -> Prop} {M : Model} {A : Around} (R : Arr X pins σ H a cls dx s) (hex : X.ex = []) (hfr : A.frames = some X.stack) {outer : List Env} (hst : X.stack = X.env :: outer) (hf : X.env.frame = some X.env.locals)
  (hQ : ∀ h' B a0,Firm X pins H s.heap B -> Heap.FlyingW B X.stack a cls a0 h' -> s.heap.UpToSlots h' -> Inv X pins σ H { s with heap:=h' } -> (∃ ob,h'.get? a = some ob /\ ob.dict = dx) -> Q () { s with heap:=h' }) :
  wpAny M A (noteFrame (.ref a) X.env) (λ_ s₂=>wpAny M A (setFlight (.ref a) none) Q E s₂) E s:=by
 refine wpAny_mono (yfg (zjB _ _) (DkH.refl _) (R.land0 (E:=E) (Q:=λ_ s' => ∃ h' B a0,s' = { s with heap:=h' } /\ Firm X pins H s.heap B /\ Heap.FlyingW B X.stack a cls a0 h' /\ s.heap.UpToSlots h' /\ Inv X pins σ H { s with heap:=h' }) hex hfr hst hf λh' B a0 z1 z2 z3 z4=>⟨h',B,a0,rfl,z1,z2,z3,z4⟩)) (λ_ s2 h2=>?_) λ_ _ z=>z
 refine wpAny_mono (yfg (zeg _ _) h2.2 h2.1) (λ_ s3 h3=>?_) λ_ _ z=>z
 obtain ⟨⟨h',B,a0,rfl,z1,z2,z3,z4⟩,dk⟩:=h3
 obtain ⟨ob,e1,e2⟩:=R.dic
 obtain ⟨ob',e3,e4⟩:=dk a ob e1
 exact hQ h' B a0 z1 z2 z3 z4 ⟨ob',e3,e4.trans e2⟩
theorem zeh {P : Program} {w : World} {K : PySem.W.Frag} {mg : Str -> Option Value} {base : Heap} {N : List Str} {qual : Str} {scope : Scope} {f : Addr} {cd : Value} {A : Around} {outer : List Env} {s0 : Shared} {H0 : Hp} {E : XK} {a : Addr} {cls : Value} {dx : Option Addr}
  (R : Arr (cxOf (CXE P w) P w K mg base N qual scope f cd A outer s0 H0 E) pins σ H a cls dx s) (q : E cls dx H) : (cxOf (CXE P w) P w K mg base N qual scope f cd A outer s0 H0 E).xe (.ref a) s:=by
 show wpAny _ _ (leaving _ _) _ _ s
 unfold leaving
 refine wpAny_bind (R.land (E:=λe' s'' => CXE P w outer H0 s0 E e' s'') rfl R.inv.ok.frames rfl rfl λh' B a0 fm fl sm I' dk=>?_)
 have I:=R.inv
 obtain ⟨k1,k2,⟨_,_,k3⟩,k4⟩:=fl
 refine ⟨a,cls,a0,dx,H,B,rfl,I'.os,I'.bare,I'.base,I'.hok,⟨k1,k2,k3,k4⟩,λb o e nb alt=>?_,R.un,R.new,dk,q⟩
 have nstk : b ∉ frs (cxOf (CXE P w) P w K mg base N qual scope f cd A outer s0 H0 E).stack:=by
  rcases alt with ⟨u,z⟩ | ⟨o',z⟩
  ·exact I.nofrT z
  ·exact I.nofr z nb
 have there : ∃ o1,s.heap.get? b = some o1:=by
  rcases alt with ⟨u,z⟩ | ⟨o',z⟩
  ·exact (I.hok b u z).some
  ·exact I.base.there b o' z (λz=>absurd (show b ∈ ([] : List Addr) from z) (by simp))
 obtain ⟨o1,q1⟩:=there
 have z : B.get? b = some o1:=fm b o1 q1 nstk (by
  rcases alt with ⟨u,z⟩ | ⟨o',z⟩
  ·exact .inl ⟨u,z⟩
  ·exact .inr (.inl ⟨o',z⟩))
 have z2:=k1 b o1 z
 rw [show (Heap.get? h' b) = some o from e] at z2
 cases z2
 exact z
end
def yc4 (X : Cx) (Ex : St -> XK) : Prop:=∀ (pins : List (Addr × Obj)) (σ : St) (H : Hp) (s : Shared) (a : Addr) (cls : Value) (dx : Option Addr),Arr X pins σ H a cls dx s -> Ex σ cls dx H -> X.xe (.ref a) s
def yc5 (CX : CXT) (X : Cx) (Ex : St -> XK) : Prop:=∀ (pins : List (Addr × Obj)) (σ : St) (H : Hp) (s : Shared) (e : Value) (s' : Shared),Inv X pins σ H s -> CX X.stack H s (Ex σ) e s' -> X.xe e s'
section
variable {P : Program} {w : World} {K : PySem.W.Frag} {mg : Str -> Option Value} {base : Heap} {N : List Str} {qual : Str} {scope : Scope} {f : Addr} {cd : Value} {A : Around} {outer : List Env} {s0 : Shared} {H0 : Hp} {E : XK}
theorem zaQ : yc4 (cxOf (CXE P w) P w K mg base N qual scope f cd A outer s0 H0 E) (λ_=>E):=λ_ _ _ _ _ _ _ R q=>zeh R q
theorem zjC : ygR (CXE P w) (cxOf (CXE P w) P w K mg base N qual scope f cd A outer s0 H0 E) E:=λpins σ H s e s' I h=>by
 obtain ⟨a,cls,dx,H',rfl,R,q⟩:=ze5 (X:=cxOf (CXE P w) P w K mg base N qual scope f cd A outer s0 H0 E) I rfl h
 exact zeh R q
end
section
variable {X : Cx} {x : Str} {C : Addr} {bm : List Value} {B newId initId : String} {np cpos pos : Pos} {e : Expr} {es : List Expr} {t : TA} {Ex : St -> XK}
def yg8 (cls : Value) (Ex : St -> XK) (t : TA) : TS:=λ_ σ H=>t σ H λvs H1=>vs.length <= 1000 /\ Ex σ cls none H1
theorem ziz (O : OwnCls x C bm newId X.mg X.base) (FB : ExcBaseFacts B newId initId bm) (hc : X.calm = true) (hex : X.ex = []) (hr : yc4 X Ex) (hg : Gl X x) (ha : PA X (e :: es) t)
  (hdb : (x == ("__debug__" : Str)) = false:=by decide) (he : starEach (e :: es) X.env = (false,eval e X.env) :: starEach es X.env:=by rfl) (hpl : (backTo cpos (starEach es X.env)).any (·.1) = false:=by rfl) :
  PS X (.Raise (some (.Call (.Name x np) (e :: es) [] cpos)) none pos) (yg8 (.ref C) Ex t):=by
 intro pins s σ H D I h
 obtain ⟨tl,NN,nm,q,bs,hdct,sn,sub,ab,col,dd,k0,k1,k2,k3,k5,mN,hC,hN,hni,T⟩:=O.obj
 refine wpAny_Raise_call_subT (C:=C) (nm:=nm) (q:=q) (N:=NN) (bs:=bs) (bm:=tl) (hdct:=hdct) (sn:=sn) (sub:=sub) (ab:=ab) (col:=col) (dd:=dd) (k0:=k0) (k1:=k1) (k2:=k2) (k3:=k3) (k5:=k5) FB (mN:=mN)
  (T.hasType FB.hasBase) (I.ok.hd hc) (by rw [he]; show (false || (backTo cpos (starEach es X.env)).any (·.1)) = false; rw [hpl]; rfl) hni (zbF I hg O.bound ⟨rfl,?_⟩ hdb)
 have hA:=ha cpos pins s σ H _ I h
 rw [he] at hA ⊢
 refine Calls.evalArgs_plain (thn hA λus s2 ⟨vs,H1,I1,r1,hl,q1⟩=>⟨rfl,?_,I1.bk _ _ hC,hN.keeps I1.bk,T.keeps I1.bk,λh' a hm=>hr pins σ H1 _ a _ none (ziy (t' := s2.toks) I1 hex hm) q1⟩)
 show us.length <= sizeLine
 rw [<- r1.length]
 exact Nat.le_trans hl (by decide)
end
section
variable {X : Cx} {CX : CXT} {k : Nat} {f C : Addr} {fd : FuncData} {ps : List Str} {sp : Sp} {dvs : List V} {ds : List Value} {Ex : St -> XK} {x m : Str} {p pos apos : Pos} {e o : Expr} {es : List Expr} {ta : TE} {t : TA}
theorem zdM {pins : List (Addr × Obj)} {σ : St} {H : Hp} {s : Shared} {Q : VK} {us : List Value} {vs : List V} (F : FnOk X.prog X.w X.K X.mg X.base CX k f fd ps sp) (hr : Room k X.A) (hb : Binds X.K fd ps ds) (hd : Vals dvs ds) (hx : yc5 CX X Ex)
  (I : Inv X pins σ H s) (r : Vals vs us) (h : sp (vs++dvs) H Q (Ex σ)) : wpAny (model X.prog X.w) X.A (call (.ref f) us) (EP X pins σ Q) X.xe s:=by
 have r2 : Vals (vs++dvs) (us++ds):=r.append hd
 have hl : (us++ds).length = ps.length:=by rw [<- r2.length]; exact F.len _ _ _ _ h
 refine wpAny_call (codeAny_mono (F.run X.A X.stack s H ⟨us,[]⟩ (us++ds) (vs++dvs) Q (Ex σ) hr I.env0 (hb s us I.kIn hl) r2 h) λr s' hq=>?_)
 cases r with
 | error e=>exact hx pins σ H s e s' I hq
 | ok fl =>
  cases fl with
  | ret u=>exact I.after hq
  | next=>exact False.elim hq
  | brk=>exact False.elim hq
  | cont=>exact False.elim hq
def yg9 (sp : Sp) (dvs : List V) (Ex : St -> XK) (t : TA) : TE:=λσ H Q=>t σ H λvs H1=>sp (vs++dvs) H1 Q (Ex σ)
theorem ziA (F : FnOk X.prog X.w X.K X.mg X.base CX k f fd ps sp) (hr : Room k X.A) (hg : Gl X x) (hm : X.mg x = some (.ref f)) (hk : PySem.W.keepIn X.K (.ref f) = true) (hb : Binds X.K fd ps ds) (hd : Vals dvs ds) (hx : yc5 CX X Ex)
  (ha : PA X (e :: es) t) (hdb : (x == ("__debug__" : Str)) = false:=by decide) (he : starEach (e :: es) X.env = (false,eval e X.env) :: starEach es X.env:=by rfl) (hpl : (backTo pos (starEach es X.env)).any (·.1) = false:=by rfl) :
  PE X (.Call (.Name x p) (e :: es) [] pos) (yg9 sp dvs Ex t):=by
 intro pins s σ H Q I h
 refine wpAny_Call_Name_kw (zbF I hg hm ?_ hdb)
 refine PySem.W.callWith_K (h₀:=X.base) I.ok.mod.kin hk (thn (ha pos pins s σ H _ I h) λus s1 ⟨vs,H1,I1,r,q⟩=>⟨I1.kIn,?_⟩) he hpl
 exact zdM F hr hb hd hx I1 r q
def yfG (C : Addr) (m : Str) (sp : Sp) (dvs : List V) (Ex : St -> XK) (ta : TE) (t : TA) : TE:=λσ H Q=>ta σ H λx H1=>∃ a dx fs,x = .ref a /\ H1 a = some (.ins C dx fs) /\ fs.lookup m = none /\
 t σ H1 λvs H2=>sp (x :: (vs++dvs)) H2 Q (Ex σ)
theorem ziB {pl : Sem Bool} (he : PE X o ta) (c : Cls X.K C) (hm : Meth X.K C m f) (F : FnOk X.prog X.w X.K X.mg X.base CX k f fd ps sp) (hr : Room k X.A) (hb : Binds X.K fd ps ds) (hd : Vals dvs ds) (hx : yc5 CX X Ex) (ha : PA X (e :: es) t)
  (hst : starEach (e :: es) X.env = (false,eval e X.env) :: starEach es X.env:=by rfl) (hpl : (backTo pos (starEach es X.env)).any (·.1) = false:=by rfl)
  (ht : eval (.Call (.Attribute o m apos) (e :: es) [] pos) X.env = (do
   let ov <- eval o X.env
   standAt apos.atName
   let (f,first) <- holding [ov] (getMethod ov m pl)
   callWith pos f first (backTo pos (starEach (e :: es) X.env)) (backToKw pos (keywordEach [] X.env))):=by rfl) :
  PE X (.Call (.Attribute o m apos) (e :: es) [] pos) (yfG C m sp dvs Ex ta t):=by
 intro pins s σ H Q I h
 refine PySem.W.methodCall_KW (pl:=pl) (thn (he pins s σ H _ I h) λu s1 Zz=>?_) ht;obtain ⟨x,H1,I1,rx,a,dx,fs,ex,ea,l,q⟩:=Zz
 subst ex
 obtain rfl : u = Value.ref a:=rx
 refine zdo I1 ea c hm l ?_
 refine PySem.W.callWith_K (first:=[.ref a]) (h₀:=X.base) I.ok.mod.kin hm.kp (thn (ha pos pins s1 σ H1 _ I1 q) λus s2 ⟨vs,H2,I2,r,q2⟩=>⟨I2.kIn,?_⟩) hst hpl
 exact zdM (us:=.ref a :: us) (vs:=.ref a :: vs) F hr hb hd hx I2 (.cons rfl r) q2
end
abbrev tryC (X : Cx) (pins : List (Addr × Obj)) (xe : Value -> Shared -> Prop) : Cx:={ X with pn:=X.pn++pins,xe:=xe }
abbrev hdlC (X : Cx) (a : Addr) : Cx:={ X with A:=X.A.mark (some (.ref a)),calm:=false,xe:=λ_ _=>False }
def excO (a : Addr) (cls : Value) (dx : Option Addr) : HO:=.ext λh=>∃ ob vs,h.get? a = some ob /\ ob.cls = cls /\ ob.data = .fields vs /\ ob.dict = dx
section
variable {X : Cx} {pins pins' : List (Addr × Obj)} {σ : St} {H : Hp} {s : Shared} {xe : Value -> Shared -> Prop}
theorem Cx.Ok.tryC (ok : X.Ok) : (tryC X pins xe).Ok:=⟨ok.mod,ok.kind,ok.glob,ok.blt,ok.above,ok.inj,ok.has,ok.cab,ok.hd,ok.frames,ok.stk,ok.exf,ok.bs,ok.bsz,ok.noex,ok.exfs,ok.funs,ok.frf⟩
theorem Cx.Ok.untry (ok : (L2.tryC X pins xe).Ok) : X.Ok:=⟨ok.mod,ok.kind,ok.glob,ok.blt,ok.above,ok.inj,ok.has,ok.cab,ok.hd,ok.frames,ok.stk,ok.exf,ok.bs,ok.bsz,ok.noex,ok.exfs,ok.funs,ok.frf⟩
theorem Cx.Ok.hdl (ok : X.Ok) (a : Addr) : (hdlC X a).Ok:=⟨ok.mod,ok.kind,ok.glob,ok.blt,ok.above,ok.inj,ok.has,ok.cab,λz=>(nomatch z),ok.frames,ok.stk,ok.exf,ok.bs,ok.bsz,ok.noex,ok.exfs,ok.funs,ok.frf⟩
theorem Inv.toTry (I : Inv X pins σ H s) : Inv (tryC X pins xe) [] σ H s:=⟨I.ok.tryC,I.os,I.bare,I.base,I.loc,I.cell,I.free,I.freeC,λp hp=>I.pin p (by simpa using hp),I.hok,I.len⟩
theorem Inv.untry (I : Inv (tryC X pins xe) pins' σ H s) : Inv X pins σ H s:=⟨I.ok.untry,I.os,I.bare,I.base,I.loc,I.cell,I.free,I.freeC,λp hp=>I.pin p (List.mem_append_left _ hp),I.hok,I.len⟩
theorem Inv.hdl (I : Inv X pins σ H s) (a : Addr) : Inv (hdlC X a) pins σ H s:=⟨I.ok.hdl a,I.os,I.bare,I.base,I.loc,I.cell,I.free,I.freeC,I.pin,I.hok,I.len⟩
theorem Inv.unhdl {a : Addr} (I : Inv (hdlC X a) pins σ H s) (ok : X.Ok) : Inv X pins σ H s:=⟨ok,I.os,I.bare,I.base,I.loc,I.cell,I.free,I.freeC,I.pin,I.hok,I.len⟩
theorem Arr.untry {a : Addr} {cls : Value} {dx : Option Addr} (R : Arr (tryC X pins xe) pins' σ H a cls dx s) : Arr X pins σ H a cls dx s:=by
 obtain ⟨B,a0,fm,r⟩:=R.fly
 refine ⟨R.inv.untry,R.un,R.new,R.nl,R.nc,λp hp=>R.np p (List.mem_append_left _ hp),R.dic,B,a0,λb o q nb alt=>fm b o q nb ?_,r⟩
 rcases alt with z | z | ⟨p,hp,e⟩
 ·exact .inl z
 ·exact .inr (.inl z)
 ·exact .inr (.inr ⟨p,List.mem_append_left _ hp,e⟩)
theorem zbu {M : Model} {A : Around} {E : Value -> Shared -> Prop} {n : Str} {i : Nat} {pos : Pos} {Q : Unit -> Shared -> Prop} (I : Inv X pins σ H s) (hN : X.N.Nodup) (hi : X.N[i]? = some n) (hk : X.env.scope.names.lookup n = some .local)
  (h : ∀ s',Inv X pins (σ.set i none) H s' -> Q () s') : wpAny M A (do bindName X.env n .none; unbindBehindTheSuite X.env n pos) Q E s:=by
 obtain ⟨m,hn,hl⟩:=id I.loc
 refine wpAny_nameGoes_keeps hk hn (by rw [I.ok.kind]; rfl) λh' v hn' hs=>h _ ?_
 have cne:=I.cne
 refine ⟨I.ok,I.os,I.bare,Un.sameBut I.base (Heap.get?_none_of_le I.ok.above) hs,⟨_,hn',λj y v' e1 e2 e3=>?_⟩,λy c e=>?_,I.free,I.freeC,λp hp=>?_,I.hok.sameBut I.free hs,by simpa using I.len⟩
 ·by_cases hj : j = i
  ·subst hj
   by_cases hlt : j < σ.length
   ·rw [List.getElem?_set_self hlt] at e2; cases e2
   ·rw [List.getElem?_eq_none (by simpa using hlt)] at e2; cases e2
  ·rw [List.getElem?_set_ne (Ne.symm hj)] at e2
   obtain ⟨u',r',q⟩:=hl j y v' e1 e2 e3
   refine ⟨u',r',?_⟩
   rcases q with ⟨k,e⟩ | ⟨k,c,e,z⟩
   ·refine .inl ⟨k,?_⟩
    have ne : y ≠ n:=λe=>hj (zbS hN e1 (e ▸ hi))
    simp [ne,e]
   ·exact .inr ⟨k,c,e,z.sameBut hs (cne y c e)⟩
 ·obtain ⟨w',z⟩:=I.cell y c e
  exact ⟨w',z.sameBut hs (cne y c e)⟩
 ·obtain ⟨e,nn,ne,nf,d⟩:=I.pin p hp
  exact ⟨(hs.2 p.1 ne).trans e,nn,ne,nf,d⟩
end
theorem ze6 {M : Model} {A : Around} {E : Value -> Shared -> Prop} {s : Shared} {B : Heap} {l : List Env} {e : Addr} {cls a0 : Value} {dx : Option Addr} {Q : Unit -> Shared -> Prop} (hh : Heap.FlyingW B l e cls a0 s.heap) (dk : ∃ ob,s.heap.get? e = some ob /\ ob.dict = dx)
  (hQ : ∀ h',Heap.FlyingW B l e cls a0 h' -> s.heap.UpToSlots h' -> (∃ ob,h'.get? e = some ob /\ ob.dict = dx) -> Q () { s with heap:=h' }) : wpAny M A (setFlight (.ref e) none) Q E s:=by
 refine wpAny_mono (yfg (zeg _ _) (DkH.refl _) (lands_againW (E:=E) (Q:=λ_ s' => ∃ h',s' = { s with heap:=h' } /\ Heap.FlyingW B l e cls a0 h' /\ s.heap.UpToSlots h') hh λh' z1 z2=>⟨h',rfl,z1,z2⟩)) (λ_ s3 h3=>?_) λ_ _ z=>z
 obtain ⟨⟨h',rfl,z1,z2⟩,d⟩:=h3
 obtain ⟨ob,e1,e2⟩:=dk
 obtain ⟨ob',e3,e4⟩:=d e ob e1
 exact hQ h' z1 z2 ⟨ob',e3,e4.trans e2⟩
def tTry (K : PySem.W.Frag) (i : Nat) (C : Addr) (tb : (St -> XK) -> TS) (th : TS) : TS:=λD σ H =>
 tb (λσ' cls dx H' => PySem.W.exmOne K cls (.ref C) = some true /\ ∀ a,H' a = none -> th { nx:=λσ2 H2=>D.nx (σ2.set i none) H2,rt:=D.rt,bk:=λσ2 H2=>D.bk (σ2.set i none) H2,ct:=λσ2 H2=>D.ct (σ2.set i none) H2 } (σ'.set i (some (.ref a))) (upd H' a (excO a cls dx))) D σ H
theorem zch {M : Model} {h : Heap} {a : Addr} {ob : Obj} (e : h.get? a = some ob) : PySem.W.Looks M h (typeOf (.ref a)) ob.cls:=(PySem.W.Looks.ld e).andThen .now
section
variable {X : Cx} {xc n : Str} {C : Addr} {i : Nat} {body suite : List Stmt} {b0 : Stmt} {np hpos pos : Pos} {tb : (St -> XK) -> TS} {th : TS} {outer : List Env}
theorem yha (hex : X.ex = []) (hst : X.stack = X.env :: outer) (hf : X.env.frame = some X.env.locals) (hN : X.N.Nodup) (hi : X.N[i]? = some n) (hl : X.env.scope.names.lookup n = some .local) (hg : Gl X xc) (hm : X.mg xc = some (.ref C))
  (hb : ∀ pins xe Ex,yc5 (CXE X.prog X.w) (tryC X pins xe) Ex -> yc4 (tryC X pins xe) Ex -> PSs (tryC X pins xe) body (tb Ex)) (hh : ∀ a,PSs (hdlC X a) (b0 :: suite) th) (hdb : (xc == ("__debug__" : Str)) = false:=by decide) :
  PS X (.Try body [.ExceptHandler (some (.Name xc np)) (some n) (b0 :: suite) hpos] [] [] pos) (tTry X.K i C tb th):=by
 intro pins s σ H D I h
 have okX:=I.ok
 let Ex : St -> XK:=λσ' cls dx H' => PySem.W.exmOne X.K cls (.ref C) = some true /\ ∀ a,H' a = none -> th { nx:=λσ2 H2=>D.nx (σ2.set i none) H2,rt:=D.rt,bk:=λσ2 H2=>D.bk (σ2.set i none) H2,ct:=λσ2 H2=>D.ct (σ2.set i none) H2 } (σ'.set i (some (.ref a))) (upd H' a (excO a cls dx))
 let xe : Value -> Shared -> Prop:=λe s' => ∃ σ' H' a cls dx,e = .ref a /\ Arr X pins σ' H' a cls dx s' /\ Ex σ' cls dx H'
 have hR : yc4 (tryC X pins xe) Ex:=λpins' σ' H' s' a cls dx R q=>⟨σ',H',a,cls,dx,rfl,R.untry,q⟩
 have hP : yc5 (CXE X.prog X.w) (tryC X pins xe) Ex:=λpins' σ' H' s1 e s2 I' hq=>by
  obtain ⟨a,cls,dx,H2,rfl,R,q⟩:=ze5 (X:=tryC X pins xe) I' hex hq
  exact ⟨σ',H2,a,cls,dx,rfl,R.untry,q⟩
 have hbody:=hb pins xe Ex hP hR [] s σ H D (I.toTry (xe:=xe)) h
 refine wpAny_Try_except (wpAny_mono hbody (λf s1 q=>?_) λe s1 q=>?_)
 ·cases f with
  | next=>obtain ⟨σ1,H1,I1,q1⟩:=q; exact wpAny_execs_nil ⟨σ1,H1,I1.untry,q1⟩
  | brk=>obtain ⟨σ1,H1,I1,q1⟩:=q; exact ⟨σ1,H1,I1.untry,q1⟩
  | cont=>obtain ⟨σ1,H1,I1,q1⟩:=q; exact ⟨σ1,H1,I1.untry,q1⟩
  | ret u=>obtain ⟨v1,σ1,H1,I1,r1,q1⟩:=q; exact ⟨v1,σ1,H1,I1.untry,r1,q1⟩
 ·obtain ⟨σ1,H1,a,cls,dx,rfl,R,hxm,q1⟩:=q
  refine R.land hex okX.frames hst hf λh5 B a0 fm fl sm I5 dk=>?_
  obtain ⟨oe,vs,hoe,hoec,hoed,_⟩:=fl.first
  have I5h:=I5.hdl a
  refine wpAny_handleBy_cons (codeAny_handlers_test (zbF (X:=hdlC X a) I5h hg hm ?_ hdb)) (by intro z; cases z)
  refine (PySem.W.exm_one I5.kIn (hoec ▸ zch hoe) hxm).here ?_
  refine codeAny_handlers_suite_as ?_
  refine ze6 fl dk λh6 fl6 sm6 dk6=>?_
  have I6 : Inv X pins σ1 H1 { s1 with heap:=h6 }:=R.inv.flown (t' := s1.toks) hex fm fl6.1 (sm.trans sm6)
  obtain ⟨oe6,vs6,hoe6,hoec6,hoed6,_⟩:=fl6.first
  have I7 : Inv X pins σ1 (upd H1 a (excO a cls dx)) { s1 with heap:=h6 }:=I6.adopt0 R.un R.new R.nl R.nc R.np
   ⟨⟨oe6,vs6,hoe6,hoec6,hoed6,by obtain ⟨ob,e1,e2⟩:=dk6; rw [show h6.get? a = some oe6 from hoe6] at e1; cases e1; exact e2⟩,⟨oe6,hoe6⟩,λg1 g2 ⟨ob,ws,z1,z2,z3⟩ k=>⟨ob,ws,k ob z1,z2,z3⟩⟩
  refine zcY (X:=hdlC X a) (I7.hdl a) hN hi (.inl hl) (v:=.ref a) rfl (λs8 I8=>?_) (.inr hl)
  refine wpAny_mono (hh a pins s8 _ _ _ I8 (q1 a R.un)) (λf s9 q9=>?_) λ_ _ z=>z.elim
  cases f with
  | next=>obtain ⟨σ2,H2,I2,q2⟩:=q9; exact zbu (I2.unhdl okX) hN hi hl λs' I' => ⟨_,H2,I',q2⟩
  | brk=>obtain ⟨σ2,H2,I2,q2⟩:=q9; exact zbu (I2.unhdl okX) hN hi hl λs' I' => ⟨_,H2,I',q2⟩
  | cont=>obtain ⟨σ2,H2,I2,q2⟩:=q9; exact zbu (I2.unhdl okX) hN hi hl λs' I' => ⟨_,H2,I',q2⟩
  | ret u=>obtain ⟨v2,σ2,H2,I2,r2,q2⟩:=q9; exact zbu (I2.unhdl okX) hN hi hl λs' I' => ⟨v2,_,H2,I',r2,q2⟩
end
section
variable {P : Program} {w : World} {K : PySem.W.Frag} {mg : Str -> Option Value} {base : Heap}
theorem Fun.okE {x qual : Str} {st : Stmt} {f : Addr} {fd : FuncData} {N ps : List Str} {k : Nat} {sp : Sp} (F : Fun K x qual st f fd) (S : FnScope N ps (yag st)) (len : ∀ vs H Q E,sp vs H Q E -> vs.length = ps.length)
  (hbody : ∀ (cdv : Value) (A : Around) (outer : List Env) (s : Shared) (H : Hp) (vs : List V) (Q : VK) (E : XK),Room k (A.deeper (envOfC qual (yag st) s.heap.objs.size f cdv)) -> sp vs H Q E ->
   ∃ t,PSs (cxOf (CXE P w) P w K mg base N qual (yag st) f cdv A outer s H E) (ych st) t /\ t { nx:=λ_ H' => Q .non H',rt:=Q } (start N vs) H) : FnOk P w K mg base (CXE P w) (k + 1) f fd ps sp:=by
 obtain ⟨oc,od,kV,doc,pm,an,cdv,ct,osl,rfl,lk,hcd⟩:=F.ex
 exact yib lk hcd S len λA outer s H vs Q E hr hsp=>hbody cdv A outer s H vs Q E hr hsp
end
open PySem.W (Frag Looks looks_findIn looks_specialIn looks_takesIn looks_mroIn findIn specialIn takesIn mroIn clsIn KitX kitOne kitAny kia_one kia_tup)
open PySem.Calls Builtin Builtin.ObjectAttr Builtin.Getset_descriptor
structure ExcK (K : Frag) (C : Addr) : Prop where
 cl : (clsIn K C).isSome = true
 ga : findIn K (.ref C) "__getattribute__" = some (some (.builtin "BaseException.__getattribute__"))
 gh : findIn K (.ref C) "__getattr__" = some none
 ca : findIn K (.ref C) "__class__" = some (some (.builtin "object.__class__"))
 cg : specialIn K (.builtin "object.__class__") "__get__" = some (some (.builtin "getset_descriptor.__get__"))
 ct : takesIn K (.builtin "object.__class__") = some true
 mo : mroIn K C (.type "object") = some true
 mb : mroIn K C (.type "BaseException") = some true
def ExcAt (a C : Addr) (h : Heap) : Prop:=∃ ob vs,h.get? a = some ob /\ ob.cls = .ref C /\ ob.data = .fields vs
section
variable {prog : Program} {w : World} {A : Around} {K : Frag} {a C : Addr}
theorem ExcAt.ty {M : Model} {h : Heap} (x : ExcAt a C h) : Looks M h (typeOf (.ref a)) (.ref C):=by
 obtain ⟨ob,vs,e,c,_⟩:=x
 exact c ▸ zch e
theorem zbC {tp : Value} {s : Shared} {R : Result -> Shared -> Prop} (X : K.In s.heap) (Z : ExcK K C) (I : ExcAt a C s.heap) (q : R (.ok (.ret (.ref C))) s) :
  codeAny (model prog w) A (.call (.builtin "getset_descriptor.__get__") ⟨[.builtin "object.__class__",.ref a,tp],[]⟩) R s:=by
 obtain ⟨hp,gg,dd,tt,oo⟩:=s
 have La:=I.ty (M:=model prog w)
 have Lb:=looks_mroIn (M:=model prog w) X Z.mo
 refine codeAny_call_builtin PySem.W.KF.slot_gs.plain PySem.W.KF.entry_gs (PySem.W.KF.slot_gs.check _ _ _ _ _ _ _ _ PySem.W.KF.type_class (PySem.W.KF.args_gs _ _ _) ?_)
 unfold Builtin.«getset_descriptor.__get__» descrGet
 rw [PySem.W.dga_obj]
 refine wpAny_bind (wpAny_pure ?_)
 unfold descrGetter descrCheckInstance descrNameAndClass isInstance
 simp only [PySem.W.KF.owner_class]
 repeat lk
 refine ⟨Code.quiet_builtin _ (by decide +kernel),codeAny_builtin PySem.W.KF.entry_class ?_⟩
 unfold Builtin.«object.__class__» shownTypeOf
 repeat lk
 exact q
theorem ziC {M : Model} {h : Heap} {x : Value} (X : K.In h) (Z : ExcK K C) : Looks M h (find x (.ref C) "__class__") (.bind (.builtin "getset_descriptor.__get__") (.builtin "object.__class__")):=by
 have l1:=looks_findIn (M:=M) X Z.ca
 have l2 : Looks M h (getOf (some (.builtin "object.__class__"))) (some (.builtin "getset_descriptor.__get__")):=looks_specialIn X Z.cg
 have l3:=looks_takesIn (M:=M) X Z.ct
 exact l1.andThen (l2.andThen ((show Looks M h (dataDescriptor? (some (.builtin "object.__class__")) (some (.builtin "getset_descriptor.__get__"))) (some (.builtin "getset_descriptor.__get__",.builtin "object.__class__")) from l3.andThen .now).andThen (Looks.tag .now)))
theorem zhy {tk : Tok} {s : Shared} {Q : Fin -> Shared -> Prop} {E : Value -> Shared -> Prop} (X : K.In s.heap) (Z : ExcK K C) (I : ExcAt a C s.heap) (q : Q (.done (.ret (.ref C))) s) :
  wpAny (model prog w) A (Builtin.«object.__getattribute__» ⟨[.ref a,.str "__class__" tk],[]⟩) Q E s:=by
 obtain ⟨hp,gg,dd,tt,oo⟩:=s
 have La:=I.ty (M:=model prog w)
 have Lf:=ziC (M:=model prog w) (x:=.ref a) X Z
 refine wpAny_bind (wpAny_pure ?_)
 refine wpAny_bind (wpAny_pure ?_)
 refine wpAny_bind (La.at (wpAny_bind (Lf.at ?_)))
 unfold bindTo
 first
  | exact wpAny_bind (wpAny_call (zbC X Z I (wpAny_pure q)))
  | exact wpAny_bind (wpAny_holding (wpAny_call (zbC X Z I (wpAny_pure q))))
  | exact wpAny_bind (wpAny_holding (wpAny_call (zbC X Z I q)))
theorem zhz {nm : Value} {s : Shared} {M : Model} {Q : Unit -> Shared -> Prop} {E : Value -> Shared -> Prop} (X : K.In s.heap) (Z : ExcK K C) (I : ExcAt a C s.heap) (q : Q () s) :
  wpAny M A (checkBuiltinCall "BaseException.__getattribute__" ⟨[.ref a,nm],[]⟩) Q E s:=by
 obtain ⟨hp,gg,dd,tt,oo⟩:=s
 have k1 : builtinKind "BaseException.__getattribute__" = some .slot:=by decide +kernel
 have k2 : splitId "BaseException.__getattribute__" = some ("BaseException", "__getattribute__"):=by decide +kernel
 have k3:=F.args_bexc_ga (.ref a) nm
 have La:=I.ty (M:=M)
 have Lb:=looks_mroIn (M:=M) X Z.mb
 have Li : Looks M hp (isInstance (.ref a) (.type "BaseException")) true:=La.andThen Lb
 simp only [checkBuiltinCall,k1,k2]
 refine wpAny_bind (Li.at ?_)
 repeat lk
 exact q
theorem yhb {tk : Tok} {s : Shared} {Q : Value -> Shared -> Prop} {E : Value -> Shared -> Prop} (X : K.In s.heap) (Z : ExcK K C) (I : ExcAt a C s.heap) (q : Q (.ref C) s) :
  wpAny (model prog w) A (getAttrBy (.ref a) (.str "__class__" tk) false) Q E s:=by
 obtain ⟨hp,gg,dd,tt,oo⟩:=s
 have La:=I.ty (M:=model prog w)
 have Lg:=looks_findIn (M:=model prog w) X Z.ga
 have Lh:=looks_findIn (M:=model prog w) X Z.gh
 have f3:=F.attrBase_ValueError.ga.bind (.ref a)
 unfold getAttrBy
 refine wpAny_holding (wpAny_bind (La.at (wpAny_bind (Lg.at ?_))))
 show wpAny _ _ (getAttrByItsOwn _ _ _ _ _ _) _ _ _
 unfold getAttrByItsOwn
 refine wpAny_bind ((show Looks _ hp (hookBefore (.ref C)) none from Lh).at ?_)
 refine wpAny_bind (wpAny_attempt (wpAny_holding ?_))
 show wpAny _ _ (boundAndCalled _ _ _) _ _ _
 unfold boundAndCalled
 rw [f3]
 refine wpAny_bind (wpAny_pure ?_)
 refine wpAny_call (codeAny_call_builtin F.attrBase_ValueError.ga.plain F.entry_bexc_ga (zhz X Z I (zhy X Z I ?_)))
 repeat lk
 exact q
theorem ziD {s : Shared} {Q : Option Value -> Shared -> Prop} {E : Value -> Shared -> Prop} (X : K.In s.heap) (Z : ExcK K C) (I : ExcAt a C s.heap) (q : Q (some (.ref C)) { s with toks:=s.toks + 1 }) :
  wpAny (model prog w) A (getAttr? (.ref a) "__class__") Q E s:=by
 unfold getAttr? getAttrBy?
 exact wpAny_bind (wpAny_mkText (wpAny_bind (wpAny_attempt (yhb (s:={ s with toks:=s.toks + 1 }) X Z I (wpAny_pure q)))))
theorem ziE (Z : ExcK K C) : KitX K (.ref a) (.ref C) (ExcAt a C) where
 ty:=λ_ _ _ I=>I.ty
 it:=λ_ _ X _=>by
  have z:=Z.cl
  unfold clsIn at z
  split at z
  ·rename_i ho
   intro A' Q' E' s' k q
   unfold isType loadHead
   exact wpAny_bind (wpAny_loadPart (k _ _ (X _ _ ho)) (wpAny_pure q))
  ·cases z
 ne:=λhp tp dd its n sl X htp=>by
  refine Bool.eq_false_iff.mpr λq=>?_
  have e : C = tp:=Value.ref.inj (beq_iff_eq.mp q)
  subst e
  have z:=Z.cl
  unfold clsIn at z
  split at z
  ·rename_i ho
   have zz:=(X _ _ ho).symm.trans htp
   cases zz
  ·cases z
 ca:=λX I k=>ziD X Z I k
end
section
variable {X : Cx}
theorem zjD {P : Program} {w : World} {H : Hp} {h : Heap} {a C : Addr} {dx : Option Addr} (x : ObjOk P w H h a (excO a (.ref C) dx)) : ExcAt a C h:=by
 obtain ⟨⟨ob,vs,z1,z2,z3,_⟩,_⟩:=x
 exact ⟨ob,vs,z1,z2,z3⟩
theorem ziF {c : V} {cv : Value} (rc : ∀ u,RelV c u -> u = cv) :
  CallR X (.builtin "isinstance") (λxs H Q=>∃ (a D : Addr) (r : Bool),xs = [.ref a,c] /\ (∃ dx,H a = some (excO a (.ref D) dx)) /\ ExcK X.K D /\ kitOne X.K (.ref D) cv = some r /\ Q (.bl r) H):=by
 intro pins s σ H xs us Q I r h
 obtain ⟨a,D,b,rfl,⟨dx,ha⟩,Z,hk,q⟩:=h
 obtain ⟨u,w',rfl,rx,ry⟩:=ye4 r
 obtain rfl:=rc _ ry
 obtain rfl : u = Value.ref a:=rx
 exact kia_one (ziE Z) I.kIn (zjD (I.hok a _ ha)) hk (by intro z; cases z) λtk=>⟨.bl b,H,I.tok _,rfl,q⟩
end
theorem ziG {K : PySem.W.Frag} {hp : Heap} {g : Str -> Option Value} {nm : Str} {Ca : Addr} {bb : List Value} {nid : String} (Z : K.In hp) (hb : g nm = some (.ref Ca)) (ok : PySem.W.excIn K Ca bb nid = true) : OwnCls nm Ca bb nid g hp:=by
 refine ⟨hb,?_⟩
 unfold PySem.W.excIn at ok
 split at ok
 ·rename_i dA cA sA hA
  split at ok
  ·rename_i D' tl w0 w1 w2 w3 bn w5 eM eS
   simp only [Bool.and_eq_true,beq_iff_eq,Bool.not_eq_true'] at ok
   obtain ⟨⟨⟨⟨⟨rfl,rfl⟩,e1⟩,e2⟩,e3⟩,e4⟩:=ok
   obtain ⟨f1,f2,f3,f4,f5,f6,f7,f8,f9,f10,f11⟩:=cA
   dsimp only at eM e1 e3 e4
   subst eM e1
   have eA : sA = #[w0,w1,w2,w3,some (.builtin bn),w5]:=by
    obtain ⟨ll⟩:=sA
    simp only at eS
    rw [eS]
   subst eA
   refine ⟨tl,f4,f1,f5,f2,f6,f7,f8,f9,f10,dA,w0,w1,w2,w3,w5,_,Z _ _ hA,.of_isNs (PySem.W.isNs_of_in Z e3),?_,PySem.W.tail_of_in Z e2⟩
   exact PySem.W.nsMap_none_of_in Z e3 e4
  ·cases ok
 ·cases ok
mutual
inductive DaV (K : PySem.W.Frag) (H : Hp) : V -> PyData -> Prop
 | non : DaV K H .non .none
 | bl (b) : DaV K H (.bl b) (.bool b)
 | int (i) : DaV K H (.int i) (.int i)
 | str (x) : DaV K H (.str x) (.str x)
 | lst {a xs ds} : SqL K H a xs -> DaVs K H xs ds -> DaV K H (.ref a) (.list ds)
 | tup {a xs ds} : SqT K H a xs -> DaVs K H xs ds -> DaV K H (.ref a) (.tuple ds)
inductive DaVs (K : PySem.W.Frag) (H : Hp) : List V -> List PyData -> Prop
 | nil : DaVs K H [] []
 | cons {x xs d ds} : DaV K H x d -> DaVs K H xs ds -> DaVs K H (x :: xs) (d :: ds)
end
section
variable {X : Cx} {pins : List (Addr × Obj)} {σ : St} {H : Hp} {s : Shared}
mutual
theorem DaV.reads (I : Inv X pins σ H s) : ∀ {x : V} {d : PyData} {u : Value},DaV X.K H x d -> RelV x u -> ∃ as,Reads s.heap u d as
 | _,_,_,.non,r=>by cases r; exact ⟨_,.none⟩
 | _,_,_,.bl b,r=>by cases r; exact ⟨_,.bool b⟩
 | _,_,_,.int i,r=>by obtain ⟨t,rfl⟩:=r; exact ⟨_,.int i t⟩
 | _,_,_,.str x,r=>by obtain ⟨t,rfl⟩:=r; exact ⟨_,.str x t⟩
 | _,_,_,.lst (a:=a) h1 h2,r=>by
  cases r
  obtain ⟨its,rv,⟨o,n,e1,e2,e3⟩,_⟩:=I.list h1
  obtain ⟨as,q⟩:=DaVs.reads I h2 rv
  exact ⟨_,.list (vs:=its.toArray) (n:=n) e1 (by first | exact e2.1 | exact e2) (by first | exact e2.2.2 | exact e2.2 | exact e3 | exact e3.2) (by simpa using q)⟩
 | _,_,_,.tup (a:=a) h1 h2,r=>by
  cases r
  obtain ⟨its,rv,⟨o,e1,e2,n,e3⟩,_⟩:=I.tuple h1
  obtain ⟨as,q⟩:=DaVs.reads I h2 rv
  exact ⟨_,.tuple (vs:=its.toArray) (n:=n) e1 e2 e3 (by simpa using q)⟩
theorem DaVs.reads (I : Inv X pins σ H s) : ∀ {xs : List V} {ds : List PyData} {us : List Value},DaVs X.K H xs ds -> Vals xs us -> ∃ as,ReadsAll s.heap us ds as
 | _,_,_,.nil,r=>by cases r; exact ⟨_,.nil⟩
 | _,_,_,.cons h1 h2,r=>by
  cases r with
  | cons r1 r2 =>
   obtain ⟨as,q1⟩:=DaV.reads I h1 r1
   obtain ⟨bs,q2⟩:=DaVs.reads I h2 r2
   exact ⟨_,.cons q1 q2⟩
end
def rEqD (K : PySem.W.Frag) : R2:=λx y H Q=>∃ d e,DaV K H x d /\ DaV K H y e /\ d.canLay0 = true /\ e.canLay0 = true /\ d.depth <= 60 /\ Q (.bl (PyData.eqv d e)) H
def rNeD (K : PySem.W.Frag) : R2:=λx y H Q=>∃ d e,DaV K H x d /\ DaV K H y e /\ d.canLay0 = true /\ e.canLay0 = true /\ d.depth <= 60 /\ Q (.bl (!PyData.eqv d e)) H
theorem yfH (hu : X.A.units + 64 < cLine) : OpR X (compareOp .Eq) (rEqD X.K):=by
 intro pins s σ H x y v u Q I rx ry h
 obtain ⟨d,e,h1,h2,c1,c2,dp,q⟩:=h
 obtain ⟨as,r1⟩:=h1.reads I rx
 obtain ⟨bs,r2⟩:=h2.reads I ry
 exact SeqAt.compareEq_reads r1 r2 c1 c2 (by have:=Nat.min_le_left d.depth e.depth; lia) ⟨.bl _,H,I,rfl,q⟩
theorem yfI (hu : X.A.units + 64 < cLine) : OpR X (compareOp .NotEq) (rNeD X.K):=by
 intro pins s σ H x y v u Q I rx ry h
 obtain ⟨d,e,h1,h2,c1,c2,dp,q⟩:=h
 obtain ⟨as,r1⟩:=h1.reads I rx
 obtain ⟨bs,r2⟩:=h2.reads I ry
 exact SeqAt.compareNe_reads r1 r2 c1 c2 (by have:=Nat.min_le_left d.depth e.depth; lia) ⟨.bl _,H,I,rfl,q⟩
end
theorem hu64 {A : Around} {k : Nat} (hr : Room k A) : A.units + 64 < cLine:=by
 have:=hr.un
 lia
def yik (K : PySem.W.Frag) : R2:=λx y H Q=>∃ l b xs zs,x = .ref l /\ y = .ref b /\ SqL K H l xs /\ SqL K H b zs /\ xs.length + zs.length <= sizeLine /\ ∀ p,H p = none -> Q (.ref p) (upd H p (.lst (xs++zs)))
theorem zjE {X : Cx} : OpR X (binaryOp .Add) (yik X.K):=by
 intro pins s σ H x y v u Q I rx ry h
 obtain ⟨l,b,xs,zs,rfl,rfl,hH,hB,hz,q⟩:=h
 cases rx
 cases ry
 obtain ⟨its,r,⟨o,n,e1,e2,e3,e4⟩,z⟩:=I.list hH
 obtain ⟨its2,r2,⟨o2,n2,g1,g2,g3,g4⟩,z2⟩:=I.list hB
 obtain ⟨oc,od,oda,osl⟩:=o
 obtain ⟨oc2,od2,oda2,osl2⟩:=o2
 dsimp only at e2 e3 e4 g2 g3 g4
 subst e2 e3 e4 g2 g3 g4
 have l1:=r.length
 have l2:=r2.length
 refine concat_meets ⟨_,e1,rfl⟩ ⟨_,g1,rfl⟩ noFill_list_add seq_list_add PySem.F.slot_list_add PySem.F.entry_list_add (PySem.F.args_list_add_2 _ _) (list_addW l b its.toArray its2.toArray n n2 none none osl osl2 (by rw [List.size_toArray,List.size_toArray]; omega)) ⟨e1,g1,?_⟩
 have ea : its.toArray++its2.toArray = (its++its2).toArray:=by simp
 rw [ea]
 exact ⟨.ref s.heap.objs.size,_,I.lnew (t' := s.toks) (r.append r2) (by rw [List.length_append]; exact hz),rfl,q _ I.fresh⟩
section
variable {X : Cx} {pins : List (Addr × Obj)} {σ : St} {H : Hp} {s : Shared}
open Classical in
def isD (h : Heap) (d : PyData) (v : Value) : Bool:=if q : ∃ e as,e.canLay0 = true /\ Reads h v e as then PyData.eqv q.choose d else false
theorem isD_of {h : Heap} {d e : PyData} {v : Value} {as : List Addr} (c : e.canLay0 = true) (r : Reads h v e as) : isD h d v = PyData.eqv e d:=by
 have q : ∃ e as,e.canLay0 = true /\ Reads h v e as:=⟨e,as,c,r⟩
 unfold isD
 rw [dif_pos q]
 obtain ⟨as',c',r'⟩:=q.choose_spec
 have z : q.choose = e:=by first | exact (Reads.unique _ _ r' r).1 | exact (Reads.unique r' r).1 | exact Reads.unique _ _ _ _ _ c' r' r | exact PySem.SeqAt.Reads.unique _ _ _ _ _ c' r' r | exact PySem.Reads.unique _ _ _ _ _ c' r' r
 rw [z]
theorem zf8 (I : Inv X pins σ H s) : ∀ {xs : List V} {ds : List PyData} {us : List Value},DaVs X.K H xs ds -> Vals xs us -> us.length = ds.length /\ ∀ (j : Nat) u d,us[j]? = some u -> ds[j]? = some d -> ∃ as,Reads s.heap u d as
 | _,_,_,.nil,r=>by cases r; exact ⟨rfl,λj u d e=>by cases e⟩
 | _,_,_,.cons h1 h2,r=>by
  cases r with
  | cons r1 r2 =>
   obtain ⟨l,q⟩:=zf8 I h2 r2
   refine ⟨by rw [List.length_cons,List.length_cons,l],λj u d e1 e2=>?_⟩
   cases j with
   | zero=>cases e1; cases e2; exact h1.reads I r1
   | succ j=>exact q j u d e1 e2
theorem zf9 {h : Heap} {d : PyData} : ∀ {us : List Value} {ds : List PyData},us.length = ds.length -> (∀ (j : Nat) u e,us[j]? = some u -> ds[j]? = some e -> isD h d u = PyData.eqv e d) -> us.any (isD h d) = ds.any λe=>PyData.eqv e d
 | [],[],_,_=>rfl
 | u :: us,e :: ds,hl,hh=>by
  rw [List.any_cons,List.any_cons,hh 0 u e rfl rfl,zf9 (us:=us) (ds:=ds) (Nat.succ.inj hl) λj u' e' a b=>hh (j + 1) u' e' a b]
end
section
variable {X : Cx} {tg : Expr}
theorem zcT (ns : List Int) : ∀ k,k <= ns.length -> preSum (λi=>(ns[i]?).getD 0) k = (ns.take k).sum
 | 0,_=>by simp [preSum]
 | k + 1,h=>by
  show preSum _ k + (ns[k]?).getD 0 = _
  rw [zcT ns k (by lia),List.take_succ,List.sum_append]
  congr 1
  rw [List.getElem?_eq_getElem (by lia)]
  simp
theorem ziH (hc : X.calm = true) : CallR X (.builtin "sum") (λxs H Q=>∃ (a : Addr) (ns : List Int),xs = [.ref a] /\ SqL X.K H a (ns.map V.int) /\ Q (.int ns.sum) H):=by
 intro pins s σ H xs us Q I r h
 obtain ⟨l,bs,rfl,hq,q⟩:=h
 obtain ⟨u,rfl,rx⟩:=yea r
 cases rx
 obtain ⟨its,rv,pl,hz⟩:=I.list hq
 have hlt : l < s.heap.objs.size:=by obtain ⟨_,_,e,_⟩:=pl; exact Heap.lt_size e
 have hlen : its.length = bs.length:=by rw [<- rv.length,List.length_map]
 refine call_sum_walkAnyS (wpAny_pyIter_list pl.isList ?_)
 refine ⟨s.heap.objs.size,[s.heap.objs.size,l],[s.heap.objs.size],_,its.toArray.size,_,_,λi=>(bs[i]?).getD 0,rfl,(Walks.list (prog:=X.prog) (w:=X.w) (A:=X.A.in1) (I.ok.hd hc) s.heap.objs.size l (Nat.ne_of_lt hlt) its.toArray).toS,
  ⟨⟨_,Heap.get?_push_size _ rfl,rfl,rfl⟩,pl.isList.push _⟩,λb hb=>?_,λi v hP=>?_,λs' t' hm=>?_⟩
 ·rcases List.mem_cons.mp hb with rfl | hb
  ·exact Heap.lt_size (Heap.get?_push_size _ rfl)
  ·obtain rfl:=List.mem_singleton.mp hb
   obtain ⟨_,_,e,_⟩:=pl
   exact Heap.lt_size (Heap.get?_push_of_some _ e)
 ·have hP' : its[i]? = some v:=by simpa using hP
  have hi : i < its.length:=(List.getElem?_eq_some_iff.mp hP').1
  have hb : (bs.map V.int)[i]? = some (V.int (bs[i]'(by omega))):=by rw [List.getElem?_map,List.getElem?_eq_getElem (by omega)]; rfl
  obtain ⟨u,hu,ru⟩:=rv.get hb
  rw [hP'] at hu
  cases hu
  obtain ⟨t,rfl⟩:=ru
  refine ⟨t,?_⟩
  show Value.int _ t = Value.int ((bs[i]?).getD 0) t
  rw [List.getElem?_eq_getElem (by omega)]; rfl
 ·obtain ⟨h',g',d',tk',os'⟩:=s'
  have e1 : g' = s.gens:=hm.gens
  have e2 : d' = s.drawn:=hm.drawn
  have e3 : os' = s.os:=hm.os
  subst e1 e2 e3
  have e : preSum (λi=>(bs[i]?).getD 0) its.toArray.size = bs.sum:=by
   rw [List.size_toArray,hlen,zcT bs _ (Nat.le_refl _),List.take_of_length_le (Nat.le_refl _)]
  rw [e]
  refine ⟨.int _,H,I.kept (t' := tk') λb o q=>?_,⟨_,rfl⟩,q⟩
  exact hm.heap b o (λhb=>by rw [List.mem_singleton.mp hb] at q; exact Nat.lt_irrefl _ (Heap.lt_size q)) (Heap.get?_push_of_some _ q)
def Itr3 (lo c : Int) (n : Nat) : It:=⟨λi _=>i < n,λi H x H' => H' = H /\ x = .int (lo + i * c),λi _=>n <= i⟩
theorem zfF {P : Program} {w : World} {K : PySem.W.Frag} {tg : Expr} (it : Addr) (lo c : Int) (n : Nat) : Turn P w K tg (Itr3 lo c n) [it] it (λi h=>IsRangeIter h it (lo + (i : Nat) * c) ((n : Int) - (i : Nat)) c) where
 mem:=by simp
 obj:=λi h st b hb=>by
  have e : b = it:=by simpa using hb
  subst e
  exact ⟨_,st,λv z=>by
   have z' : Data.fields _ = Data.cell v:=z
   cases z'⟩
 keep:=λi h h' st k=>k it (by simp) _ st
 item:=by
  intro X hP hw hK hc i pins s σ H E I hf st hg
  subst hP hw hK
  obtain ⟨f0,f1,f2,f3,f4,f5⟩:=hf it (by simp)
  have W:=Walks.range (prog:=X.prog) (w:=X.w) (I.ok.hd hc) it lo c n
  refine W.item i s _ _ hg st λv h' tk hv st' kk=>?_
  obtain ⟨t,rfl⟩:=hv
  have I1 : Inv X pins σ H { s with heap:=h',toks:=tk }:=I.turned (λb o hb e=>kk b o (by simpa using hb) e) f0 f1 f3 f4 f5
  exact ⟨_,rfl,ye3 (s:={ s with heap:=h',toks:=tk }) (n := "range_iterator") st' rfl rfl (by decide) ⟨.int (lo + i * c),H,I1,⟨t,rfl⟩,⟨rfl,rfl⟩,st',λb hb=>(hf b hb).1⟩⟩
 done:=by
  intro X hP hw hK hc i pins s σ H E I hf st hg
  subst hP hw hK
  obtain ⟨f0,f1,f2,f3,f4,f5⟩:=hf it (by simp)
  exact wpAny_pyNext_range_end (I.ok.hd hc) st (by have : n <= i:=hg; lia) λh' eb=>⟨rfl,I.turned (t' := s.toks) (λb o hb e=>eb b o hb e) f0 f1 f3 f4 f5⟩
 self:=λ_ _ _ _ _ st h=>wpAny_pyIter_rangeiter st h
theorem zhA {a b c : Int} (hc : 0 < c) : Builtin.Range.rangeSize a b c = (((if a < b then (b - a - 1) / c + 1 else 0 : Int).toNat : Nat) : Int):=by
 unfold Builtin.Range.rangeSize
 rw [if_pos hc]
 split
 ·have : 0 <= (b - a - 1) / c:=Int.ediv_nonneg (by lia) (by lia)
  lia
 ·rfl
theorem zbH {x : Int} (h : x.natAbs < 2 ^ 42) : Builtin.Range.rangeFitsLong x = true:=by
 have h2 : x.natAbs < 4398046511104:=h
 simp only [Builtin.Range.rangeFitsLong,Bool.and_eq_true,decide_eq_true_eq]
 lia
theorem zhB {a b c : Int} (ha : a.natAbs < 2 ^ 40) (hb : b.natAbs < 2 ^ 40) (hc : 0 < c) : (Builtin.Range.rangeSize a b c).natAbs < 2 ^ 42:=by
 have ha2 : a.natAbs < 1099511627776:=ha
 have hb2 : b.natAbs < 1099511627776:=hb
 show _ < 4398046511104
 unfold Builtin.Range.rangeSize
 rw [if_pos hc]
 split
 ·have h1 : 0 <= (b - a - 1) / c:=Int.ediv_nonneg (by lia) (by lia)
  have h2 : (b - a - 1) / c <= b - a - 1:=Int.ediv_le_self _ (by lia)
  generalize (b - a - 1) / c = d at *
  lia
 ·decide
theorem zgT {a b c : Int} (ha : a.natAbs < 2 ^ 40) (hb : b.natAbs < 2 ^ 40) (hc : 0 < c) (hc' : c < 2 ^ 20) : Builtin.Range.small a b c = true:=by
 have l : (2 : Nat) ^ 40 < 2 ^ 42:=by decide
 unfold Builtin.Range.small
 rw [zbH (Nat.lt_trans ha l),zbH (Nat.lt_trans hb l),zbH (x:=c) (by have h2 : c < 1048576:=hc'; show _ < 4398046511104; lia),zbH (zhB ha hb hc),if_pos hc,zbH (x:=b + (c - 1)) (by have h2 : c < 1048576:=hc'; have h3 : b.natAbs < 1099511627776:=hb; show _ < 4398046511104; lia)]
 simp
def yil (ta : TA) : TI:=λσ H R=>ta σ H λvs H1=>∃ i j c : Int,vs = [.int i,.int j,.int c] /\ (i.natAbs < 2 ^ 40 /\ j.natAbs < 2 ^ 40 /\ 0 < c /\ c < 2 ^ 20) /\ R (Itr3 i c (if i < j then (j - i - 1) / c + 1 else 0 : Int).toNat) H1
theorem zhC {pins : List (Addr × Obj)} {σ : St} {H : Hp} {s : Shared} {R : It -> Hp -> Prop} {E : Value -> Shared -> Prop} {lo hi c : Int} {t u v : Tok} {tk : Nat} (I : Inv X pins σ H s) (h1 : lo.natAbs < 2 ^ 40) (h2 : hi.natAbs < 2 ^ 40) (h3 : 0 < c) (h4 : c < 2 ^ 20)
  (q : R (Itr3 lo c (if lo < hi then (hi - lo - 1) / c + 1 else 0 : Int).toNat) H) : wpAny (model X.prog X.w) X.A (pyIter (.ref s.heap.objs.size)) (PIE X pins σ tg R) E { s with heap:=s.heap.push { cls:=.type "range",data:=.fields #[.int lo t,.int hi u,.int c v] },toks:=tk }:=by
 refine wpAny_pyIter_range (IsRange.new ..) (zgT h1 h2 h3 h4) ?_
 have I1 : Inv X pins σ H { s with heap:=s.heap.push { cls:=.type "range",data:=.fields #[.int lo t,.int hi u,.int c v] },toks:=tk }:=I.kept λb o e=>Heap.get?_push_of_some _ e
 refine ⟨(s.heap.push { cls:=.type "range",data:=.fields #[.int lo t,.int hi u,.int c v] }).objs.size,[(s.heap.push { cls:=.type "range",data:=.fields #[.int lo t,.int hi u,.int c v] }).objs.size],_,_,H,rfl,
  I1.kept (t' := tk) λb o e=>Heap.get?_push_of_some _ e,zfF _ lo c (if lo < hi then (hi - lo - 1) / c + 1 else 0 : Int).toNat,?_,λb hb=>?_,q⟩
 ·have e1 : lo + ((0 : Nat) : Int) * c = lo:=by simp
  have e2 : (((if lo < hi then (hi - lo - 1) / c + 1 else 0 : Int).toNat : Nat) : Int) - ((0 : Nat) : Int) = Builtin.Range.rangeSize lo hi c:=by rw [zhA h3]; omega
  show IsRangeIter _ _ (lo + ((0 : Nat) : Int) * c) ((((if lo < hi then (hi - lo - 1) / c + 1 else 0 : Int).toNat : Nat) : Int) - ((0 : Nat) : Int)) c
  rw [e1,e2]
  exact Heap.get?_push_size _ rfl
 ·have e : b = (s.heap.push { cls:=.type "range",data:=.fields #[.int lo t,.int hi u,.int c v] }).objs.size:=by simpa using hb
  subst e
  exact I1.fpOk (Nat.le_refl _) (I1.hok.fresh (Nat.le_refl _))
theorem zhD {a b c : Expr} {ta : TA} {p pos : Pos} (hg : Gl X "range") (hm : X.mg "range" = none) (ha : PA X [a,b,c] ta) (hs : starEach [a,b,c] X.env = [(false,eval a X.env),(false,eval b X.env),(false,eval c X.env)]:=by rfl) (hs2 : starEach [b,c] X.env = [(false,eval b X.env),(false,eval c X.env)]:=by rfl) :
  PI X tg (.Call (.Name "range" p) [a,b,c] [] pos) (yil ta):=by
 intro pins s σ H R I h
 refine Call_ (yeo I hg hm boot_range (PyProof.Rows.callWith_type1 (thn (ha pos pins s σ H _ I h) λus s1 Zz=>?_) (by rw [hs,hs2]) (by rw [hs2]; rfl)));obtain ⟨vs,H1,I1,r1,q1⟩:=Zz
 obtain ⟨i,j,c,e,⟨q1,q2,q3,q4⟩,q⟩:=q1
 subst e
 cases r1 with
 | cons r rr =>
  cases rr with
  | cons r' rr =>
   cases rr with
   | cons r'' rr =>
    cases rr
    obtain ⟨t,rfl⟩:=r
    obtain ⟨t',rfl⟩:=r'
    obtain ⟨t'',rfl⟩:=r''
    exact call_range_3 (by lia) (zhC I1 q1 q2 q3 q4 q) (.inl (PyProof.noPylong_small (by lia)))
end
open PySem.Builtin PySem.Builtin.Str
section
variable {X : Cx}
def cutS (z : Str) (lo hi : Option Int) : Str:=⟨((z.cps.toList.drop (HT.sIx z.cps.toList.length 0 lo)).take (HT.sIx z.cps.toList.length z.cps.toList.length hi - HT.sIx z.cps.toList.length 0 lo)).toArray⟩
theorem zbv (n d : Nat) (i : Int) : max 0 (min (if i < 0 then i + (n : Int) else i) (n : Int)) = ((HT.sIx n d (some i) : Nat) : Int):=by
 show max 0 (min (if i < 0 then i + (n : Int) else i) (n : Int)) = (((if i < 0 then (i + (n : Int)).toNat else min i.toNat n) : Nat) : Int)
 split<;>lia
theorem zbW {a b : Int} {A B : Nat} (ha : a = A) (hb : b = B) : sliceRange a b 1 = (List.range (B - A)).map λk=>A + k:=by
 subst ha hb
 unfold sliceRange
 simp only [show (1 : Int) > 0 by decide,if_true]
 have : (if (A : Int) < (B : Int) then ((B : Int) - A + 1 - 1) / 1 else 0).toNat = B - A:=by
  split<;>(try simp only [Int.ediv_one])<;>lia
 rw [this]
 apply List.map_congr_left
 intro k _
 lia
theorem ziI (xs : List Nat) (i k : Nat) : (List.range k).filterMap (λm=>xs[i + m]?) = (xs.drop i).take k:=by
 induction k generalizing i with
 | zero=>simp
 | succ k ih =>
  rw [List.range_succ_eq_map,List.filterMap_cons,List.filterMap_map]
  have e : ((λm=>xs[i + m]?) ∘ Nat.succ) = λm=>xs[(i + 1) + m]? := by
   funext m; show xs[i + (m + 1)]? = _; congr 1; lia
  rw [e,ih (i + 1)]
  cases h : xs[i]? with
  | none =>
   have hl : xs.length <= i:=List.getElem?_eq_none_iff.mp h
   simp only [Nat.add_zero,h]
   rw [List.drop_of_length_le (by lia),List.drop_of_length_le hl]; simp
  | some v =>
   have hi:=(List.getElem?_eq_some_iff.mp h).1
   simp only [Nat.add_zero,h]
   rw [List.drop_eq_getElem_cons hi,List.take_succ_cons]
   congr 1
   exact (Option.some.inj ((List.getElem?_eq_getElem hi).symm.trans h)).symm
theorem zgU (n : Nat) (lo hi : Option Int) : strSliceIndices lo hi 1 n = (List.range (HT.sIx n n hi - HT.sIx n 0 lo)).map λk=>HT.sIx n 0 lo + k:=by
 cases lo with
 | none =>
  cases hi with
  | none=>exact zbW rfl rfl
  | some j=>exact zbW rfl (zbv n n j)
 | some i =>
  cases hi with
  | none=>exact zbW (zbv n 0 i) rfl
  | some j=>exact zbW (zbv n 0 i) (zbv n n j)
theorem ziJ (z : Str) (lo hi : Option Int) : Txt.slice z lo hi = cutS z lo hi:=by
 have hz : z.length = z.cps.toList.length:=by simp [Str.length]
 unfold Txt.slice cutS
 rw [hz,zgU,List.filterMap_map]
 have e : ((λx=>z.cps[x]?) ∘ λk=>HT.sIx z.cps.toList.length 0 lo + k) = λm=>z.cps.toList[HT.sIx z.cps.toList.length 0 lo + m]? := by
  funext m; simp
 rw [e,ziI]
 split
 ·rename_i hc
  simp only [beq_self_eq_true,Bool.true_and,beq_iff_eq,List.length_map,List.length_range] at hc
  have h1 : HT.sIx z.cps.toList.length z.cps.toList.length hi <= z.cps.toList.length:=HT.sIx_le _ _ (Nat.le_refl _) _
  have h2 : HT.sIx z.cps.toList.length 0 lo = 0 \/ z.cps.toList.length = 0:=by lia
  rw [hc]
  rcases h2 with h2 | h2
  ·rw [h2,List.drop_zero,List.take_of_length_le (Nat.le_refl _)]
  ·have : z.cps.toList = []:=List.eq_nil_of_length_eq_zero h2
   have h3 : z.cps = #[]:=by simpa using this
   simp [h3]
   cases z; simp_all
 ·rfl
theorem zdt {v : Value} {o : Option Int} (p : IsPart v o) : ∃ l : Option (Int × Tok),v = partValue l /\ l.map (·.1) = o:=by
 cases p with
 | none=>exact ⟨none,rfl,rfl⟩
 | int i t=>exact ⟨some (i,t),rfl,rfl⟩
theorem yhc : SlR X (λx lo hi H Q=>∃ z,x = .str z /\ z.length <= sizeLine /\ Q (.str (cutS z lo hi)) H):=by
 intro pins s σ H x v vl vu lo hi sl Q I rx hs pl pu h
 obtain ⟨z,rfl,hz,q⟩:=h
 obtain ⟨t,rfl⟩:=rx
 obtain ⟨l,rfl,rfl⟩:=zdt pl
 obtain ⟨u,rfl,rfl⟩:=zdt pu
 refine ⟨"str",_,F.slot_str_getitem.lookup,typeIs_str _ _ _,?_⟩
 refine wpAny_getItem_str_slice (l:=l) (u:=u) (st:=none) hs rfl ?_
 refine post_val_or_str ⟨Nat.le_trans (Txt.slice_le z (l.map (·.1)) (u.map (·.1))) hz,λt' k=>?_⟩
 have e:=ziJ z (l.map (·.1)) (u.map (·.1))
 refine ⟨.str (cutS z (l.map (·.1)) (u.map (·.1))),H,I.tok _,⟨t',?_⟩,q⟩
 rw [<- e]; rfl
def revS (z : Str) : Str:=⟨z.cps.toList.reverse.toArray⟩
def ygo (r r' r'' : R2) (ta tb tc td : TE) : TE:=λσ H Q=>ta σ H λx H1=>tb σ H1 λy H2=>r x y H2 λz H3=>∃ k,z = .bl k /\
 (if k = true then tc σ H3 λw' H4=>r' y w' H4 λz2 H5=>∃ k2,z2 = .bl k2 /\ (if k2 = true then td σ H5 λv' H6=>r'' w' v' H6 Q else Q (.bl false) H5) else Q (.bl false) H3)
theorem zhE {a b c d : Expr} {ta tb tc td : TE} {pos : Pos} {op op' op'' : CmpOp} {r r' r'' : R2} (ho : OpR X (compareOp op) r) (ho' : OpR X (compareOp op') r') (ho'' : OpR X (compareOp op'') r'') (ha : PE X a ta) (hb : PE X b tb) (hc : PE X c tc) (hd : PE X d td)
  (hm : lastMarks [op,op',op''] [b,c,d] = false:=by with_unfolding_all rfl) : PT X (.Compare a [op,op',op''] [b,c,d] pos) (yfo (ygo r r' r'' ta tb tc td)):=by
 intro pins s σ H Q I h
 refine isTrue_chain (thn (ha pins s σ H _ I h) λv s1 ⟨x,H1,I1,r1,q1⟩=>test_link (thn (hb pins s1 σ H1 _ I1 q1) λu s2 ⟨y,H2,I2,r2,q2⟩ =>
  thn (ho pins s2 σ H2 x y v u _ I2 r1 r2 q2) λd s3 ⟨z,H3,I3,r3,k,e,q3⟩=>?_)) hm
 subst e
 cases r3
 refine wpAny_truthy_bool ?_
 cases k with
 | false =>
  obtain ⟨k',e',q'⟩:=q3
  cases e'
  exact ite_ff ⟨H3,I3,q'⟩
 | true =>
  refine ite_tt (test_link (thn (hc pins s3 σ H3 _ I3 q3) λw' s4 ⟨z',H4,I4,r4,q4⟩=>thn (ho' pins s4 σ H4 y z' u w' _ I4 r2 r4 q4) λd' s5 Zz=>?_));obtain ⟨z2,H5,I5,r5,k2,e2,q5⟩:=Zz
  subst e2
  cases r5
  refine wpAny_truthy_bool ?_
  cases k2 with
  | false =>
   obtain ⟨k',e',q'⟩:=q5
   cases e'
   exact ite_ff ⟨H5,I5,q'⟩
  | true =>
   refine ite_tt (test_last (thn (hd pins s5 σ H5 _ I5 q5) λw2 s6 ⟨z3,H6,I6,r6,q6⟩=>thn (ho'' pins s6 σ H6 z' z3 w' w2 _ I6 r4 r6 q6) λd2 s7 Zz=>?_));obtain ⟨z4,H7,I7,r7,k3,e3,q7⟩:=Zz
   subst e3
   cases r7
   exact wpAny_truthy_bool ⟨H7,I7,q7⟩
def repS (z : Str) (n : Nat) : Str:=⟨((List.replicate n z.cps.toList).flatten).toArray⟩
theorem zjF {z : Str} {n : Int} (h2 : 2 <= n) (hz : 1 <= z.length) : Txt.mul z n = repS z n.toNat:=by
 unfold Txt.mul repS
 rw [if_neg (by lia),if_neg (by simp; lia)]
 have:=zht (List.replicate n.toNat z.cps) #[]
 rw [List.map_replicate] at this
 have e : (List.replicate n.toNat z.cps).foldl (· ++ ·) #[] = ((List.replicate n.toNat z.cps.toList).flatten).toArray:=by
  apply Array.toList_inj.mp
  rw [this]; simp
 rw [e]
end
open PySem.Builtin PySem.Builtin.Str
section
variable {X : Cx}
theorem ziK (z : Str) (n : Int) : Txt.mul z n = repS z n.toNat:=by
 by_cases h2 : 2 <= n /\ 1 <= z.length
 ·exact zjF h2.1 h2.2
 ·unfold Txt.mul
  by_cases h1 : n < 1
  ·rw [if_pos h1,show n.toNat = 0 by lia]; rfl
  ·rw [if_neg h1,if_pos (by simp; lia)]
   by_cases hz : z.length = 0
   ·have e : z.cps.toList = []:=List.length_eq_zero_iff.mp (by simpa [Str.length] using hz)
    cases z
    simp only [repS,Str.mk.injEq] at *
    rw [e]
    apply Array.toList_inj.mp
    simp [e]
   ·rw [show n.toNat = 1 by lia]
    cases z
    simp [repS]
theorem zgV : OpR X (binaryOp .Mult) (λx y H Q=>∃ z n,x = .str z /\ y = .int n /\ n.natAbs < 2 ^ 40 /\ z.length * n.toNat <= 1000000 /\ Q (.str (repS z n.toNat)) H):=by
 intro pins s σ H x y v u Q I rx ry h
 obtain ⟨z,n,rfl,rfl,hb,hl,q⟩:=h
 obtain ⟨t,rfl⟩:=rx
 obtain ⟨t',rfl⟩:=ry
 have hb2 : n.natAbs < 1099511627776:=hb
 refine SB.mul ⟨?_,λh1 _=>?_,λ_ _=>?_⟩ λt2 k=>⟨.str (repS z n.toNat),H,I.tok _,⟨t2,by rw [ziK]⟩,q⟩
 ·simp; lia
 ·intro hc
  have n0 : (n : Int) = (n.toNat : Int):=by lia
  have h1 : n * (z.length : Int) <= 1000000:=by
   rw [n0,<- Int.natCast_mul,Nat.mul_comm]; exact Int.ofNat_le.mpr hl
  have h3 : (2 ^ 63 - 1 : Int) / n < z.length:=hc
  have h4 : (2 ^ 63 - 1 : Int) < z.length * n:=Int.lt_mul_of_ediv_lt (by lia) h3
  rw [Int.mul_comm] at h4
  have : (9223372036854775807 : Int) < n * z.length:=h4
  lia
 ·exact decide_eq_false (Nat.not_lt.mpr (Nat.le_trans hl (by decide)))
end
section
variable {prog : Program} {w : World} {A : Around} {E : Value -> Shared -> Prop} {s : Shared}
end
section
variable {X : Cx} {pos : Pos}
end
end L2
namespace Sm
open PySem L2
theorem E6x {α β γ:Type} {p q r:α->β->γ->Prop} {R:Prop} (h:∀ a b c,p a b c->q a b c->r a b c->R):(∃ a b c,p a b c/\q a b c/\r a b c)->R:=λ⟨a,b,c,x,y,z⟩=>h a b c x y z
inductive AV where
 | non | bl (b : Bool) | int (i : Int) | str (x : Str)
 | tup (xs : List AV)
 | fl (xs : List AV)
 | ref (n : Nat)
 | exc (c : Nat)
 deriving Inhabited
inductive AO where
 | lst (xs : List AV)
 | dct (t : Bool) (kvs : List (AV × AV))
 | dcx (kvs : List (AV × AV))
 | ins (c : Nat) (fs : List (Option AV))
abbrev AH:=List AO
abbrev En:=List (Option AV)
inductive Out (α : Type) where
 | ok (a : α) (h : AH)
 | ex (c : Nat) (h : AH)
 | bad
@[simp] def Out.bind {α β : Type} (o : Out α) (f : α -> AH -> Out β) : Out β :=
 match o with
 | .ok a h=>f a h
 | .ex c h=>.ex c h
 | .bad=>.bad
inductive OutS where
 | nx (e : En) (h : AH)
 | rt (v : AV) (h : AH)
 | bk (e : En) (h : AH)
 | ct (e : En) (h : AH)
 | ex (c : Nat) (e : En) (h : AH)
 | bad
abbrev SE:=En -> AH -> Out AV
abbrev SB:=En -> AH -> Out Bool
abbrev SL:=En -> AH -> Out (List AV)
abbrev SS:=En -> AH -> OutS
abbrev Fn:=List AV -> AH -> Out AV
@[simp] def Out.go {α : Type} (o : Out α) (e : En) (f : α -> AH -> OutS) : OutS :=
 match o with
 | .ok a h=>f a h
 | .ex c h=>.ex c e h
 | .bad=>.bad
structure Tb where
 K : PySem.W.Frag
 cls : Nat -> Option Addr
 exc : Nat -> Option Addr
 fields : Nat -> List Str
 nd : ∀ c,(fields c).Nodup
 few : ∀ c,(fields c).length <= 500
def KL (K : PySem.W.Frag) (a : Addr) (xs : List V) : Prop:=∃ (o : Obj) (its : Array Value) (n : Nat),K.lookup a = some o /\ o.cls = .type "list" /\ o.dict = none /\ o.data = .seq its n /\ its.size <= sizeLine /\ Vals xs its.toList
structure Ix where
 refs : List Addr
 priv : List Addr
def Ix.all (ι : Ix) : List Addr:=ι.refs++ι.priv
def yim (c : Nat) : Int:=((c / 64 : Nat) : Int) - 1
def XdOk (ι : Ix) (H : Hp) (c : Nat) (dx : Option Addr) : Prop:=64 <= c -> ∃ d,dx = some d /\ d ∉ ι.all /\ H d = some (.xd [("row",.int (yim c))])
def ExR (T : Tb) (ι : Ix) (H : Hp) (c : Nat) (C : Addr × Option Addr) : Prop:=T.exc c = some C.1 /\ XdOk ι H c C.2
theorem zjG {ι : Ix} {H : Hp} {c : Nat} {dx : Option Addr} (h : c < 64) : XdOk ι H c dx:=λz=>absurd h (Nat.not_lt_of_le z)
mutual
inductive RV (T : Tb) (ι : Ix) (H : Hp) : AV -> V -> Prop
 | non : RV T ι H .non .non
 | bl (b : Bool) : RV T ι H (.bl b) (.bl b)
 | int (i : Int) : RV T ι H (.int i) (.int i)
 | str {x : Str} (n : x.length <= sizeLine) (o : x.cps.all (· < 0x110000) = true) : RV T ι H (.str x) (.str x)
 | tup {xs : List AV} {us : List V} {a : Addr} (n : a ∉ ι.all) (h : H a = some (.tup us)) (r : RVs T ι H xs us) : RV T ι H (.tup xs) (.ref a)
 | fl {xs : List AV} {us : List V} {a : Addr} (n : a ∉ ι.all) (h : Rd H a (.lst us)) (r : RVs T ι H xs us) : RV T ι H (.fl xs) (.ref a)
 | kfl {xs : List AV} {us : List V} {a : Addr} (h : KL T.K a us) (r : RVs T ι H xs us) : RV T ι H (.fl xs) (.ref a)
 | ref {k : Nat} {a : Addr} (h : ι.refs[k]? = some a) : RV T ι H (.ref k) (.ref a)
 | exc {c : Nat} {C : Addr × Option Addr} {a : Addr} (n : a ∉ ι.all) (h : ExR T ι H c C) (q : H a = some (excO a (.ref C.1) C.2)) : RV T ι H (.exc c) (.ref a)
inductive RVs (T : Tb) (ι : Ix) (H : Hp) : List AV -> List V -> Prop
 | nil : RVs T ι H [] []
 | cons {x : AV} {u : V} {xs : List AV} {us : List V} (r : RV T ι H x u) (rs : RVs T ι H xs us) : RVs T ι H (x :: xs) (u :: us)
end
structure Grow (ι : Ix) (H : Hp) (ι' : Ix) (H' : Hp) : Prop where
 pre : ∃ n,ι'.refs = ι.refs++n /\ ∀ a ∈ n,H a = none
 priv : ι'.priv = ι.priv
 keep : ∀ a o,a ∉ ι.refs -> H a = some o -> H' a = some o
 live : ∀ a ∈ ι.all,H' a ≠ none
theorem ze7 : ∀ {l : List Addr} {i j : Nat} {a : Addr},l.Nodup -> l[i]? = some a -> l[j]? = some a -> i = j
 | [],_,_,_,_,e,_=>by simp at e
 | x :: l,0,0,_,_,_,_=>rfl
 | x :: l,0,j + 1,a,n,e,f=>by
  simp at e f; subst e
  exact absurd (List.mem_of_getElem? f) (List.nodup_cons.mp n).1
 | x :: l,i + 1,0,a,n,e,f=>by
  simp at e f; subst f
  exact absurd (List.mem_of_getElem? e) (List.nodup_cons.mp n).1
 | x :: l,i + 1,j + 1,a,n,e,f=>by
  simp at e f
  rw [ze7 (List.nodup_cons.mp n).2 e f]
theorem Ix.nr {ι : Ix} {a : Addr} (h : a ∉ ι.all) : a ∉ ι.refs:=λz=>h (List.mem_append_left _ z)
theorem Ix.np {ι : Ix} {a : Addr} (h : a ∉ ι.all) : a ∉ ι.priv:=λz=>h (List.mem_append_right _ z)
theorem Grow.refl {ι : Ix} {H : Hp} (l : ∀ a ∈ ι.all,H a ≠ none) : Grow ι H ι H:=⟨⟨[],by simp,by simp⟩,rfl,λ_ _ _ e=>e,l⟩
theorem Grow.at {ι ι' : Ix} {H H' : Hp} (g : Grow ι H ι' H') {k : Nat} {a : Addr} (h : ι.refs[k]? = some a) : ι'.refs[k]? = some a:=by
 obtain ⟨n,e,_⟩:=g.pre
 rw [e,List.getElem?_append_left (List.getElem?_eq_some_iff.mp h).1]
 exact h
theorem Grow.outR {ι ι' : Ix} {H H' : Hp} (g : Grow ι H ι' H') {a : Addr} {o : HO} (n : a ∉ ι.refs) (e : H a = some o) : a ∉ ι'.refs:=λz=>by
 obtain ⟨m,e',hm⟩:=g.pre
 rw [e'] at z
 rcases List.mem_append.mp z with z | z
 ·exact n z
 ·rw [hm a z] at e; cases e
theorem Grow.out {ι ι' : Ix} {H H' : Hp} (g : Grow ι H ι' H') {a : Addr} {o : HO} (n : a ∉ ι.all) (e : H a = some o) : a ∉ ι'.all:=λz=>by
 rcases List.mem_append.mp z with z | z
 ·exact g.outR (Ix.nr n) e z
 ·rw [g.priv] at z; exact Ix.np n z
theorem Grow.trans {ι ι' ι'' : Ix} {H H' H'' : Hp} (g : Grow ι H ι' H') (k : Grow ι' H' ι'' H'') : Grow ι H ι'' H'' := by
 obtain ⟨n,e1,hn⟩:=g.pre
 obtain ⟨m,e2,hm⟩:=k.pre
 refine ⟨⟨n++m,by rw [e2,e1]; simp,λa ha=>?_⟩,k.priv.trans g.priv,λa o na e=>k.keep a o (g.outR na e) (g.keep a o na e),λa ha=>k.live a ?_⟩
 ·rcases List.mem_append.mp ha with z | z
  ·exact hn a z
  ·have q:=hm a z
   by_cases hi : a ∈ ι.refs
   ·exact absurd q (g.live a (List.mem_append_left _ hi))
   ·cases e : H a with
    | none=>rfl
    | some o=>rw [g.keep a o hi e] at q; cases q
 ·rcases List.mem_append.mp ha with z | z
  ·exact List.mem_append_left _ (by rw [e1]; exact List.mem_append_left _ z)
  ·exact List.mem_append_right _ (by rw [g.priv]; exact z)
structure Ext (ι : Ix) (H : Hp) (ι' : Ix) (H' : Hp) : Prop where
 at_ : ∀ {k : Nat} {a : Addr},ι.refs[k]? = some a -> ι'.refs[k]? = some a
 keep : ∀ a o,a ∉ ι.all -> H a = some o -> H' a = some o
 out : ∀ a o,a ∉ ι.all -> H a = some o -> a ∉ ι'.all
theorem Grow.ext {ι ι' : Ix} {H H' : Hp} (g : Grow ι H ι' H') : Ext ι H ι' H' := ⟨g.at,λa o n e=>g.keep a o (Ix.nr n) e,λa o n e=>g.out n e⟩
theorem Ext.trans {ι ι' ι'' : Ix} {H H' H'' : Hp} (g : Ext ι H ι' H') (k : Ext ι' H' ι'' H'') : Ext ι H ι'' H'' :=
 ⟨λe=>k.at_ (g.at_ e),λa o n e=>k.keep a o (g.out a o n e) (g.keep a o n e),λa o n e=>k.out a o (g.out a o n e) (g.keep a o n e)⟩
theorem XdOk.ext {ι ι' : Ix} {H H' : Hp} {c : Nat} {dx : Option Addr} (x : XdOk ι H c dx) (g : Ext ι H ι' H') : XdOk ι' H' c dx:=λz=>by
 obtain ⟨d,e,n,q⟩:=x z
 exact ⟨d,e,g.out _ _ n q,g.keep _ _ n q⟩
theorem zga {ι ι' : Ix} {H H' : Hp} (g : Ext ι H ι' H') {a : Addr} {u : HO} (n : a ∉ ι.all) (r : Rd H a u) : Rd H' a u:=by
 rcases r with r | ⟨o,r⟩
 ·exact .inl (g.keep a _ n r)
 ·exact .inr ⟨o,g.keep a _ n r⟩
theorem yhd {ι ι' : Ix} {H H' : Hp} (g : Ext ι H ι' H') {a : Addr} {u : HO} (n : a ∉ ι.all) (r : Rd H a u) : a ∉ ι'.all:=by
 rcases r with r | ⟨o,r⟩
 ·exact g.out _ _ n r
 ·exact g.out _ _ n r
mutual
theorem RV.ext {T : Tb} {ι ι' : Ix} {H H' : Hp} (g : Ext ι H ι' H') : ∀ {x : AV} {u : V},RV T ι H x u -> RV T ι' H' x u
 | _,_,.non=>.non
 | _,_,.bl b=>.bl b
 | _,_,.int i=>.int i
 | _,_,.str n o=>.str n o
 | _,_,.tup n h r=>.tup (g.out _ _ n h) (g.keep _ _ n h) (RVs.ext g r)
 | _,_,.fl n h r=>.fl (yhd g n h) (zga g n h) (RVs.ext g r)
 | _,_,.kfl h r=>.kfl h (RVs.ext g r)
 | _,_,.ref h=>.ref (g.at_ h)
 | _,_,.exc n h q=>.exc (g.out _ _ n q) ⟨h.1,h.2.ext g⟩ (g.keep _ _ n q)
theorem RVs.ext {T : Tb} {ι ι' : Ix} {H H' : Hp} (g : Ext ι H ι' H') : ∀ {xs : List AV} {us : List V},RVs T ι H xs us -> RVs T ι' H' xs us
 | _,_,.nil=>.nil
 | _,_,.cons r rs=>.cons (RV.ext g r) (RVs.ext g rs)
end
theorem RV.mono {T : Tb} {ι ι' : Ix} {H H' : Hp} (g : Grow ι H ι' H') {x : AV} {u : V} (r : RV T ι H x u) : RV T ι' H' x u:=r.ext g.ext
theorem RVs.mono {T : Tb} {ι ι' : Ix} {H H' : Hp} (g : Grow ι H ι' H') {xs : List AV} {us : List V} (r : RVs T ι H xs us) : RVs T ι' H' xs us:=r.ext g.ext
section
variable {T : Tb} {ι : Ix} {H : Hp}
theorem RVs.length : ∀ {xs : List AV} {us : List V},RVs T ι H xs us -> xs.length = us.length
 | _,_,.nil=>rfl
 | _,_,.cons _ rs=>by simp [RVs.length rs]
theorem RVs.get : ∀ {xs : List AV} {us : List V} {i : Nat} {x : AV},RVs T ι H xs us -> xs[i]? = some x -> ∃ u,us[i]? = some u /\ RV T ι H x u
 | _,_,_,_,.nil,e=>by simp at e
 | _,_,0,_,.cons r _,e=>by simp at e; subst e; exact ⟨_,rfl,r⟩
 | _,_,i + 1,x,.cons _ t,e=>by
  obtain ⟨u,h1,h2⟩:=RVs.get (i:=i) (x:=x) t (by simpa using e)
  exact ⟨u,by simpa using h1,h2⟩
theorem RVs.append : ∀ {xs ys : List AV} {us ws : List V},RVs T ι H xs us -> RVs T ι H ys ws -> RVs T ι H (xs++ys) (us++ws)
 | _,_,_,_,.nil,s=>s
 | _,_,_,_,.cons r t,s=>.cons r (RVs.append t s)
theorem RVs.set {x : AV} {u : V} (r : RV T ι H x u) : ∀ {xs : List AV} {us : List V} (i : Nat),RVs T ι H xs us -> RVs T ι H (xs.set i x) (us.set i u)
 | _,_,_,.nil=>.nil
 | _,_,0,.cons _ t=>.cons r t
 | _,_,i + 1,.cons q t=>.cons q (RVs.set r i t)
theorem RVs.take : ∀ {xs : List AV} {us : List V} (n : Nat),RVs T ι H xs us -> RVs T ι H (xs.take n) (us.take n)
 | _,_,0,_=>by simpa using RVs.nil
 | _,_,_ + 1,.nil=>.nil
 | _,_,n + 1,.cons r t=>.cons r (RVs.take n t)
theorem RVs.drop : ∀ {xs : List AV} {us : List V} (n : Nat),RVs T ι H xs us -> RVs T ι H (xs.drop n) (us.drop n)
 | _,_,0,r=>r
 | _,_,_ + 1,.nil=>.nil
 | _,_,n + 1,.cons _ t=>RVs.drop n t
end
def kA : Key -> AV
 | .inl i=>.int i
 | .inr x=>.str x
def OR (T : Tb) (ι : Ix) (H : Hp) : AO -> HO -> Prop
 | .lst xs,o=>∃ us,o = .lst us /\ RVs T ι H xs us
 | .dct false kvs,o=>∃ kus : List (Key × V),o = .dK kus /\ Paired (λ(p : AV × AV) (q : Key × V)=>p.1 = kA q.1 /\ RV T ι H p.2 q.2) kvs kus
 | .dct true kvs,o=>∃ kus : List (List Key × V),o = .dT none kus /\ Paired (λ(p : AV × AV) (q : List Key × V)=>p.1 = .tup (q.1.map kA) /\ RV T ι H p.2 q.2) kvs kus
 | .dcx kvs,o=>∃ (ads : List Addr) (kus : List (List Key × V)),o = .dT (some ads) kus /\ ads.length = kus.length /\ Paired (λ(p : AV × AV) (q : Addr × List Key × V)=>p.1 = .tup (q.2.1.map kA) /\ RV T ι H p.1 (.ref q.1) /\ RV T ι H p.2 q.2.2) kvs (ads.zip kus)
 | .ins c fs,o=>∃ C dx fus,T.cls c = some C /\ o = .ins C dx fus /\ (fus.map (·.1)).Nodup /\ (∀ p ∈ fus,p.1 ∈ T.fields c) /\ fs.length = (T.fields c).length /\
   ∀ (i : Nat) (v : AV),fs[i]? = some (some v) -> ∃ f u,(T.fields c)[i]? = some f /\ fus.lookup f = some u /\ RV T ι H v u
theorem OR.mono {T : Tb} {ι ι' : Ix} {H H' : Hp} (g : Grow ι H ι' H') {o : AO} {u : HO} (h : OR T ι H o u) : OR T ι' H' o u:=by
 cases o with
 | lst xs=>obtain ⟨us,e,r⟩:=h; exact ⟨us,e,r.mono g⟩
 | dct t kvs =>
  cases t with
  | false=>obtain ⟨us,e,r⟩:=h; exact ⟨us,e,Paired.mapP r λ_ _ ⟨a,b⟩=>⟨a,b.mono g⟩⟩
  | true=>obtain ⟨us,e,r⟩:=h; exact ⟨us,e,Paired.mapP r λ_ _ ⟨a,b⟩=>⟨a,b.mono g⟩⟩
 | dcx kvs=>obtain ⟨ads,us,e,l,r⟩:=h; exact ⟨ads,us,e,l,Paired.mapP r λ_ _ ⟨a,b,c⟩=>⟨a,b.mono g,c.mono g⟩⟩
 | ins c fs =>
  obtain ⟨C,dx,fus,a,b,n,w,l,r⟩:=h
  refine ⟨C,dx,fus,a,b,n,w,l,λi v e=>?_⟩
  obtain ⟨f,u,e1,e2,q⟩:=r i v e
  exact ⟨f,u,e1,e2,q.mono g⟩
structure Sim (T : Tb) (ι : Ix) (h : AH) (H : Hp) : Prop where
 len : ι.refs.length = h.length
 nd : ι.refs.Nodup
 plive : ∀ a ∈ ι.priv,H a ≠ none
 obj : ∀ (i : Nat) (o : AO) (a : Addr),h[i]? = some o -> ι.refs[i]? = some a -> ∃ u,H a = some u /\ OR T ι H o u
section
variable {T : Tb} {ι : Ix} {h : AH} {H : Hp}
theorem Sim.live (S : Sim T ι h H) : ∀ a ∈ ι.all,H a ≠ none:=λa ha z=>by
 rcases List.mem_append.mp ha with ha | ha
 ·obtain ⟨i,hi⟩:=List.mem_iff_getElem?.mp ha
  have hl : i < h.length:=by rw [<- S.len]; exact (List.getElem?_eq_some_iff.mp hi).1
  obtain ⟨u,e,_⟩:=S.obj i h[i] a (by simp [hl]) hi
  rw [z] at e; cases e
 ·exact S.plive a ha z
theorem Sim.refl (S : Sim T ι h H) : Grow ι H ι H:=.refl S.live
theorem Sim.fresh (S : Sim T ι h H) {p : Addr} (n : H p = none) : p ∉ ι.all:=λz=>S.live p z n
theorem Sim.still (S : Sim T ι h H) {H' : Hp} (g : Grow ι H ι H') (k : ∀ a ∈ ι.refs,H' a = H a) : Sim T ι h H' :=
 ⟨S.len,S.nd,λa ha=>g.live a (List.mem_append_right _ ha),λi o a e1 e2=>by
  obtain ⟨u,e,r⟩:=S.obj i o a e1 e2
  exact ⟨u,by rw [k a (List.mem_of_getElem? e2)]; exact e,r.mono g⟩⟩
theorem Sim.growNew (S : Sim T ι h H) {p : Addr} {o : HO} (n : H p = none) : Grow ι H ι (upd H p o) :=
 ⟨⟨[],by simp,by simp⟩,rfl,λa u _ e=>by rw [yaw (zan e n)]; exact e,λa ha=>by
  rw [yaw (show a ≠ p from λz=>S.fresh n (z ▸ ha))]; exact S.live a ha⟩
theorem Sim.new (S : Sim T ι h H) {p : Addr} {o : HO} (n : H p = none) : Sim T ι h (upd H p o) :=
 S.still (S.growNew n) λa ha=>yaw λz=>S.fresh n (z ▸ List.mem_append_left _ ha)
def Ix.add (ι : Ix) (p : Addr) : Ix:=⟨ι.refs++[p],ι.priv⟩
theorem Sim.growAdd (S : Sim T ι h H) {p : Addr} {u : HO} (n : H p = none) : Grow ι H (ι.add p) (upd H p u) :=
 ⟨⟨[p],rfl,λa ha=>by have e : a = p:=(by simpa using ha); rw [e]; exact n⟩,rfl,(S.growNew n).keep,(S.growNew n).live⟩
theorem Sim.add (S : Sim T ι h H) {p : Addr} {u : HO} {o : AO} (n : H p = none) (r : OR T (ι.add p) (upd H p u) o u) : Sim T (ι.add p) (h++[o]) (upd H p u):=by
 refine ⟨by simp [Ix.add,S.len],?_,λa ha=>(S.growNew n).live a (List.mem_append_right _ ha),λi o' a e1 e2=>?_⟩
 ·show (ι.refs++[p]).Nodup
  rw [List.nodup_append]
  exact ⟨S.nd,by simp,λa ha b hb z=>by have e : b = p:=(by simpa using hb); subst e; subst z; exact S.fresh n (List.mem_append_left _ ha)⟩
 ·replace e2 : (ι.refs++[p])[i]? = some a:=e2
  by_cases hi : i < h.length
  ·rw [List.getElem?_append_left hi] at e1
   rw [List.getElem?_append_left (by rw [S.len]; exact hi)] at e2
   obtain ⟨v,e,q⟩:=S.obj i o' a e1 e2
   exact ⟨v,by rw [yaw (zan e n)]; exact e,q.mono (S.growAdd n)⟩
  ·have e3 : i = h.length:=by
    have:=(List.getElem?_eq_some_iff.mp e1).1
    simp at this; lia
   subst e3
   rw [List.getElem?_append_right (Nat.le_refl _)] at e1
   rw [List.getElem?_append_right (by rw [S.len]; exact Nat.le_refl _),S.len] at e2
   simp at e1 e2
   subst e1 e2
   exact ⟨u,zaq,r⟩
theorem Sim.addAt (S : Sim T ι h H) {p : Addr} : (ι.add p).refs[h.length]? = some p:=by
 show (ι.refs++[p])[h.length]? = some p
 rw [<- S.len]; simp
theorem Sim.growSet (S : Sim T ι h H) {i : Nat} {a : Addr} {u : HO} (e : ι.refs[i]? = some a) : Grow ι H ι (upd H a u) :=
 ⟨⟨[],by simp,by simp⟩,rfl,λb o nb q=>by rw [yaw (show b ≠ a from λz=>nb (by rw [z]; exact List.mem_of_getElem? e))]; exact q,λb hb=>by
  by_cases z : b = a
  ·subst z; rw [zaq]; simp
  ·rw [yaw z]; exact S.live b hb⟩
theorem Sim.set (S : Sim T ι h H) {i : Nat} {a : Addr} {u : HO} {o : AO} (e : ι.refs[i]? = some a) (r : OR T ι (upd H a u) o u) : Sim T ι (h.set i o) (upd H a u):=by
 refine ⟨by simp [S.len],S.nd,λb hb=>(S.growSet e).live b (List.mem_append_right _ hb),λj o' b e1 e2=>?_⟩
 by_cases hj : j = i
 ·subst hj
  rw [e] at e2; cases e2
  have hl : j < h.length:=by rw [<- S.len]; exact (List.getElem?_eq_some_iff.mp e).1
  rw [List.getElem?_set_self hl] at e1; cases e1
  exact ⟨u,zaq,r⟩
 ·rw [List.getElem?_set_ne (Ne.symm hj)] at e1
  obtain ⟨v,q,r'⟩:=S.obj j o' b e1 e2
  have ne : b ≠ a:=λz=>hj (by
   subst z
   exact ze7 S.nd e2 e)
  exact ⟨v,by rw [yaw ne]; exact q,r'.mono (S.growSet e)⟩
end
def Ix.hide (ι : Ix) (D : Addr) : Ix:=⟨ι.refs,D :: ι.priv⟩
theorem Ix.hide_all {ι : Ix} {D a : Addr} : a ∉ (ι.hide D).all ↔ a ∉ ι.all /\ a ≠ D:=by
 unfold Ix.all Ix.hide
 simp only [List.mem_append,List.mem_cons]
 constructor
 ·intro h; exact ⟨λz=>h (z.elim .inl λz=>.inr (.inr z)),λz=>h (.inr (.inl z))⟩
 ·rintro ⟨h1,h2⟩ (z | z | z)
  ·exact h1 (.inl z)
  ·exact h2 z
  ·exact h1 (.inr z)
section
variable {T : Tb} {ι : Ix} {H : Hp} {D : Addr}
theorem Ext.hide {o : HO} (hn : H D = none) : Ext ι H (ι.hide D) (upd H D o):=⟨λe=>e,λa u n e=>by rw [yaw (zan e hn)]; exact e,λa u n e=>Ix.hide_all.mpr ⟨n,zan e hn⟩⟩
theorem Ext.poke {o : HO} : Ext (ι.hide D) H (ι.hide D) (upd H D o):=⟨λe=>e,λa u n e=>by rw [yaw (Ix.hide_all.mp n).2]; exact e,λa u n e=>n⟩
theorem Ext.show : Ext (ι.hide D) H ι H:=⟨λe=>e,λa u n e=>e,λa u n e=>(Ix.hide_all.mp n).1⟩
theorem OR.ext {ι ι' : Ix} {H H' : Hp} (g : Ext ι H ι' H') {o : AO} {u : HO} (h : OR T ι H o u) : OR T ι' H' o u:=by
 cases o with
 | lst xs=>obtain ⟨us,e,r⟩:=h; exact ⟨us,e,r.ext g⟩
 | dct t kvs =>
  cases t with
  | false=>obtain ⟨us,e,r⟩:=h; exact ⟨us,e,Paired.mapP r λ_ _ ⟨a,b⟩=>⟨a,b.ext g⟩⟩
  | true=>obtain ⟨us,e,r⟩:=h; exact ⟨us,e,Paired.mapP r λ_ _ ⟨a,b⟩=>⟨a,b.ext g⟩⟩
 | dcx kvs=>obtain ⟨ads,us,e,l,r⟩:=h; exact ⟨ads,us,e,l,Paired.mapP r λ_ _ ⟨a,b,c⟩=>⟨a,b.ext g,c.ext g⟩⟩
 | ins c fs =>
  obtain ⟨C,dx,fus,a,b,n,w,l,r⟩:=h
  refine ⟨C,dx,fus,a,b,n,w,l,λi v e=>?_⟩
  obtain ⟨f,u,e1,e2,q⟩:=r i v e
  exact ⟨f,u,e1,e2,q.ext g⟩
theorem Sim.hide {h : AH} {o : HO} (S : Sim T ι h H) (hn : H D = none) : Sim T (ι.hide D) h (upd H D o) :=
 ⟨S.len,S.nd,λa ha=>by
  rcases List.mem_cons.mp ha with rfl | ha
  ·rw [zaq]; simp
  ·rw [yaw (show a ≠ D from λz=>S.plive a ha (z ▸ hn))]; exact S.plive a ha,λi o' a e1 e2=>by
  obtain ⟨u,e,r⟩:=S.obj i o' a e1 e2
  exact ⟨u,by rw [yaw (zan e hn)]; exact e,r.ext (Ext.hide hn)⟩⟩
theorem Sim.poke {h : AH} {o : HO} (S : Sim T (ι.hide D) h H) (hr : D ∉ ι.refs) : Sim T (ι.hide D) h (upd H D o) :=
 ⟨S.len,S.nd,λa ha=>by
  by_cases z : a = D
  ·subst z; rw [zaq]; simp
  ·rw [yaw z]; exact S.plive a ha,λi o' a e1 e2=>by
  obtain ⟨u,e,r⟩:=S.obj i o' a e1 e2
  have ne : a ≠ D:=λz=>hr (z ▸ List.mem_of_getElem? e2)
  exact ⟨u,by rw [yaw ne]; exact e,r.ext Ext.poke⟩⟩
theorem Sim.show {h : AH} (S : Sim T (ι.hide D) h H) : Sim T ι h H :=
 ⟨S.len,S.nd,λa ha=>S.plive a (List.mem_cons_of_mem _ ha),λi o' a e1 e2=>by
  obtain ⟨u,e,r⟩:=S.obj i o' a e1 e2
  exact ⟨u,e,r.ext Ext.show⟩⟩
end
def ER (T : Tb) (ι : Ix) (H : Hp) (e : En) (σ : St) : Prop:=e.length = σ.length /\ ∀ (i : Nat) (v : AV),e[i]? = some (some v) -> ∃ u,σ[i]? = some (some u) /\ RV T ι H v u
theorem ER.mono {T : Tb} {ι ι' : Ix} {H H' : Hp} {e : En} {σ : St} (r : ER T ι H e σ) (g : Grow ι H ι' H') : ER T ι' H' e σ :=
 ⟨r.1,λi v q=>let ⟨u,a,b⟩:=r.2 i v q; ⟨u,a,b.mono g⟩⟩
theorem ER.ext {T : Tb} {ι ι' : Ix} {H H' : Hp} {e : En} {σ : St} (r : ER T ι H e σ) (g : Ext ι H ι' H') : ER T ι' H' e σ :=
 ⟨r.1,λi v q=>let ⟨u,a,b⟩:=r.2 i v q; ⟨u,a,b.ext g⟩⟩
theorem ER.set {T : Tb} {ι : Ix} {H : Hp} {e : En} {σ : St} (r : ER T ι H e σ) {v : AV} {u : V} (q : RV T ι H v u) (i : Nat) : ER T ι H (e.set i (some v)) (σ.set i (some u)):=by
 refine ⟨by simp [r.1],λj w z=>?_⟩
 by_cases hj : j = i
 ·subst hj
  by_cases hl : j < e.length
  ·rw [List.getElem?_set_self hl] at z; cases z
   exact ⟨u,by rw [List.getElem?_set_self (by rw [<- r.1]; exact hl)],q⟩
  ·rw [List.getElem?_eq_none (by simpa using hl)] at z; cases z
 ·rw [List.getElem?_set_ne (Ne.symm hj)] at z ⊢
  exact r.2 j w z
theorem ER.unset {T : Tb} {ι : Ix} {H : Hp} {e : En} {σ : St} (r : ER T ι H e σ) (i : Nat) : ER T ι H (e.set i none) (σ.set i none):=by
 refine ⟨by simp [r.1],λj w z=>?_⟩
 by_cases hj : j = i
 ·subst hj
  by_cases hl : j < e.length
  ·rw [List.getElem?_set_self hl] at z; cases z
  ·rw [List.getElem?_eq_none (by simpa using hl)] at z; cases z
 ·rw [List.getElem?_set_ne (Ne.symm hj)] at z ⊢
  exact r.2 j w z
def Post {α β : Type} (T : Tb) (ι : Ix) (H : Hp) (E : XK) (R : Ix -> Hp -> α -> β -> Prop) (o : Out α) (Q : β -> Hp -> Prop) : Prop :=
 match o with
 | .ok v h' => ∀ ι' H' u,Grow ι H ι' H' -> Sim T ι' h' H' -> R ι' H' v u -> Q u H'
 | .ex c h' => ∀ ι' H' C,Grow ι H ι' H' -> Sim T ι' h' H' -> ExR T ι' H' c C -> E (.ref C.1) C.2 H'
 | .bad=>False
def PostS (T : Tb) (ι : Ix) (H : Hp) (E : St -> XK) (o : OutS) (D : Ends) : Prop :=
 match o with
 | .nx e h' => ∀ ι' H' σ',Grow ι H ι' H' -> Sim T ι' h' H' -> ER T ι' H' e σ' -> D.nx σ' H'
 | .bk e h' => ∀ ι' H' σ',Grow ι H ι' H' -> Sim T ι' h' H' -> ER T ι' H' e σ' -> D.bk σ' H'
 | .ct e h' => ∀ ι' H' σ',Grow ι H ι' H' -> Sim T ι' h' H' -> ER T ι' H' e σ' -> D.ct σ' H'
 | .rt v h' => ∀ ι' H' u,Grow ι H ι' H' -> Sim T ι' h' H' -> RV T ι' H' v u -> D.rt u H'
 | .ex c e h' => ∀ ι' H' σ' C,Grow ι H ι' H' -> Sim T ι' h' H' -> ER T ι' H' e σ' -> ExR T ι' H' c C -> E σ' (.ref C.1) C.2 H'
 | .bad=>False
abbrev REq {α : Type} : Ix -> Hp -> α -> α -> Prop:=λ_ _ a b=>a = b
section
variable {T : Tb} {ι ι' : Ix} {h : AH} {H H' : Hp} {α β γ δ : Type} {E : XK} {R : Ix -> Hp -> α -> β -> Prop} {R' : Ix -> Hp -> γ -> δ -> Prop}
theorem Post.shift {o : Out α} {Q : β -> Hp -> Prop} (p : Post T ι H E R o Q) (g : Grow ι H ι' H') : Post T ι' H' E R o Q:=by
 cases o with
 | ok v h' => exact λi2 H2 u g2=>p i2 H2 u (g.trans g2)
 | ex c h' => exact λi2 H2 C g2=>p i2 H2 C (g.trans g2)
 | bad=>exact p
theorem Post.bind {o : Out α} {f : α -> AH -> Out γ} {Q : δ -> Hp -> Prop} {Q1 : β -> Hp -> Prop} (p : Post T ι H E R' (o.bind f) Q)
  (k : ∀ v h' ι' H' u,Grow ι H ι' H' -> Sim T ι' h' H' -> R ι' H' v u -> Post T ι' H' E R' (f v h') Q -> Q1 u H') : Post T ι H E R o Q1:=by
 cases o with
 | ok v h' => exact λi2 H2 u g S r=>k v h' i2 H2 u g S r (Post.shift p g)
 | ex c h' => exact p
 | bad=>exact p
theorem Post.now {v : α} {u : β} {Q : β -> Hp -> Prop} (p : Post T ι H E R (.ok v h) Q) (S : Sim T ι h H) (r : R ι H v u) : Q u H:=p ι H u S.refl S r
theorem PostS.shift {E : St -> XK} {o : OutS} {D : Ends} (p : PostS T ι H E o D) (g : Grow ι H ι' H') : PostS T ι' H' E o D:=by
 cases o with
 | nx e h' => exact λi2 H2 u g2=>p i2 H2 u (g.trans g2)
 | bk e h' => exact λi2 H2 u g2=>p i2 H2 u (g.trans g2)
 | ct e h' => exact λi2 H2 u g2=>p i2 H2 u (g.trans g2)
 | rt v h' => exact λi2 H2 u g2=>p i2 H2 u (g.trans g2)
 | ex c e h' => exact λi2 H2 u C g2=>p i2 H2 u C (g.trans g2)
 | bad=>exact p
theorem PostS.go {E : St -> XK} {o : Out α} {en : En} {σ : St} {f : α -> AH -> OutS} {D : Ends} {Q1 : β -> Hp -> Prop} (p : PostS T ι H E (o.go en f) D) (er : ER T ι H en σ)
  (k : ∀ v h' ι' H' u,Grow ι H ι' H' -> Sim T ι' h' H' -> R ι' H' v u -> PostS T ι' H' E (f v h') D -> Q1 u H') : Post T ι H (E σ) R o Q1:=by
 cases o with
 | ok v h' => exact λi2 H2 u g S r=>k v h' i2 H2 u g S r (PostS.shift p g)
 | ex c h' => exact λi2 H2 C g S e=>p i2 H2 σ C g S (er.mono g) e
 | bad=>exact p
end
def tE (T : Tb) (E : St -> XK) (a : SE) : TE:=λσ H Q=>∃ ι h en,Sim T ι h H /\ ER T ι H en σ /\ Post T ι H (E σ) (RV T) (a en h) Q
def tT (T : Tb) (E : St -> XK) (a : SB) : TT:=λσ H Q=>∃ ι h en,Sim T ι h H /\ ER T ι H en σ /\ Post T ι H (E σ) REq (a en h) Q
def tA (T : Tb) (E : St -> XK) (a : SL) : TA:=λσ H Q=>∃ ι h en,Sim T ι h H /\ ER T ι H en σ /\ Post T ι H (E σ) (RVs T) (a en h) Q
def tS (T : Tb) (E : St -> XK) (b : SS) : TS:=λD σ H=>∃ ι h en,Sim T ι h H /\ ER T ι H en σ /\ PostS T ι H E (b en h) D
abbrev PEA (T : Tb) (E : St -> XK) (X : Cx) (e : Expr) (a : SE) : Prop:=PE X e (tE T E a)
abbrev PTA (T : Tb) (E : St -> XK) (X : Cx) (e : Expr) (a : SB) : Prop:=PT X e (tT T E a)
abbrev PWA (T : Tb) (E : St -> XK) (X : Cx) (e : Expr) (a : SB) : Prop:=PW X e (tT T E a)
abbrev PAA (T : Tb) (E : St -> XK) (X : Cx) (es : List Expr) (a : SL) : Prop:=PA X es (tA T E a)
abbrev PSA (T : Tb) (E : St -> XK) (X : Cx) (st : Stmt) (b : SS) : Prop:=PS X st (tS T E b)
abbrev PSsA (T : Tb) (E : St -> XK) (X : Cx) (sts : List Stmt) (b : SS) : Prop:=PSs X sts (tS T E b)
theorem yaU {X : Cx} {e : Expr} {t t' : TE} (h : PE X e t) (k : ∀ σ H Q,t' σ H Q -> t σ H Q) : PE X e t' := λpins s σ H Q I q=>h pins s σ H Q I (k σ H Q q)
theorem yeq {X : Cx} {e : Expr} {t t' : TT} (h : PT X e t) (k : ∀ σ H Q,t' σ H Q -> t σ H Q) : PT X e t' := λpins s σ H Q I q=>h pins s σ H Q I (k σ H Q q)
theorem yfJ {X : Cx} {e : Expr} {t t' : TT} (h : PW X e t) (k : ∀ σ H Q,t' σ H Q -> t σ H Q) : PW X e t' := λw pins s σ H Q I q=>h w pins s σ H Q I (k σ H Q q)
theorem yfK {X : Cx} {e : List Expr} {t t' : TA} (h : PA X e t) (k : ∀ σ H Q,t' σ H Q -> t σ H Q) : PA X e t' := λp pins s σ H Q I q=>h p pins s σ H Q I (k σ H Q q)
theorem ycm {X : Cx} {e : Stmt} {t t' : TS} (h : PS X e t) (k : ∀ D σ H,t' D σ H -> t D σ H) : PS X e t' := λpins s σ H D I q=>h pins s σ H D I (k D σ H q)
theorem zgb {X : Cx} {e : List Stmt} {t t' : TS} (h : PSs X e t) (k : ∀ D σ H,t' D σ H -> t D σ H) : PSs X e t' := λpins s σ H D I q=>h pins s σ H D I (k D σ H q)
theorem yfL {X : Cx} {st : Stmt} {t : TS} (h : PS X.nox st t) : PS X st t:=λpins s σ H D I hw=>by
 refine wpAny_mono (h pins s σ H D (I.wish _) hw) (λf s' q=>SP.unwish q) λ_ _ z=>z.elim
instance : DecidableEq AV:=λ_ _=>Classical.propDecidable _
@[simp] def sVar (i : Nat) : SE:=λen h=>match en[i]? with
 | some (some v)=>.ok v h
 | _=>.bad
@[simp] def sLit (v : AV) : SE:=λ_ h=>.ok v h
abbrev F1:=AV -> AH -> Out AV
abbrev F2:=AV -> AV -> AH -> Out AV
@[simp] def sOp1 (f : F1) (a : SE) : SE:=λen h=>(a en h).bind f
@[simp] def sOp2 (f : F2) (a b : SE) : SE:=λen h=>(a en h).bind λx h1=>(b en h1).bind λy h2=>f x y h2
@[simp] def sNil : SL:=λ_ h=>.ok [] h
@[simp] def yaa (a : SE) (r : SL) : SL:=λen h=>(a en h).bind λx h1=>(r en h1).bind λxs h2=>.ok (x :: xs) h2
@[simp] def yal (F : Fn) (as : SL) : SE:=λen h=>(as en h).bind F
@[simp] def sTup (as : SL) : SE:=λen h=>(as en h).bind λxs h1=>if xs.length <= 1000 then .ok (.tup xs) h1 else .bad
@[simp] def sLst (as : SL) : SE:=λen h=>(as en h).bind λxs h1=>if xs.length <= 1000 then .ok (.fl xs) h1 else .bad
@[simp] def ycF (as : SL) : SE:=λen h=>(as en h).bind λxs h1=>if xs.length <= 1000 then .ok (.ref h1.length) (h1++[.lst xs]) else .bad
@[simp] def ycL (t : Bool) : SE:=λ_ h=>.ok (.ref h.length) (h++[.dct t []])
@[simp] def yiP (v : AV) (h : AH) : Option (List AV):=match v with
 | .tup xs=>some xs
 | .fl xs=>some xs
 | .ref n=>match h[n]? with
  | some (.lst xs)=>some xs
  | _=>none
 | _=>none
@[simp] def ybT (v : AV) (h : AH) : Option (List AV):=match v with
 | .fl xs=>some xs
 | .ref n=>match h[n]? with
  | some (.lst xs)=>some xs
  | _=>none
 | _=>none
@[simp] def fAdd : F2:=λx y h=>match x,y with
 | .int i,.int j=>.ok (.int (i + j)) h
 | .str i,.str j=>if i.length + j.length <= sizeLine then .ok (.str (i++j)) h else .bad
 | .tup xs,.tup ys=>if xs ≠ [] /\ xs.length + ys.length <= sizeLine then .ok (.tup (xs++ys)) h else .bad
 | x,y=>match ybT x h,ybT y h with
  | some xs,some ys=>if xs.length + ys.length <= sizeLine then .ok (.fl (xs++ys)) h else .bad
  | _,_=>.bad
@[simp] def fSub : F2:=λx y h=>match x,y with
 | .int i,.int j=>.ok (.int (i - j)) h
 | _,_=>.bad
@[simp] def fMul : F2:=λx y h=>match x,y with
 | .int i,.int j=>if (i.natAbs < 2 ^ 64 \/ j.natAbs < 2 ^ 64) \/ (i.natAbs < 2 ^ 4000 /\ j.natAbs < 2 ^ 4000) then .ok (.int (i * j)) h else .bad
 | _,_=>.bad
@[simp] def fDiv : F2:=λx y h=>match x,y with
 | .int i,.int j=>if 0 < j /\ j.natAbs < 2 ^ 200 then .ok (.int (i / j)) h else .bad
 | _,_=>.bad
@[simp] def fMod : F2:=λx y h=>match x,y with
 | .int i,.int j=>if 0 < j then .ok (.int (i % j)) h else .bad
 | _,_=>.bad
@[simp] def fPow : F2:=λx y h=>match x,y with
 | .int i,.int j=>if 0 <= j /\ j <= 1000000 /\ i.natAbs < 2 ^ 64 then .ok (.int (i ^ j.toNat)) h else .bad
 | _,_=>.bad
@[simp] def fNeg : F1:=λx h=>match x with
 | .int i=>.ok (.int (-i)) h
 | _=>.bad
def toDs (f : AV -> Option PyData) : List AV -> Option (List PyData)
 | []=>some []
 | x :: xs=>match f x,toDs f xs with
  | some d,some ds=>some (d :: ds)
  | _,_=>none
def toD : Nat -> AH -> AV -> Option PyData
 | 0,_,v=>match v with
  | .non=>some .none
  | .bl b=>some (.bool b)
  | .int i=>some (.int i)
  | .str x=>some (.str x)
  | _=>none
 | n + 1,h,v=>match v with
  | .non=>some .none
  | .bl b=>some (.bool b)
  | .int i=>some (.int i)
  | .str x=>some (.str x)
  | .tup xs=>(toDs (toD n h) xs).map .tuple
  | .fl xs=>(toDs (toD n h) xs).map .list
  | .ref k=>match h[k]? with
   | some (.lst xs)=>(toDs (toD n h) xs).map .list
   | _=>none
  | .exc _=>none
@[simp] def eqA (x y : AV) (h : AH) : Option Bool:=match x,y with
 | .int i,.int j=>some (decide (i = j))
 | .str i,.str j=>some (decide (i = j))
 | .bl i,.bl j=>some (decide (i = j))
 | .non,.non=>some true
 | x,y=>match toD 8 h x,toD 8 h y with
  | some d,some e=>some (PyData.eqv d e)
  | _,_=>none
@[simp] def fEq : F2:=λx y h=>match eqA x y h with
 | some b=>.ok (.bl b) h
 | none=>.bad
@[simp] def fNe : F2:=λx y h=>match eqA x y h with
 | some b=>.ok (.bl (!b)) h
 | none=>.bad
@[simp] def fLt : F2:=λx y h=>match x,y with
 | .int i,.int j=>.ok (.bl (decide (i < j))) h
 | .str i,.str j=>.ok (.bl (decide (i.cps.toList < j.cps.toList))) h
 | _,_=>.bad
@[simp] def fLe : F2:=λx y h=>match x,y with
 | .int i,.int j=>.ok (.bl (decide (i <= j))) h
 | .str i,.str j=>.ok (.bl (!decide (j.cps.toList < i.cps.toList))) h
 | _,_=>.bad
@[simp] def fGt : F2:=λx y h=>match x,y with
 | .int i,.int j=>.ok (.bl (decide (j < i))) h
 | _,_=>.bad
@[simp] def fGe : F2:=λx y h=>match x,y with
 | .int i,.int j=>.ok (.bl (decide (j <= i))) h
 | _,_=>.bad
@[simp] def fIsN : F2:=λx y h=>match y with
 | .non=>.ok (.bl (decide (x = .non))) h
 | _=>.bad
@[simp] def truA (v : AV) (h : AH) : Option Bool:=match v with
 | .non=>some false
 | .bl b=>some b
 | .int i=>some (i != 0)
 | .str y=>some ((y.length : Int) != 0)
 | .tup xs=>some (!xs.isEmpty)
 | .fl xs=>some (!xs.isEmpty)
 | .ref n=>match h[n]? with
  | some (.lst xs)=>some (!xs.isEmpty)
  | some (.dct false kvs)=>some (!kvs.isEmpty)
  | _=>none
 | _=>none
@[simp] def ybt (a : SE) : SB:=λen h=>(a en h).bind λv h1=>match truA v h1 with
 | some b=>.ok b h1
 | none=>.bad
@[simp] def yas (a : SE) : SB:=λen h=>(a en h).bind λv h1=>match v with
 | .bl b=>.ok b h1
 | _=>.bad
@[simp] def sAnd (a b : SB) : SB:=λen h=>(a en h).bind λx h1=>if x = true then b en h1 else .ok false h1
@[simp] def sOr (a b : SB) : SB:=λen h=>(a en h).bind λx h1=>if x = true then .ok true h1 else b en h1
@[simp] def sNot (a : SB) : SB:=λen h=>(a en h).bind λx h1=>.ok (!x) h1
@[simp] def yec (a b : SE) : SE:=λen h=>(a en h).bind λv h1=>match v with
 | .bl k=>if k = true then b en h1 else .ok (.bl false) h1
 | _=>.bad
@[simp] def sOrV (a b : SE) : SE:=λen h=>(a en h).bind λv h1=>match v with
 | .bl k=>if k = true then .ok (.bl true) h1 else b en h1
 | _=>.bad
@[simp] def yge (a : SE) : SE:=λen h=>(a en h).bind λv h1=>match v with
 | .bl b=>.ok (.bl (!b)) h1
 | _=>.bad
@[simp] def ybU (f f' : F2) (a b c : SE) : SE:=λen h=>(a en h).bind λx h1=>(b en h1).bind λy h2=>(f x y h2).bind λz h3=>match z with
 | .bl k=>if k = true then (c en h3).bind λw h4=>f' y w h4 else .ok (.bl false) h3
 | _=>.bad
@[simp] def yay : SS:=λen h=>.nx en h
@[simp] def sSeq (a b : SS) : SS:=λen h=>match a en h with
 | .nx e h' => b e h'
 | o=>o
@[simp] def yan (a : SE) : SS:=λen h=>(a en h).go en λ_ h' => .nx en h'
@[simp] def sRet (a : SE) : SS:=λen h=>(a en h).go en λv h' => .rt v h'
@[simp] def sIf (c : SB) (a b : SS) : SS:=λen h=>(c en h).go en λx h' => if x = true then a en h' else b en h'
@[simp] def sSet (i : Nat) (a : SE) : SS:=λen h=>(a en h).go en λv h' => .nx (en.set i (some v)) h'
def yfM (c : SB) (b : SS) : Nat -> SS
 | 0=>λ_ _=>.bad
 | n + 1=>λen h=>match c en h with
  | .ok true h1=>(match b en h1 with
   | .nx e2 h2=>yfM c b n e2 h2
   | .ct e2 h2=>yfM c b n e2 h2
   | .bk e2 h2=>.nx e2 h2
   | .rt v h2=>.rt v h2
   | _=>.bad)
  | .ok false h1=>.nx en h1
  | _=>.bad
abbrev SI:=En -> AH -> Out (List AV × Option Nat)
@[simp] def ybV (w : Option Nat) (xs : List AV) (h : AH) : Bool:=match w with
 | none=>true
 | some n=>match h[n]? with
  | some (.lst ys)=>decide (ys = xs)
  | _=>false
inductive Tg where
 | nm (i : Nat)
 | tup (is : List Nat)
 | nst (i : Nat) (is : List Nat)
@[simp] def yeK : List Nat -> List AV -> En -> Option En
 | [],[],en=>some en
 | i :: is,x :: xs,en=>yeK is xs (en.set i (some x))
 | _,_,_=>none
@[simp] def setT (t : Tg) (v : AV) (en : En) : Option En:=match t,v with
 | .nm i,v=>some (en.set i (some v))
 | .tup is,.tup xs=>yeK is xs en
 | .nst i is,.tup [y,.tup xs]=>yeK is xs (en.set i (some y))
 | _,_=>none
def ybM (w : Option Nat) (all : List AV) (t : Tg) (b : SS) : List AV -> SS
 | []=>λen h=>if ybV w all h = true then .nx en h else .bad
 | x :: xs=>λen h=>if ybV w all h = true then
   (match setT t x en with
   | some e1=>(match b e1 h with
    | .nx e2 h2=>ybM w all t b xs e2 h2
    | .ct e2 h2=>ybM w all t b xs e2 h2
    | .bk e2 h2=>.nx e2 h2
    | .rt v h2=>.rt v h2
    | _=>.bad)
   | none=>.bad) else .bad
@[simp] def sFor (it : SI) (t : Tg) (b : SS) : SS:=λen h=>match it en h with
 | .ok (xs,w) h1=>ybM w xs t b xs en h1
 | _=>.bad
@[simp] def iVal (a : SE) : SI:=λen h=>(a en h).bind λv h1=>match v with
 | .fl xs=>.ok (xs,none) h1
 | .tup xs=>.ok (xs,none) h1
 | .str z=>.ok (z.cps.toList.map (λc=>.str ⟨#[c]⟩),none) h1
 | .ref n=>match h1[n]? with
  | some (.lst xs)=>.ok (xs,some n) h1
  | _=>.bad
 | _=>.bad
def ybl (lo : Int) : Nat -> List AV
 | 0=>[]
 | n + 1=>.int lo :: ybl (lo + 1) n
@[simp] def ybS (a : SE) : SI:=λen h=>(a en h).bind λv h1=>match v with
 | .int j=>if j.natAbs < 2 ^ 62 then .ok (ybl 0 j.toNat,none) h1 else .bad
 | _=>.bad
def yfh (k : Nat) : List AV -> List AV
 | []=>[]
 | x :: xs=>.tup [.int k,x] :: yfh (k + 1) xs
@[simp] def yiQ (a : SE) : SI:=λen h=>(a en h).bind λv h1=>match v with
 | .fl xs=>.ok (yfh 0 xs,none) h1
 | _=>.bad
def ybj (js : List Nat) (en : En) (w : Option Nat) (all : List AV) (c : SB) (e : SE) : List AV -> List AV -> AH -> Out (List AV)
 | [],ys,h=>if ybV w all h = true then .ok ys h else .bad
 | x :: xs,ys,h=>if ybV w all h = true /\ ys.length < sizeLine then
   (match c (some x :: js.map λj=>(en[j]?).join) h with
   | .ok true h1=>(match e (some x :: js.map λj=>(en[j]?).join) h1 with
    | .ok v h2=>ybj js en w all c e xs (ys++[v]) h2
    | _=>.bad)
   | .ok false h1=>ybj js en w all c e xs ys h1
   | _=>.bad) else .bad
@[simp] def sYes : SB:=λ_ h=>.ok true h
@[simp] def ybk (js : List Nat) (it : SI) (c : SB) (e : SE) : SE:=λen h=>match it en h with
 | .ok (xs,w) h1=>(match ybj js en w xs c e xs [] h1 with
  | .ok ys h2=>.ok (.fl ys) h2
  | _=>.bad)
 | _=>.bad
@[simp] def mkFn (n m : Nat) (b : SS) : Fn:=λargs h =>
 if args.length = n then
  match b (args.map some++List.replicate (m - n) none) h with
  | .nx _ h' => .ok .non h'
  | .rt v h' => .ok v h'
  | .ex c _ h' => .ex c h'
  | _=>.bad
 else .bad
@[simp] def yah (c : Nat) (F : Fn) (o : SE) (as : SL) : SE:=λen h=>(o en h).bind λx h1=>match x with
 | .ref n=>match h1[n]? with
  | some (.ins c' _)=>if c' = c then (as en h1).bind λxs h2=>F (x :: xs) h2 else .bad
  | _=>.bad
 | _=>.bad
@[simp] def yeL (c k : Nat) (F : Fn) (as : SL) : SE:=λen h=>(as en h).bind λxs h1=>match F (.ref h1.length :: xs) (h1++[.ins c (List.replicate k none)]) with
 | .ok .non h2=>.ok (.ref h1.length) h2
 | .ex c h2=>.ex c h2
 | _=>.bad
@[simp] def sFld (c i : Nat) (o : SE) : SE:=λen h=>(o en h).bind λx h1=>match x with
 | .ref n=>match h1[n]? with
  | some (.ins c' fs)=>if c' = c then (match fs[i]? with | some (some v)=>.ok v h1 | _=>.bad) else .bad
  | _=>.bad
 | _=>.bad
@[simp] def ybI (c i : Nat) (o v : SE) : SS:=λen h=>(v en h).go en λy h1=>(o en h1).go en λx h2=>match x with
 | .ref n=>match h2[n]? with
  | some (.ins c' fs)=>if c' = c then .nx en (h2.set n (.ins c (fs.set i (some y)))) else .bad
  | _=>.bad
 | _=>.bad
@[simp] def ycn (c : Nat) (as : SL) : SS:=λen h=>(as en h).go en λxs h1=>if xs.length <= 1000 then .ex c en h1 else .bad
@[simp] def sTry (i : Nat) (catches : Nat -> Bool) (b hd : SS) : SS:=λen h=>match b en h with
 | .ex c e h' => if catches c = true then
   (match hd (e.set i (some (.exc c))) h' with
   | .nx e2 h2=>.nx (e2.set i none) h2
   | .bk e2 h2=>.bk (e2.set i none) h2
   | .ct e2 h2=>.ct (e2.set i none) h2
   | .rt v h2=>.rt v h2
   | _=>.bad) else .bad
 | o=>o
@[simp] def keyOf? (v : AV) : Option Key:=match v with
 | .int i=>some (.inl i)
 | .str x=>some (.inr x)
 | _=>none
@[simp] def keysOf? : List AV -> Option (List Key)
 | []=>some []
 | v :: r=>match keyOf? v,keysOf? r with
  | some k,some ks=>some (k :: ks)
  | _,_=>none
@[simp] def ycc (t : Bool) (v : AV) : Bool:=match t,v with
 | false,v=>(keyOf? v).isSome
 | true,.tup xs=>(keysOf? xs).isSome
 | true,_=>false
def valA (kvs : List (AV × AV)) (k : AV) : Option AV:=(kvs.find? λp=>decide (p.1 = k)).map (·.2)
def putA (kvs : List (AV × AV)) (k v : AV) : List (AV × AV) :=
 if kvs.any (λp=>decide (p.1 = k)) then kvs.map λp=>if p.1 = k then (p.1,v) else p else kvs++[(k,v)]
@[simp] def fIx : F2:=λx y h=>match x,y with
 | .str z,.int i=>match atI z.cps.toList i with
  | some c=>.ok (.str ⟨#[c]⟩) h
  | none=>.bad
 | .tup xs,.int i=>match atI xs i with
  | some v=>.ok v h
  | none=>.bad
 | .fl xs,.int i=>match atI xs i with
  | some v=>.ok v h
  | none=>.bad
 | .ref n,y=>match h[n]? with
  | some (.lst xs)=>match y with
   | .int i=>match atI xs i with
    | some v=>.ok v h
    | none=>.bad
   | _=>.bad
  | some (.dct t kvs)=>if ycc t y then (match valA kvs y with | some v=>.ok v h | none=>.bad) else .bad
  | _=>.bad
 | _,_=>.bad
@[simp] def ydb (o i v : SE) : SS:=λen h=>(v en h).go en λz h1=>(o en h1).go en λx h2=>(i en h2).go en λy h3=>match x with
 | .ref n=>match h3[n]? with
  | some (.lst xs)=>match y with
   | .int k=>match ixN xs.length k with
    | some j=>.nx en (h3.set n (.lst (xs.set j z)))
    | none=>.bad
   | _=>.bad
  | some (.dct t kvs)=>if ycc t y = true /\ kvs.length < sizeLine then .nx en (h3.set n (.dct t (putA kvs y z))) else .bad
  | _=>.bad
 | _=>.bad
@[simp] def inA (x y : AV) (h : AH) : Option Bool:=match x,y with
 | .str i,.str j=>some (!(Builtin.Str.occurrences j i 0 j.length 1).isEmpty)
 | x,.ref n=>match h[n]? with
  | some (.dct t kvs)=>if ycc t x then some (valA kvs x).isSome else none
  | some (.lst xs)=>match toD 8 h x,toDs (toD 8 h) xs with
   | some d,some ds=>some (ds.any λe=>PyData.eqv e d)
   | _,_=>none
  | _=>none
 | x,.fl xs=>match toD 8 h x,toDs (toD 8 h) xs with
  | some d,some ds=>some (ds.any λe=>PyData.eqv e d)
  | _,_=>none
 | x,.tup xs=>match toD 8 h x,toDs (toD 8 h) xs with
  | some d,some ds=>some (ds.any λe=>PyData.eqv e d)
  | _,_=>none
 | _,_=>none
@[simp] def ycB : F2:=λx y h=>match inA x y h with
 | some b=>.ok (.bl (!b)) h
 | none=>.bad
@[simp] def fLen : Fn:=λargs h=>match args with
 | [.str x]=>.ok (.int x.length) h
 | [.tup xs]=>.ok (.int xs.length) h
 | [.fl xs]=>.ok (.int xs.length) h
 | [.ref n]=>match h[n]? with
  | some (.lst xs)=>.ok (.int xs.length) h
  | some (.dct false kvs)=>.ok (.int kvs.length) h
  | _=>.bad
 | _=>.bad
@[simp] def fAbs : Fn:=λargs h=>match args with
 | [.int i]=>.ok (.int (if i < 0 then -i else i)) h
 | _=>.bad
@[simp] def yfq : Fn:=λargs h=>match args with
 | [.int i,.int j]=>.ok (.int (if j > i then j else i)) h
 | _=>.bad
@[simp] def yd3 : List AV -> Option (List Bool)
 | []=>some []
 | .bl b :: r=>(yd3 r).map (b :: ·)
 | _ :: _=>none
@[simp] def fAll : Fn:=λargs h=>match args with
 | [.fl xs]=>match yd3 xs with
  | some bs=>.ok (.bl (bs.all id)) h
  | none=>.bad
 | _=>.bad
@[simp] def tyN (v : AV) (h : AH) : Option String:=match v with
 | .non=>some "NoneType"
 | .bl _=>some "bool"
 | .int _=>some "int"
 | .str _=>some "str"
 | .tup _=>some "tuple"
 | .fl _=>some "list"
 | .ref n=>match h[n]? with
  | some (.lst _)=>some "list"
  | some (.dct _ _)=>some "dict"
  | _=>none
 | .exc _=>none
@[simp] def sIsB (t : String) (a : SE) : SE:=λen h=>(a en h).bind λv h1=>match tyN v h1 with
 | some n=>.ok (.bl (n == t || (t == "int" && n == "bool"))) h1
 | none=>.bad
@[simp] def sIsX (p : Nat -> Bool) (a : SE) : SE:=λen h=>(a en h).bind λv h1=>match v with
 | .exc c=>.ok (.bl (p c)) h1
 | _=>.bad
abbrev FM:=AV -> List AV -> AH -> Out AV
@[simp] def ya6 (v : AV) (h : AH) : Bool:=(ybT v h).isSome
@[simp] def yfr (v : AV) (_ : AH) : Bool:=match v with
 | .str _=>true
 | _=>false
@[simp] def sBM (chk : AV -> AH -> Bool) (f : FM) (o : SE) (as : SL) : SE:=λen h=>(o en h).bind λx h1=>if chk x h1 = true then (as en h1).bind λxs h2=>f x xs h2 else .bad
@[simp] def sBM0 (chk : AV -> AH -> Bool) (f : FM) (o : SE) : SE:=λen h=>(o en h).bind λx h1=>if chk x h1 = true then f x [] h1 else .bad
@[simp] def yaV : FM:=λx vs h=>match x,vs with
 | .ref n,[y]=>match h[n]? with
  | some (.lst xs)=>if xs.length < sizeLine then .ok .non (h.set n (.lst (xs++[y]))) else .bad
  | _=>.bad
 | _,_=>.bad
@[simp] def mPop : FM:=λx vs h=>match x,vs with
 | .ref n,[]=>match h[n]? with
  | some (.lst xs)=>match xs[xs.length - 1]? with
   | some y=>.ok y (h.set n (.lst xs.dropLast))
   | none=>.bad
  | _=>.bad
 | _,_=>.bad
@[simp] def ye1 : FM:=λx vs h=>match x,vs with
 | .str z,[.str y]=>.ok (.int ((Builtin.Str.occurrences z y 0 z.length (z.length + 1)).length : Nat)) h
 | _,_=>.bad
def cutA {α : Type} (xs : List α) (lo hi : Option Int) : List α:=(xs.drop (HT.sIx xs.length 0 lo)).take (HT.sIx xs.length xs.length hi - HT.sIx xs.length 0 lo)
structure CA (T : Tb) (E : St -> XK) (X : Cx) : Prop where
 hK : X.K = T.K
 pass : yc5 (CXE X.prog X.w) X E
abbrev EN : St -> XK:=λ_=>E0
theorem CA.nox {T : Tb} {E : St -> XK} {X : Cx} (c : CA T E X) : CA T EN X.nox:=⟨c.hK,λ_ _ _ _ _ _ _ h=>by
 obtain ⟨_,_,_,_,_,_,_,_,_,_,_,_,_,_,_,_,q⟩:=h
 exact q.elim⟩
theorem CA.never {T : Tb} {X : Cx} (hK : X.K = T.K) : CA T EN X:=⟨hK,λ_ _ _ _ _ _ _ h=>by
 obtain ⟨_,_,_,_,_,_,_,_,_,_,_,_,_,_,_,_,q⟩:=h
 exact q.elim⟩
section
variable {T : Tb} {ι : Ix} {h : AH} {H : Hp}
theorem yb8 {x : AV} {u : V} {xs : List AV} (S : Sim T ι h H) (r : RV T ι H x u) (e : ybT x h = some xs) : ∃ a us,u = .ref a /\ SqL T.K H a us /\ RVs T ι H xs us:=by
 unfold ybT at e
 cases r with
 | fl n q r=>cases e; exact ⟨_,_,rfl,.inl q,r⟩
 | kfl q r=>cases e; exact ⟨_,_,rfl,.inr q,r⟩
 | @ref k a q =>
  dsimp only at e
  split at e
  ·rename_i ys hk
   cases e
   obtain ⟨u,e1,us,rfl,r⟩:=S.obj k _ a hk q
   exact ⟨a,us,rfl,.inl (.inl e1),r⟩
  ·cases e
 | _=>cases e
theorem ydx {u : V} {xs : List AV} (r : RV T ι H (.tup xs) u) : ∃ a us,u = .ref a /\ SqT T.K H a us /\ RVs T ι H xs us:=by
 cases r with
 | tup n q r=>exact ⟨_,_,rfl,.of q,r⟩
theorem ybu {u : V} {x : Str} (r : RV T ι H (.str x) u) : u = .str x /\ x.length <= sizeLine /\ x.cps.all (· < 0x110000) = true:=by
 cases r with
 | str n o=>exact ⟨rfl,n,o⟩
theorem yaE {u : V} {i : Int} (r : RV T ι H (.int i) u) : u = .int i:=by cases r; rfl
theorem ycv {u : V} {i : Bool} (r : RV T ι H (.bl i) u) : u = .bl i:=by cases r; rfl
theorem yeM {u : V} (r : RV T ι H .non u) : u = .non:=by cases r; rfl
theorem yeN {us : List V} {xs : List AV} {p : Addr} {E : XK} {Q : VK} (S : Sim T ι h H) (r : RVs T ι H xs us) (n : H p = none) (q : Post T ι H E (RV T) (.ok (.fl xs) h) Q) : Q (.ref p) (upd H p (.lst us)) :=
 q ι _ _ (S.growNew n) (S.new n) (.fl (S.fresh n) (.inl zaq) (r.mono (S.growNew n)))
theorem zdN {us : List V} {xs : List AV} {p : Addr} {E : XK} {Q : VK} (S : Sim T ι h H) (r : RVs T ι H xs us) (n : H p = none) (q : Post T ι H E (RV T) (.ok (.tup xs) h) Q) : Q (.ref p) (upd H p (.tup us)) :=
 q ι _ _ (S.growNew n) (S.new n) (.tup (S.fresh n) zaq (r.mono (S.growNew n)))
theorem zjH {us : List V} {xs : List AV} {p : Addr} {E : XK} {Q : VK} (S : Sim T ι h H) (r : RVs T ι H xs us) (n : H p = none) (q : Post T ι H E (RV T) (.ok (.ref h.length) (h++[.lst xs])) Q) : Q (.ref p) (upd H p (.lst us)) :=
 q _ _ _ (S.growAdd n) (S.add n ⟨us,rfl,r.mono (S.growAdd n)⟩) (.ref S.addAt)
end
section
variable {T : Tb} {E : St -> XK} {X : Cx} {pos : Pos}
theorem yab (i : Nat) {x : Str} {p : Pos} (hN : X.N[i]? = some x:=by rfl) (hv : Vis X.env.scope x:=by first | exact Or.inl rfl | exact Or.inr (Or.inl rfl) | exact Or.inr (Or.inr rfl)) (hd : (x == ("__debug__" : Str)) = false:=by decide)
  (hcd : (x == ("__classdict__" : Str)) = false:=by decide) : PEA T E X (.Name x p) (sVar i) :=
 yaU (pv i hN hv hd hcd) λσ H Q=>E6x λι h en S er q=>by
  unfold sVar at q
  split at q
  ·rename_i v hv
   obtain ⟨u,e,r⟩:=er.2 i v hv
   exact ⟨u,e,q.now S r⟩
  ·exact q.elim
theorem yad {i j p} : PEA T E X (.Constant (.int i) j p) (sLit (.int i)):=yaU ygt λσ H Q=>E6x λι h en S er q=>q.now S (.int i)
theorem r_bl {i j p} : PEA T E X (.Constant (.bool i) j p) (sLit (.bl i)):=yaU yhW λσ H Q=>E6x λι h en S er q=>q.now S (.bl i)
theorem yeO {j p} : PEA T E X (.Constant .none j p) (sLit .non):=yaU ygu λσ H Q=>E6x λι h en S er q=>q.now S .non
theorem yaj {x j p} (n : x.length <= sizeLine:=by decide +kernel) (o : x.cps.all (· < 0x110000) = true:=by decide +kernel) : PEA T E X (.Constant (.str x) j p) (sLit (.str x)):=yaU ygv λσ H Q=>E6x λι h en S er q=>q.now S (.str n o)
theorem zjI {x : Str} {i : Int} {t : Tok} {p : Pos} (hg : Gl X x) (hm : X.mg x = some (.int i t)) (hd : (x == ("__debug__" : Str)) = false:=by decide) : PEA T E X (.Name x p) (sLit (.int i)) :=
 yaU (zf0 (v:=.int i) hg hm ⟨t,rfl⟩ hd) λσ H Q=>E6x λι h en S er q=>q.now S (.int i)
def OpS (T : Tb) (f : F2) (r : R2) : Prop:=∀ (ι : Ix) (h : AH) (H : Hp) (x y : AV) (u w : V) (E : XK) (Q : VK),Sim T ι h H -> RV T ι H x u -> RV T ι H y w -> Post T ι H E (RV T) (f x y h) Q -> r u w H Q
def Op (T : Tb) (X : Cx) (g : Value -> Value -> Sem Value) (f : F2) : Prop:=∃ r,OpR X g r /\ OpS T f r
variable {a b c : Expr} {sa sb sc : SE}
theorem two {f : F2} {r : R2} (hs : OpS T f r) {σ : St} {H : Hp} {Q : VK} (q : tE T E (sOp2 f sa sb) σ H Q) : tOp r (tE T E sa) (tE T E sb) σ H Q:=by
 obtain ⟨ι,h,en,S,er,q⟩:=q
 refine ⟨ι,h,en,S,er,q.bind λx h1 ι1 H1 u g1 S1 r1 q1=>⟨ι1,h1,en,S1,er.mono g1,q1.bind λy h2 ι2 H2 w g2 S2 r2 q2=>?_⟩⟩
 exact hs ι2 h2 H2 x y u w _ Q S2 (r1.mono g2) r2 q2
theorem yam {op : Operator} {f : F2} (ho : Op T X (binaryOp op) f) (ha : PEA T E X a sa) (hb : PEA T E X b sb) : PEA T E X (.BinOp a op b pos) (sOp2 f sa sb):=by
 obtain ⟨r,h1,h2⟩:=ho
 exact yaU (yh6 h1 ha hb) λσ H Q q=>two h2 q
theorem zjJ {i j : Str} (hi : i.cps.all (· < 0x110000) = true) (hj : j.cps.all (· < 0x110000) = true) : (i++j).cps.all (· < 0x110000) = true:=by
 show (i.cps++j.cps).all _ = true
 rw [Array.all_append,hi,hj]; rfl
theorem zfG (i j : Str) : (i++j).length = i.length + j.length:=by
 show (i.cps++j.cps).size = _
 rw [Array.size_append]; rfl
theorem yaK (hK : X.K = T.K) : Op T X (binaryOp .Add) fAdd:=by
 refine ⟨_,op_add.or (zgJ.or (zjo.or zjE)),λι h H x y u w E Q S rx ry p=>?_⟩
 unfold fAdd at p
 split at p
 ·rw [yaE rx,yaE ry]
  exact .inl ⟨_,_,rfl,rfl,p.now S (.int _)⟩
 ·split at p
  ·rename_i hz
   obtain ⟨rfl,_,o1⟩:=ybu rx
   obtain ⟨rfl,_,o2⟩:=ybu ry
   exact .inr (.inl ⟨_,_,rfl,rfl,hz,p.now S (.str (by rw [zfG]; exact hz) (zjJ o1 o2))⟩)
  ·exact p.elim
 ·split at p
  ·rename_i hz
   obtain ⟨a,us,rfl,q1,r1⟩:=ydx rx
   obtain ⟨b,ws,rfl,q2,r2⟩:=ydx ry
   refine .inr (.inr (.inl ⟨a,b,us,ws,rfl,rfl,hK ▸ q1,hK ▸ q2,λz=>hz.1 ?_,by rw [<- r1.length,<- r2.length]; exact hz.2,λz=>?_,λ_ l n=>zdN S (r1.append r2) n p⟩))
   ·subst z; cases r1; rfl
   ·subst z; cases r2
    rw [List.append_nil] at p
    exact p.now S rx
  ·exact p.elim
 ·split at p
  ·split at p
   ·rename_i e1 e2 hz
    obtain ⟨a,us,rfl,q1,r1⟩:=yb8 S rx e1
    obtain ⟨b,ws,rfl,q2,r2⟩:=yb8 S ry e2
    exact .inr (.inr (.inr ⟨a,b,us,ws,rfl,rfl,hK ▸ q1,hK ▸ q2,by rw [<- r1.length,<- r2.length]; exact hz,λl n=>yeN S (r1.append r2) n p⟩))
   ·exact p.elim
  ·exact p.elim
theorem ydO : Op T X (binaryOp .Sub) fSub:=by
 refine ⟨_,ygI,λι h H x y u w E Q S rx ry p=>?_⟩
 unfold fSub at p
 split at p
 ·rw [yaE rx,yaE ry]
  exact ⟨_,_,rfl,rfl,p.now S (.int _)⟩
 ·exact p.elim
theorem zgc {i : Int} (h : i.natAbs < 2 ^ 4000) : Builtin.Int.intBits i <= 2 ^ 20:=by
 unfold Builtin.Int.intBits
 split
 ·exact Nat.zero_le _
 ·rename_i hz
  have h0 : i.natAbs ≠ 0:=λz=>hz (by simpa using z)
  have : i.natAbs.log2 < 4000:=(Nat.log2_lt h0).mpr h
  exact Nat.le_trans (by lia : i.natAbs.log2 + 1 <= 4001) (by decide)
theorem ycM : Op T X (binaryOp .Mult) fMul:=by
 refine ⟨_,ziv,λι h H x y u w E Q S rx ry p=>?_⟩
 unfold fMul at p
 split at p
 ·split at p
  ·rename_i hz
   rw [yaE rx,yaE ry]
   exact ⟨_,_,rfl,rfl,hz.elim (λz=>CMul.ok (z.elim (λz=>.inl ⟨by lia,by lia⟩) (λz=>.inr ⟨by lia,by lia⟩))) (λz=>.of_bits (zgc z.1) (zgc z.2)),p.now S (.int _)⟩
  ·exact p.elim
 ·exact p.elim
theorem yfs : Op T X (binaryOp .FloorDiv) fDiv:=by
 refine ⟨_,ziu,λι h H x y u w E Q S rx ry p=>?_⟩
 unfold fDiv at p
 split at p
 ·split at p
  ·rename_i hz
   rw [yaE rx,yaE ry]
   exact ⟨_,_,rfl,rfl,⟨hz.1,by lia⟩,p.now S (.int _)⟩
  ·exact p.elim
 ·exact p.elim
theorem ydm : Op T X (binaryOp .Mod) fMod:=by
 refine ⟨_,ygJ,λι h H x y u w E Q S rx ry p=>?_⟩
 unfold fMod at p
 split at p
 ·split at p
  ·rename_i hz
   rw [yaE rx,yaE ry]
   exact ⟨_,_,rfl,rfl,hz,p.now S (.int _)⟩
  ·exact p.elim
 ·exact p.elim
theorem ydn : Op T X (binaryOp .Pow) fPow:=by
 refine ⟨_,ygK,λι h H x y u w E Q S rx ry p=>?_⟩
 unfold fPow at p
 split at p
 ·split at p
  ·rename_i hz
   rw [yaE rx,yaE ry]
   exact ⟨_,_,rfl,rfl,hz,p.now S (.int _)⟩
  ·exact p.elim
 ·exact p.elim
theorem ycN (ha : PEA T E X a sa) : PEA T E X (.UnaryOp .USub a pos) (sOp1 fNeg sa) :=
 yaU (yh7 ygL ha) λσ H Q=>E6x λι h en S er q=>⟨ι,h,en,S,er,q.bind λx h1 ι1 H1 u g1 S1 r1 q1=>by
  unfold fNeg at q1
  split at q1
  ·rw [yaE r1]
   exact ⟨_,rfl,q1.now S1 (.int _)⟩
  ·exact q1.elim⟩
theorem zhF {ds : List PyData} (h : ∀ d ∈ ds,d.canLay0 = true) : PyData.canLayAll0 ds = true:=by
 induction ds with
 | nil=>rfl
 | cons d r ih=>show (d.canLay0 && PyData.canLayAll0 r) = true; rw [h d (by simp),ih λe he=>h e (by simp [he])]; rfl
theorem zfH {n : Nat} {ds : List PyData} (h : ∀ d ∈ ds,d.depth <= n) : PyData.depthAll ds <= n:=by
 induction ds with
 | nil=>exact Nat.zero_le _
 | cons d r ih=>show max d.depth (PyData.depthAll r) <= n; have:=h d (by simp); have:=ih λe he=>h e (by simp [he]); lia
section
variable {ι : Ix} {h : AH} {H : Hp}
theorem zbI {f : AV -> Option PyData} {n : Nat} (hf : ∀ {x : AV} {u : V} {d : PyData},RV T ι H x u -> f x = some d -> DaV T.K H u d /\ d.canLay0 = true /\ d.depth <= n) :
  ∀ {xs : List AV} {us : List V} {ds : List PyData},RVs T ι H xs us -> toDs f xs = some ds -> DaVs T.K H us ds /\ ∀ d ∈ ds,d.canLay0 = true /\ d.depth <= n
 | _,_,ds,.nil,e=>by cases e; exact ⟨.nil,by simp⟩
 | _,_,ds,.cons (x:=x) (xs:=xs) r rs,e=>by
  unfold toDs at e
  split at e
  ·rename_i d ds' e1 e2
   cases e
   obtain ⟨q1,q2⟩:=hf r e1
   obtain ⟨q3,q4⟩:=zbI hf rs e2
   refine ⟨.cons q1 q3,λd hd=>?_⟩
   rcases List.mem_cons.mp hd with rfl | hd
   ·exact q2
   ·exact q4 d hd
  ·cases e
theorem ycO (S : Sim T ι h H) : ∀ (n : Nat) {x : AV} {u : V} {d : PyData},RV T ι H x u -> toD n h x = some d -> DaV T.K H u d /\ d.canLay0 = true /\ d.depth <= n
 | 0,x,u,d,r,e=>by
  unfold toD at e
  cases r with
  | non=>cases e; exact ⟨.non,rfl,Nat.le_refl _⟩
  | bl b=>cases e; exact ⟨.bl b,rfl,Nat.le_refl _⟩
  | int b=>cases e; exact ⟨.int b,rfl,Nat.le_refl _⟩
  | str a b=>cases e; exact ⟨.str _,b,Nat.le_refl _⟩
  | _=>cases e
 | n + 1,x,u,d,r,e=>by
  unfold toD at e
  have many : ∀ {xs : List AV} {us : List V} {ds : List PyData},RVs T ι H xs us -> toDs (toD n h) xs = some ds -> DaVs T.K H us ds /\ ∀ d ∈ ds,d.canLay0 = true /\ d.depth <= n:=λr e=>zbI (λr e=>ycO S n r e) r e
  have fin : ∀ {ds : List PyData},(∀ d ∈ ds,d.canLay0 = true /\ d.depth <= n) -> PyData.canLayAll0 ds = true /\ PyData.depthAll ds + 1 <= n + 1:=λq=>⟨zhF λd hd=>(q d hd).1,Nat.succ_le_succ (zfH λd hd=>(q d hd).2)⟩
  cases r with
  | non=>cases e; exact ⟨.non,rfl,Nat.zero_le _⟩
  | bl b=>cases e; exact ⟨.bl b,rfl,Nat.zero_le _⟩
  | int b=>cases e; exact ⟨.int b,rfl,Nat.zero_le _⟩
  | str a b=>cases e; exact ⟨.str _,b,Nat.zero_le _⟩
  | tup k q r =>
   obtain ⟨ds,e1,rfl⟩:=Option.map_eq_some_iff.mp e
   obtain ⟨q1,q2⟩:=many r e1
   exact ⟨.tup (.of q) q1,fin q2⟩
  | fl k q r =>
   obtain ⟨ds,e1,rfl⟩:=Option.map_eq_some_iff.mp e
   obtain ⟨q1,q2⟩:=many r e1
   exact ⟨.lst (.inl q) q1,fin q2⟩
  | kfl q r =>
   obtain ⟨ds,e1,rfl⟩:=Option.map_eq_some_iff.mp e
   obtain ⟨q1,q2⟩:=many r e1
   exact ⟨.lst (.inr q) q1,fin q2⟩
  | @ref k a q =>
   dsimp only at e
   split at e
   ·rename_i ys hk
    obtain ⟨ds,e1,rfl⟩:=Option.map_eq_some_iff.mp e
    obtain ⟨u,e2,us,rfl,r⟩:=S.obj k _ a hk q
    obtain ⟨q1,q2⟩:=many r e1
    exact ⟨.lst (.inl (.inl e2)) q1,fin q2⟩
   ·cases e
  | exc _ _ _=>cases e
end
theorem yhe {i j : Int} : decide (V.int i = V.int j) = decide (i = j):=by rw [Bool.eq_iff_iff]; simp
theorem yhf {i j : Str} : decide (V.str i = V.str j) = decide (i = j):=by rw [Bool.eq_iff_iff]; simp
theorem yin {i j : Bool} : decide (V.bl i = V.bl j) = decide (i = j):=by rw [Bool.eq_iff_iff]; simp
theorem zgd {r : R2} {neg : Bool} (ho : OpR X g r) (h1 : ∀ x y H Q,(scal x y = true /\ Q (.bl (if neg then !decide (x = y) else decide (x = y))) H) -> r x y H Q)
  (h2 : ∀ x y H Q,(∃ d e,DaV T.K H x d /\ DaV T.K H y e /\ d.canLay0 = true /\ e.canLay0 = true /\ d.depth <= 60 /\ Q (.bl (if neg then !PyData.eqv d e else PyData.eqv d e)) H) -> r x y H Q) :
  OpS T (λx y h=>match eqA x y h with | some b=>.ok (.bl (if neg then !b else b)) h | none=>.bad) r:=by
 intro ι h H x y u w E Q S rx ry p
 dsimp only at p
 cases hb : eqA x y h with
 | none=>rw [hb] at p; exact p.elim
 | some b =>
  rw [hb] at p
  dsimp only at p
  unfold eqA at hb
  split at hb
  ·cases hb
   rw [yaE rx,yaE ry]
   exact h1 _ _ _ _ ⟨rfl,by rw [yhe]; exact p.now S (.bl _)⟩
  ·cases hb
   obtain ⟨rfl,_⟩:=ybu rx
   obtain ⟨rfl,_⟩:=ybu ry
   exact h1 _ _ _ _ ⟨rfl,by rw [yhf]; exact p.now S (.bl _)⟩
  ·cases hb
   rw [ycv rx,ycv ry]
   exact h1 _ _ _ _ ⟨rfl,by rw [yin]; exact p.now S (.bl _)⟩
  ·cases hb
   rw [yeM rx,yeM ry]
   exact h1 _ _ _ _ ⟨rfl,by rw [show decide (V.non = V.non) = true from rfl]; exact p.now S (.bl _)⟩
  ·split at hb
   ·rename_i d e e1 e2
    cases hb
    obtain ⟨q1,q2,q3⟩:=ycO S 8 rx e1
    obtain ⟨q4,q5,q6⟩:=ycO S 8 ry e2
    exact h2 _ _ _ _ ⟨d,e,q1,q4,q2,q5,by lia,p.now S (.bl _)⟩
   ·cases hb
theorem o_eq (hK : X.K = T.K) (hu : X.A.units + 64 < cLine) : Op T X (compareOp .Eq) fEq :=
 ⟨_,op_eq.or (yfH hu),zgd (neg:=false) (op_eq.or (yfH hu)) (λ_ _ _ _ q=>.inl q) λ_ _ _ _ q=>.inr (hK ▸ q)⟩
theorem o_ne (hK : X.K = T.K) (hu : X.A.units + 64 < cLine) : Op T X (compareOp .NotEq) fNe :=
 ⟨_,op_ne.or (yfI hu),zgd (neg:=true) (op_ne.or (yfI hu)) (λ_ _ _ _ q=>.inl q) λ_ _ _ _ q=>.inr (hK ▸ q)⟩
theorem o_lt : Op T X (compareOp .Lt) fLt:=by
 refine ⟨_,op_lt.or zhg,λι h H x y u w E Q S rx ry p=>?_⟩
 unfold fLt at p
 split at p
 ·rw [yaE rx,yaE ry]
  exact .inl ⟨_,_,rfl,rfl,p.now S (.bl _)⟩
 ·obtain ⟨rfl,_⟩:=ybu rx
  obtain ⟨rfl,_⟩:=ybu ry
  exact .inr ⟨_,_,rfl,rfl,p.now S (.bl _)⟩
 ·exact p.elim
theorem o_le : Op T X (compareOp .LtE) fLe:=by
 refine ⟨_,op_le.or zhs,λι h H x y u w E Q S rx ry p=>?_⟩
 unfold fLe at p
 split at p
 ·rw [yaE rx,yaE ry]
  exact .inl ⟨_,_,rfl,rfl,p.now S (.bl _)⟩
 ·obtain ⟨rfl,_⟩:=ybu rx
  obtain ⟨rfl,_⟩:=ybu ry
  exact .inr ⟨_,_,rfl,rfl,p.now S (.bl _)⟩
 ·exact p.elim
theorem o_gt : Op T X (compareOp .Gt) fGt:=by
 refine ⟨_,yh8,λι h H x y u w E Q S rx ry p=>?_⟩
 unfold fGt at p
 split at p
 ·rw [yaE rx,yaE ry]
  exact ⟨_,_,rfl,rfl,p.now S (.bl _)⟩
 ·exact p.elim
theorem o_ge : Op T X (compareOp .GtE) fGe:=by
 refine ⟨_,yh9,λι h H x y u w E Q S rx ry p=>?_⟩
 unfold fGe at p
 split at p
 ·rw [yaE rx,yaE ry]
  exact ⟨_,_,rfl,rfl,p.now S (.bl _)⟩
 ·exact p.elim
theorem RV.non_iff {ι : Ix} {H : Hp} {x : AV} {u : V} (r : RV T ι H x u) : decide (x = .non) = decide (u = .non):=by
 exact decide_eq_decide.mpr ⟨λz=>by subst z; cases r; rfl,λz=>by subst z; cases r; rfl⟩
theorem yio : Op T X (compareOp .Is) fIsN:=by
 refine ⟨_,ygM,λι h H x y u w E Q S rx ry p=>?_⟩
 unfold fIsN at p
 split at p
 ·refine ⟨yeM ry,?_⟩
  rw [<- rx.non_iff]
  exact p.now S (.bl _)
 ·exact p.elim
theorem yez {op : CmpOp} {f : F2} (ho : Op T X (compareOp op) f) (ha : PEA T E X a sa) (hb : PEA T E X b sb) (hm : behindInMarks op b = false) : PEA T E X (.Compare a [op] [b] pos) (sOp2 f sa sb):=by
 obtain ⟨r,h1,h2⟩:=ho
 exact yaU (zjh h1 ha hb hm) λσ H Q q=>two h2 q
theorem yaC {op : CmpOp} {f : F2} (ho : Op T X (compareOp op) f) (ha : PEA T E X a sa) (hb : PEA T E X b sb) (hm : behindInMarks op b = false) : PTA T E X (.Compare a [op] [b] pos) (yas (sOp2 f sa sb)):=by
 obtain ⟨r,h1,h2⟩:=ho
 refine yeq (zji h1 ha hb hm) λσ H Q q=>two (E:=E) (Q:=λx H' => ∃ k,x = V.bl k /\ Q k H') h2 ?_
 obtain ⟨ι,h,en,S,er,q⟩:=q
 refine ⟨ι,h,en,S,er,q.bind λx h1 ι1 H1 u g1 S1 r1 q1=>?_⟩
 split at q1
 ·rw [ycv r1]
  exact ⟨_,rfl,q1.now S1 rfl⟩
 ·exact q1.elim
theorem ygf {f f' : F2} {r r' : R2} (hs : OpS T f r) (hs' : OpS T f' r') {σ : St} {H : Hp} {Q : VK} (q : tE T E (ybU f f' sa sb sc) σ H Q) : yfe r r' (tE T E sa) (tE T E sb) (tE T E sc) σ H Q:=by
 obtain ⟨ι,h,en,S,er,q⟩:=q
 refine ⟨ι,h,en,S,er,q.bind λx h1 ι1 H1 u g1 S1 r1 q1=>⟨ι1,h1,en,S1,er.mono g1,q1.bind λy h2 ι2 H2 w g2 S2 r2 q2=>?_⟩⟩
 refine hs ι2 h2 H2 x y u w (E σ) _ S2 (r1.mono g2) r2 (q2.bind λz h3 ι3 H3 k g3 S3 r3 q3=>?_)
 split at q3
 ·rename_i kk
  rw [ycv r3]
  refine ⟨kk,rfl,?_⟩
  by_cases hkk : kk = true
  ·rw [if_pos hkk] at q3 ⊢
   refine ⟨ι3,h3,en,S3,er.mono (g1.trans (g2.trans g3)),q3.bind λv h4 ι4 H4 j g4 S4 r4 q4=>?_⟩
   exact hs' ι4 h4 H4 y v w j _ Q S4 (r2.mono (g3.trans g4)) r4 q4
  ·rw [if_neg hkk] at q3 ⊢
   exact q3.now S3 (.bl _)
 ·exact q3.elim
theorem zbJ {op op' : CmpOp} {f f' : F2} (ho : Op T X (compareOp op) f) (ho' : Op T X (compareOp op') f') (ha : PEA T E X a sa) (hb : PEA T E X b sb) (hc : PEA T E X c sc) (hm : lastMarks [op,op'] [b,c] = false:=by with_unfolding_all rfl) :
  PEA T E X (.Compare a [op,op'] [b,c] pos) (ybU f f' sa sb sc):=by
 obtain ⟨r,h1,h2⟩:=ho
 obtain ⟨r',h1',h2'⟩:=ho'
 exact yaU (zia h1 h1' ha hb hc hm) λσ H Q q=>ygf h2 h2' q
theorem ziL {op op' : CmpOp} {f f' : F2} (ho : Op T X (compareOp op) f) (ho' : Op T X (compareOp op') f') (ha : PEA T E X a sa) (hb : PEA T E X b sb) (hc : PEA T E X c sc) (hm : lastMarks [op,op'] [b,c] = false:=by with_unfolding_all rfl) :
  PTA T E X (.Compare a [op,op'] [b,c] pos) (yas (ybU f f' sa sb sc)):=by
 obtain ⟨r,h1,h2⟩:=ho
 obtain ⟨r',h1',h2'⟩:=ho'
 refine yeq (zib h1 h1' ha hb hc hm) λσ H Q q=>ygf (E:=E) (Q:=λx H' => ∃ k,x = V.bl k /\ Q k H') h2 h2' ?_
 obtain ⟨ι,h,en,S,er,q⟩:=q
 refine ⟨ι,h,en,S,er,q.bind λx h1 ι1 H1 u g1 S1 r1 q1=>?_⟩
 split at q1
 ·rw [ycv r1]
  exact ⟨_,rfl,q1.now S1 rfl⟩
 ·exact q1.elim
theorem yhg {ι : Ix} {h : AH} {H : Hp} {v : AV} {u : V} {k : Bool} (S : Sim T ι h H) (r : RV T ι H v u) (e : truA v h = some k) : TruV T.K u H k:=by
 unfold truA at e
 cases r with
 | non=>cases e; rfl
 | bl b=>cases e; rfl
 | int b=>cases e; rfl
 | str n o=>cases e; exact ⟨n,rfl⟩
 | tup n q r=>cases e; exact .inr (.inl ⟨_,.of q,by cases r<;>rfl⟩)
 | fl n q r=>cases e; exact .inl ⟨_,.inl q,by cases r<;>rfl⟩
 | kfl q r=>cases e; exact .inl ⟨_,.inr q,by cases r<;>rfl⟩
 | @ref n a q =>
  dsimp only at e
  split at e
  ·rename_i xs hk
   cases e
   obtain ⟨u,e1,us,rfl,r⟩:=S.obj n _ a hk q
   exact .inl ⟨us,.inl (.inl e1),by cases r<;>rfl⟩
  ·rename_i xs hk
   cases e
   obtain ⟨u,e1,us,rfl,r⟩:=S.obj n _ a hk q
   exact .inr (.inr ⟨us,e1,by cases r<;>rfl⟩)
  ·cases e
 | exc _ _ _=>cases e
theorem zaz (hK : X.K = T.K) (ha : PEA T E X a sa) (he : ∀ whole,isTrue a X.env whole = (do let v <- whole; standAt a.pos; holding [v] (truthy v)):=by intro _; rfl) : PTA T E X a (ybt sa) :=
 yeq (zic ha he) λσ H Q=>E6x λι h en S er q=>⟨ι,h,en,S,er,q.bind λx h1 ι1 H1 u g1 S1 r1 q1=>by
  split at q1
  ·rename_i b hb
   exact ⟨b,hK ▸ yhg S1 r1 hb,q1.now S1 rfl⟩
  ·exact q1.elim⟩
variable {ca cb : SB} {rest : List Expr}
theorem ybW (ha : PTA T E X a ca) : PTA T E X (.UnaryOp .Not a pos) (sNot ca) :=
 yeq (ygy ha) λσ H Q=>E6x λι h en S er q=>⟨ι,h,en,S,er,q.bind λx h1 ι1 H1 u g1 S1 r1 q1=>by subst r1; exact q1.now S1 rfl⟩
theorem rt_w (h : PWA T E X a ca) : PTA T E X a ca:=PW.pt h
theorem zjK (ha : PTA T E X a ca) : PWA T E X (.BoolOp .And [a] pos) ca:=zjb ha
theorem yfN (ha : PTA T E X a ca) : PWA T E X (.BoolOp .Or [a] pos) ca:=ygw ha
theorem yhh (ha : PTA T E X a ca) (hb : PWA T E X (.BoolOp .And (b :: rest) pos) cb) : PWA T E X (.BoolOp .And (a :: b :: rest) pos) (sAnd ca cb) :=
 yfJ (ygx ha hb) λσ H Q=>E6x λι h en S er q=>⟨ι,h,en,S,er,q.bind λx h1 ι1 H1 u g1 S1 r1 q1=>by
  subst r1
  by_cases hx : x = true
  ·rw [if_pos hx] at q1 ⊢
   exact ⟨ι1,h1,en,S1,er.mono g1,q1⟩
  ·rw [if_neg hx] at q1 ⊢
   exact q1.now S1 rfl⟩
theorem ygg (ha : PTA T E X a ca) (hb : PWA T E X (.BoolOp .Or (b :: rest) pos) cb) : PWA T E X (.BoolOp .Or (a :: b :: rest) pos) (sOr ca cb) :=
 yfJ (yhX ha hb) λσ H Q=>E6x λι h en S er q=>⟨ι,h,en,S,er,q.bind λx h1 ι1 H1 u g1 S1 r1 q1=>by
  subst r1
  by_cases hx : x = true
  ·rw [if_pos hx] at q1 ⊢
   exact q1.now S1 rfl
  ·rw [if_neg hx] at q1 ⊢
   exact ⟨ι1,h1,en,S1,er.mono g1,q1⟩⟩
theorem yed {op} (h : PEA T E X a sa) : PEA T E X (.BoolOp op [a] pos) sa:=ygz h
theorem yeP (ha : PEA T E X a sa) (hb : PEA T E X (.BoolOp .And (b :: rest) pos) sb) : PEA T E X (.BoolOp .And (a :: b :: rest) pos) (yec sa sb) :=
 yaU (ygA ha hb) λσ H Q=>E6x λι h en S er q=>⟨ι,h,en,S,er,q.bind λx h1 ι1 H1 u g1 S1 r1 q1=>by
  split at q1
  ·rename_i kk
   rw [ycv r1]
   refine ⟨kk,rfl,?_⟩
   by_cases hkk : kk = true
   ·rw [if_pos hkk] at q1 ⊢
    exact ⟨ι1,h1,en,S1,er.mono g1,q1⟩
   ·rw [if_neg hkk] at q1 ⊢
    exact q1.now S1 (.bl _)
  ·exact q1.elim⟩
theorem r_or (ha : PEA T E X a sa) (hb : PEA T E X (.BoolOp .Or (b :: rest) pos) sb) : PEA T E X (.BoolOp .Or (a :: b :: rest) pos) (sOrV sa sb) :=
 yaU (yh0 ha hb) λσ H Q=>E6x λι h en S er q=>⟨ι,h,en,S,er,q.bind λx h1 ι1 H1 u g1 S1 r1 q1=>by
  split at q1
  ·rename_i kk
   rw [ycv r1]
   refine ⟨kk,rfl,?_⟩
   by_cases hkk : kk = true
   ·rw [if_pos hkk] at q1 ⊢
    exact q1.now S1 (.bl _)
   ·rw [if_neg hkk] at q1 ⊢
    exact ⟨ι1,h1,en,S1,er.mono g1,q1⟩
  ·exact q1.elim⟩
theorem yip (ha : PEA T E X a sa) : PEA T E X (.UnaryOp .Not a pos) (yge sa) :=
 yaU (ygB ha) λσ H Q=>E6x λι h en S er q=>⟨ι,h,en,S,er,q.bind λx h1 ι1 H1 u g1 S1 r1 q1=>by
  split at q1
  ·rw [ycv r1]
   exact ⟨_,rfl,q1.now S1 (.bl _)⟩
  ·exact q1.elim⟩
variable {es : List Expr} {as : SL}
theorem yac : PAA T E X [] sNil:=yfK yff λσ H Q=>E6x λι h en S er q=>q.now S .nil
theorem zaa (ha : PEA T E X a sa) (hr : PAA T E X es as) (hs : starEach (a :: es) X.env = (false,eval a X.env) :: starEach es X.env:=by rfl) : PAA T E X (a :: es) (yaa sa as) :=
 yfK (zbG ha hr hs) λσ H Q=>E6x λι h en S er q=>⟨ι,h,en,S,er,q.bind λx h1 ι1 H1 u g1 S1 r1 q1=>⟨ι1,h1,en,S1,er.mono g1,q1.bind λxs h2 ι2 H2 us g2 S2 r2 q2=>q2.now S2 (.cons (r1.mono g2) r2)⟩⟩
theorem yaI {k} (h : PAA T E X es as) : PEA T E X (.Tuple es k pos) (sTup as) :=
 yaU (ygQ h) λσ H Q=>E6x λι h en S er q=>⟨ι,h,en,S,er,q.bind λxs h1 ι1 H1 us g1 S1 r1 q1=>by
  split at q1
  ·rename_i hl
   exact ⟨by rw [<- r1.length]; exact Nat.le_trans hl (by decide),λp n=>zdN S1 r1 n q1⟩
  ·exact q1.elim⟩
theorem ybc (h : PAA T E X es as) : PEA T E X (.List es pos) (sLst as) :=
 yaU (yfB h) λσ H Q=>E6x λι h en S er q=>⟨ι,h,en,S,er,q.bind λxs h1 ι1 H1 us g1 S1 r1 q1=>by
  split at q1
  ·rename_i hl
   exact ⟨by rw [<- r1.length]; exact Nat.le_trans hl (by decide),λp n=>yeN S1 r1 n q1⟩
  ·exact q1.elim⟩
theorem yco (h : PAA T E X es as) : PEA T E X (.List es pos) (ycF as) :=
 yaU (yfB h) λσ H Q=>E6x λι h en S er q=>⟨ι,h,en,S,er,q.bind λxs h1 ι1 H1 us g1 S1 r1 q1=>by
  split at q1
  ·rename_i hl
   exact ⟨by rw [<- r1.length]; exact Nat.le_trans hl (by decide),λp n=>zjH S1 r1 n q1⟩
  ·exact q1.elim⟩
theorem zdO : PEA T E X (.Dict [] [] pos) (ycL false) :=
 yaU zim λσ H Q ⟨ι,h,en,S,er,q⟩ p n=>q _ _ _ (S.growAdd n) (S.add n ⟨[],rfl,.nil⟩) (.ref S.addAt)
theorem zjL : PEA T E X (.Dict [] [] pos) (ycL true) :=
 yaU zin λσ H Q ⟨ι,h,en,S,er,q⟩ p n=>q _ _ _ (S.growAdd n) (S.add n ⟨[],rfl,.nil⟩) (.ref S.addAt)
end
section
variable {T : Tb} {E : St -> XK} {X : Cx} {pos : Pos} {a b : Expr} {sa sb : SE} {ca : SB} {st : Stmt} {sts ss1 ss2 : List Stmt} {s1 s2 : SS}
theorem yax : PSsA T E X [] yay:=zgb zjc λD σ H=>E6x λι h en S er q=>q ι H σ S.refl S er
theorem zab (h1 : PSA T E X st s1) (h2 : PSsA T E X sts s2) : PSsA T E X (st :: sts) (sSeq s1 s2) :=
 zgb (zh7 h1 h2) λD σ H=>E6x λι h en S er q=>by
  refine ⟨ι,h,en,S,er,?_⟩
  unfold sSeq at q
  cases e : s1 en h with
  | nx e1 h1 =>
   rw [e] at q
   exact λι' H' σ' g S' er' => ⟨ι',h1,e1,S',er',q.shift g⟩
  | rt v h1=>rw [e] at q; exact q
  | bk e1 h1=>rw [e] at q; exact q
  | ct e1 h1=>rw [e] at q; exact q
  | ex c e1 h1=>rw [e] at q; exact q
  | bad=>rw [e] at q; exact q
theorem yae (h1 : PSA T E X st s1) : PSsA T E X [st] s1:=zjd h1
theorem yao (ha : PEA T E X a sa) (hs : swapsWith a none pos.line X.env = pure false:=by rfl) : PSA T E X (.Expr a pos) (yan sa) :=
 ycm (zje ha hs) λD σ H=>E6x λι h en S er q=>⟨ι,h,en,S,er,q.go er λv h1 ι1 H1 u g1 S1 r1 q1=>q1 ι1 H1 σ S1.refl S1 (er.mono g1)⟩
theorem yap (ha : PEA T E X a sa) : PSA T E X (.Return (some a) pos) (sRet sa) :=
 ycm (ygC ha) λD σ H=>E6x λι h en S er q=>⟨ι,h,en,S,er,q.go er λv h1 ι1 H1 u g1 S1 r1 q1=>q1 ι1 H1 u S1.refl S1 r1⟩
theorem r_if (hc : PTA T E X a ca) (h1 : PSsA T E X ss1 s1) (h2 : PSsA T E X ss2 s2) : PSA T E X (.If a ss1 ss2 pos) (sIf ca s1 s2) :=
 ycm (yh3 hc h1 h2) λD σ H=>E6x λι h en S er q=>⟨ι,h,en,S,er,q.go er λx h1 ι1 H1 u g1 S1 r1 q1=>by
  subst r1
  by_cases hx : x = true
  ·rw [if_pos hx] at q1 ⊢
   exact ⟨ι1,h1,en,S1,er.mono g1,q1⟩
  ·rw [if_neg hx] at q1 ⊢
   exact ⟨ι1,h1,en,S1,er.mono g1,q1⟩⟩
theorem yfO {σ : St} {H : Hp} {D : Ends} {i : Nat} (q : tS T E (sSet i sa) D σ H) : tAsg (tE T E sa) (yex i) D σ H:=by
 obtain ⟨ι,h,en,S,er,q⟩:=q
 exact ⟨ι,h,en,S,er,q.go er λv h1 ι1 H1 u g1 S1 r1 q1=>q1 ι1 H1 _ S1.refl S1 ((er.mono g1).set r1 i)⟩
theorem yat {i : Nat} {x : Str} {p' : Pos} (hN : X.N.Nodup) (ha : PEA T E X a sa) (hi : X.N[i]? = some x:=by rfl) (hx : Loc X.env.scope x:=by first | exact Or.inl rfl | exact Or.inr rfl) (hs : swapsWith a (some (.Name x p')) pos.line X.env = pure false:=by rfl)
  (hf : X.fn x = true \/ X.env.scope.names.lookup x = some .local:=by first | exact .inl rfl | exact .inr rfl | assumption) : PSA T E X (.Assign [.Name x p'] a pos) (sSet i sa) :=
 ycm (ygG hN hi hx ha hs hf) λD σ H q=>yfO q
theorem zei {ι : Ix} {H : Hp} : ∀ {is : List Nat} {xs : List AV} {us : List V} {en e : En} {σ : St},RVs T ι H xs us -> ER T ι H en σ -> yeK is xs en = some e -> ER T ι H e ((is.zip us).foldl (λσ p=>σ.set p.1 (some p.2)) σ) /\ us.length = is.length
 | [],_,_,en,e,σ,.nil,er,q=>by cases q; exact ⟨er,rfl⟩
 | i :: is,_,_,en,e,σ,.cons r rs,er,q=>by
  obtain ⟨h1,h2⟩:=zei (is:=is) rs (er.set r i) q
  exact ⟨h1,by simp [h2]⟩
 | [],_,_,en,e,σ,.cons r rs,er,q=>by cases q
 | i :: is,_,_,en,e,σ,.nil,er,q=>by cases q
def PGA (T : Tb) (X : Cx) (tg : Expr) (t : Tg) : Prop:=∃ g,PG X tg g /\ ∀ {ι : Ix} {h : AH} {H : Hp} {en e : En} {σ : St} {v : AV} {u : V} {Q : St -> Hp -> Prop},Sim T ι h H -> ER T ι H en σ -> RV T ι H v u -> setT t v en = some e ->
 (∀ σ',ER T ι H e σ' -> Q σ' H) -> g u σ H Q
theorem za5 {i : Nat} {x : Str} (hN : X.N.Nodup) (hi : X.N[i]? = some x:=by rfl) (hx : Loc X.env.scope x:=by first | exact Or.inl rfl | exact Or.inr rfl) (hf : X.fn x = true \/ X.env.scope.names.lookup x = some .local:=by first | exact .inl rfl | exact .inr rfl | assumption) :
  PGA T X (.Name x pos) (.nm i):=⟨_,zdL hN hi hx hf,λS er r e k=>by cases e; exact k _ (er.set r i)⟩
def PGsA (X : Cx) (es : List Expr) (is : List Nat) : Prop:=PGs X es (λvs σ H Q=>vs.length = is.length /\ Q ((is.zip vs).foldl (λσ p=>σ.set p.1 (some p.2)) σ) H)
theorem zge {X : Cx} {es : List Expr} {t t' : TGs} (h : PGs X es t) (k : ∀ vs σ H Q,t' vs σ H Q -> t vs σ H Q) : PGs X es t' := λpins s σ H vs us Q I r q=>h pins s σ H vs us Q I r (k vs σ H Q q)
theorem zjM : PGsA X [] []:=zge zjf λvs σ H Q ⟨l,q⟩=>by
 cases vs with
 | nil=>exact ⟨rfl,q⟩
 | cons=>cases l
theorem ze8 {i : Nat} {is : List Nat} {x : Str} {p : Pos} {es : List Expr} (hN : X.N.Nodup) (hr : PGsA X es is) (hi : X.N[i]? = some x:=by rfl) (hx : Loc X.env.scope x:=by first | exact Or.inl rfl | exact Or.inr rfl)
  (hf : X.fn x = true \/ X.env.scope.names.lookup x = some .local:=by first | exact .inl rfl | exact .inr rfl | assumption) (hs : (assignEach (.Name x p :: es) X.env).map (·.2) = assign (.Name x p) X.env :: (assignEach es X.env).map (·.2):=by rfl) : PGsA X (.Name x p :: es) (i :: is) :=
 zge (zh8 (zdL hN hi hx hf) hr hs) λvs σ H Q ⟨l,q⟩=>by
  cases vs with
  | nil=>cases l
  | cons v r=>exact ⟨v,r,rfl,Nat.succ.inj l,q⟩
theorem yhi {es : List Expr} {is : List Nat} {k : Nat} (hK : X.K = T.K) (hc : X.calm = true) (h : PGsA X es is) (hn : (assignEach es X.env).length = is.length:=by rfl) (hst : (assignEach es X.env).findIdx? (·.1) = none:=by rfl) : PGA T X (.Tuple es k pos) (.tup is) :=
 ⟨_,ygD hc h hn hst,λ{ι h H en e σ v u Q} S er r q k=>by
  unfold setT at q
  split at q
  ·rename_i hh; cases hh
  ·rename_i hh
   cases hh
   obtain ⟨a,us,rfl,q1,r1⟩:=ydx r
   obtain ⟨h1,h2⟩:=zei r1 er q
   exact ⟨a,us,rfl,hK ▸ q1,h2,h2,k _ h1⟩
  ·rename_i hh; cases hh
  ·cases q⟩
structure ItG (T : Tb) (J : It) (ι : Ix) (H : Hp) (ys : List AV) (L : AH -> Bool) : Prop where
 go : ∀ (i : Nat) (ι' : Ix) (h' : AH) (H' : Hp) (x : AV),Ext ι H ι' H' -> Sim T ι' h' H' -> L h' = true -> ys[i]? = some x -> J.go i H' /\ ∀ u H2,J.yld i H' u H2 -> Grow ι' H' ι' H2 /\ Sim T ι' h' H2 /\ RV T ι' H2 x u
 stop : ∀ (i : Nat) (ι' : Ix) (h' : AH) (H' : Hp),Ext ι H ι' H' -> Sim T ι' h' H' -> L h' = true -> ys.length <= i -> J.stop i H'
abbrev ItR (T : Tb) (J : It) (ι : Ix) (H : Hp) (xs : List AV) (w : Option Nat) : Prop:=ItG T J ι H xs (ybV w xs)
def tI (T : Tb) (it : SI) : TI:=λσ H R=>∃ ι h en,Sim T ι h H /\ ER T ι H en σ /\ match it en h with
 | .ok (xs,w) h' => ∀ ι' H' J,Grow ι H ι' H' -> Sim T ι' h' H' -> ItR T J ι' H' xs w -> R J H'
 | _=>False
abbrev PIA (T : Tb) (X : Cx) (tg iter : Expr) (it : SI) : Prop:=PI X tg iter (tI T it)
theorem yeQ {X : Cx} {tg iter : Expr} {t t' : TI} (h : PI X tg iter t) (k : ∀ σ H R,t' σ H R -> t σ H R) : PI X tg iter t' := λpins s σ H R I q=>h pins s σ H R I (k σ H R q)
theorem PI.or {X : Cx} {tg iter : Expr} {t t' : TI} (h : PI X tg iter t) (h' : PI X tg iter t') : PI X tg iter (λσ H R=>t σ H R \/ t' σ H R):=λpins s σ H R I q=>q.elim (h pins s σ H R I) (h' pins s σ H R I)
theorem yfP {ι : Ix} {H : Hp} {a : Addr} {us : List V} {xs : List AV} {K : PySem.W.Frag} (keep : ∀ (ι' : Ix) (H' : Hp),Ext ι H ι' H' -> SqL K H' a us) (r : RVs T ι H xs us) : ItR T (Itl K a) ι H xs none:=by
 constructor
 ·intro i ι' h' H' x g S _ e
  obtain ⟨u,e1,r1⟩:=(r.ext g).get e
  refine ⟨⟨us,u,keep ι' H' g,e1⟩,?_⟩
  rintro u2 H2 ⟨rfl,y⟩
  have z:=y us (keep ι' _ g)
  rw [e1] at z; cases z
  exact ⟨S.refl,S,r1⟩
 ·intro i ι' h' H' g S _ hl
  exact ⟨us,keep ι' H' g,by rw [<- r.length]; exact hl⟩
theorem yhj {ι : Ix} {H : Hp} {a : Addr} {us : List V} {xs : List AV} {K : PySem.W.Frag} (keep : ∀ (ι' : Ix) (H' : Hp),Ext ι H ι' H' -> SqT K H' a us) (r : RVs T ι H xs us) : ItR T (Itt K a) ι H xs none:=by
 constructor
 ·intro i ι' h' H' x g S _ e
  obtain ⟨u,e1,r1⟩:=(r.ext g).get e
  refine ⟨⟨us,u,keep ι' H' g,e1⟩,?_⟩
  rintro u2 H2 ⟨rfl,y⟩
  have z:=y us (keep ι' _ g)
  rw [e1] at z; cases z
  exact ⟨S.refl,S,r1⟩
 ·intro i ι' h' H' g S _ hl
  exact ⟨us,keep ι' H' g,by rw [<- r.length]; exact hl⟩
theorem zjN {ι : Ix} {H : Hp} {a : Addr} {n : Nat} {xs : List AV} {K : PySem.W.Frag} (e : ι.refs[n]? = some a) : ItR T (Itl K a) ι H xs (some n):=by
 have at_ : ∀ {ι' : Ix} {h' : AH} {H' : Hp},Ext ι H ι' H' -> Sim T ι' h' H' -> ybV (some n) xs h' = true -> ∃ us,H' a = some (.lst us) /\ RVs T ι' H' xs us:=λ{ι' h' H'} g S l=>by
  unfold ybV at l
  dsimp only at l
  split at l
  ·rename_i ys hy
   have z:=of_decide_eq_true l
   subst z
   obtain ⟨u,e1,us,rfl,r⟩:=S.obj n _ a hy (g.at_ e)
   exact ⟨us,e1,r⟩
  ·cases l
 constructor
 ·intro i ι' h' H' x g S l e
  obtain ⟨us,e0,r⟩:=at_ g S l
  obtain ⟨u,e1,r1⟩:=r.get e
  refine ⟨⟨us,u,.of e0,e1⟩,?_⟩
  rintro u2 H2 ⟨rfl,y⟩
  have z:=y us (.of e0)
  rw [e1] at z; cases z
  exact ⟨S.refl,S,r1⟩
 ·intro i ι' h' H' g S l hl
  obtain ⟨us,e0,r⟩:=at_ g S l
  exact ⟨us,.of e0,by rw [<- r.length]; exact hl⟩
theorem zjO {ι : Ix} {H : Hp} {x : Str} (o : x.cps.all (· < 0x110000) = true) : ItR T (Its x) ι H (x.cps.toList.map λc=>.str ⟨#[c]⟩) none:=by
 constructor
 ·intro i ι' h' H' y g S _ e
  rw [List.getElem?_map] at e
  obtain ⟨c,e1,rfl⟩:=Option.map_eq_some_iff.mp e
  have hi : i < x.cps.size:=by
   have:=(List.getElem?_eq_some_iff.mp e1).1
   simpa using this
  refine ⟨hi,?_⟩
  rintro u H2 ⟨rfl,c',e2,rfl⟩
  have z : x.cps[i]? = some c:=by simpa using e1
  rw [e2] at z; cases z
  refine ⟨S.refl,S,.str (show 1 <= sizeLine by decide) ?_⟩
  have m:=Array.mem_of_getElem? e2
  have:=Array.all_eq_true_iff_forall_mem.mp o _ m
  simpa using this
 ·intro i ι' h' H' g S _ hl
  show x.cps.size <= i
  simpa using hl
theorem zgW (n : Nat) : ∀ (lo : Int) (i : Nat),(ybl lo n)[i]? = if i < n then some (.int (lo + i)) else none:=by
 induction n with
 | zero=>intro lo i; simp [ybl]
 | succ n ih =>
  intro lo i
  cases i with
  | zero=>simp [ybl]
  | succ i =>
   show (ybl (lo + 1) n)[i]? = _
   rw [ih]
   by_cases h : i < n
   ·rw [if_pos h,if_pos (by lia)]
    congr 2
    show lo + 1 + (i : Int) = lo + ((i + 1 : Nat) : Int)
    lia
   ·rw [if_neg h,if_neg (by lia)]
theorem zeD (n : Nat) : ∀ lo : Int,(ybl lo n).length = n:=by
 induction n with
 | zero=>intro lo; rfl
 | succ n ih=>intro lo; show (ybl (lo + 1) n).length + 1 = n + 1; rw [ih]
theorem zhG {ι : Ix} {H : Hp} {lo : Int} {n : Nat} : ItR T (Itr lo n) ι H (ybl lo n) none:=by
 constructor
 ·intro i ι' h' H' y g S _ e
  rw [zgW] at e
  split at e
  ·rename_i hi
   cases e
   refine ⟨hi,?_⟩
   rintro u H2 ⟨rfl,rfl⟩
   exact ⟨S.refl,S,.int _⟩
  ·cases e
 ·intro i ι' h' H' g S _ hl
  rw [zeD] at hl
  exact hl
theorem yeR {ι : Ix} {H : Hp} {a : Addr} {us : List V} (n : a ∉ ι.all) (h : Rd H a (.lst us)) : ∀ (ι' : Ix) (H' : Hp),Ext ι H ι' H' -> SqL T.K H' a us:=λ_ _ g=>.inl (zga g n h)
theorem yiq {ι : Ix} {H : Hp} {a : Addr} {us : List V} (n : a ∉ ι.all) (h : H a = some (.tup us)) : ∀ (ι' : Ix) (H' : Hp),Ext ι H ι' H' -> SqT T.K H' a us:=λ_ _ g=>.of (g.keep _ _ n h)
theorem ycC {K K' : PySem.W.Frag} {H : Hp} {a : Addr} {us : List V} (e : K = K') (h : SqL K' H a us) : SqL K H a us:=e ▸ h
theorem ygh {σ : St} {H : Hp} {R : It -> Hp -> Prop} {ι : Ix} {h h1 : AH} {en : En} {v : AV} {xs : List AV} {w : Option Nat} (hK : X.K = T.K) (S : Sim T ι h H) (er : ER T ι H en σ) (e : sa en h = .ok v h1) (hv : (v = .fl xs /\ w = none) \/ ∃ n,v = .ref n /\ h1[n]? = some (.lst xs) /\ w = some n)
  (q : ∀ ι' H' J,Grow ι H ι' H' -> Sim T ι' h1 H' -> ItR T J ι' H' xs w -> R J H') : yf9 X.K (tE T E sa) σ H R:=by
 refine ⟨ι,h,en,S,er,?_⟩
 rw [e]
 intro ι1 H1 u g1 S1 r1
 rcases hv with ⟨rfl,rfl⟩ | ⟨n,rfl,hn,rfl⟩
 ·cases r1 with
  | fl n hr rs=>exact ⟨_,rfl,⟨_,ycC hK (.inl hr)⟩,q ι1 H1 _ g1 S1 (hK ▸ yfP (yeR n hr) rs)⟩
  | kfl hr rs=>exact ⟨_,rfl,⟨_,ycC hK (.inr hr)⟩,q ι1 H1 _ g1 S1 (hK ▸ yfP (λ_ _ _=>.inr hr) rs)⟩
 ·cases r1 with
  | ref hr =>
   obtain ⟨u,e1,us,rfl,rs⟩:=S1.obj n _ _ hn hr
   exact ⟨_,rfl,⟨_,.of e1⟩,q ι1 H1 _ g1 S1 (zjN hr)⟩
theorem yir {σ : St} {H : Hp} {R : It -> Hp -> Prop} {ι : Ix} {h h1 : AH} {en : En} {xs : List AV} (hK : X.K = T.K) (S : Sim T ι h H) (er : ER T ι H en σ) (e : sa en h = .ok (.tup xs) h1)
  (q : ∀ ι' H' J,Grow ι H ι' H' -> Sim T ι' h1 H' -> ItR T J ι' H' xs none -> R J H') : iTup X.K (tE T E sa) σ H R:=by
 refine ⟨ι,h,en,S,er,?_⟩
 rw [e]
 intro ι1 H1 u g1 S1 r1
 cases r1 with
 | tup n hr rs=>exact ⟨_,rfl,⟨_,.of hr⟩,q ι1 H1 _ g1 S1 (hK ▸ yhj (yiq n hr) rs)⟩
theorem ycP {y : Str} {py : Pos} (hK : X.K = T.K) (ha : PEA T E X a sa) : PIA T X (.Name y py) a (iVal sa) :=
 yeQ (PI.or (zjg ha) (PI.or (ygH ha) (yg5 ha))) λσ H R=>E6x λι h en S er q=>by
  unfold iVal at q
  cases e : sa en h with
  | bad=>rw [e] at q; exact q.elim
  | ex c h1=>rw [e] at q; exact q.elim
  | ok v h1 =>
   rw [e] at q
   cases v with
   | fl xs=>exact .inl (ygh hK S er e (.inl ⟨rfl,rfl⟩) q)
   | tup xs=>exact .inr (.inl (yir hK S er e q))
   | str z =>
    refine .inr (.inr ⟨ι,h,en,S,er,?_⟩)
    rw [e]
    intro ι1 H1 u g1 S1 r1
    obtain ⟨rfl,_,o⟩:=ybu r1
    exact ⟨_,rfl,q ι1 H1 _ g1 S1 (zjO o)⟩
   | ref n =>
    dsimp only [Out.bind] at q
    cases e2 : h1[n]? with
    | none=>rw [e2] at q; exact q.elim
    | some o =>
     rw [e2] at q
     cases o with
     | lst xs=>exact .inl (ygh hK S er e (.inr ⟨n,rfl,e2,rfl⟩) q)
     | _=>exact q.elim
   | _=>exact q.elim
theorem zbw {tg : Expr} {p : Pos} (hg : Gl X "range") (hm : X.mg "range" = none) (ha : PEA T E X a sa) (hs : starEach [a] X.env = [(false,eval a X.env)]:=by rfl) : PIA T X tg (.Call (.Name "range" p) [a] [] pos) (ybS sa) :=
 yeQ (zhe hg hm (zaa ha yac hs) hs) λσ H R=>E6x λι h en S er q=>by
  unfold ybS at q
  refine ⟨ι,h,en,S,er,?_⟩
  unfold yaa
  cases e : sa en h with
  | bad=>rw [e] at q; exact q
  | ex c h1=>rw [e] at q; exact q.elim
  | ok v h1 =>
   rw [e] at q
   intro ι1 H1 u g1 S1 r1
   dsimp only [Out.bind] at q
   cases v with
   | int j =>
    dsimp only at q
    split at q
    ·rename_i hx
     split at hx
     ·rename_i hb
      cases hx
      cases r1 with
      | cons r r' =>
       cases r'
       rw [yaE r]
       exact ⟨j,rfl,by lia,by lia,q ι1 H1 _ g1 S1 zhG⟩
     ·cases hx
    ·exact q.elim
   | _=>exact q.elim
theorem zej {α : Type} {xs : List α} {i : Nat} (h : i < xs.length) : xs.drop i = xs[i] :: xs.drop (i + 1):=by simp
def yhk (g : TG) (tb : TS) (D : Ends) (σ : St) (H1 : Hp) (J : It) : Prop:=∃ W : Nat -> Nat -> St -> Hp -> Prop,(∃ m,W 0 m σ H1) /\ ∀ i m σ H,W i m σ H -> (J.stop i H /\ D.nx σ H) \/ (J.go i H /\ ∃ N : St -> Hp -> Prop,(∀ σ' H',N σ' H' -> ∃ m',m' < m /\ W (i + 1) m' σ' H') /\ ∀ x H',J.yld i H x H' -> g x σ H' λσ' H'' => tb { D with nx:=N,ct:=N,bk:=D.nx } σ' H'')
theorem zek {g : TG} {t : Tg} {J : It} {ι1 : Ix} {h1 : AH} {H1 : Hp} {en : En} {σ : St} {D : Ends} {w : Option Nat} {all ys : List AV}
  (hg2 : ∀ {ι : Ix} {h : AH} {H : Hp} {en e : En} {σ : St} {v : AV} {u : V} {Q : St -> Hp -> Prop},Sim T ι h H -> ER T ι H en σ -> RV T ι H v u -> setT t v en = some e -> (∀ σ',ER T ι H e σ' -> Q σ' H) -> g u σ H Q)
  (S1 : Sim T ι1 h1 H1) (er : ER T ι1 H1 en σ) (IR : ItG T J ι1 H1 ys (ybV w all)) (q : PostS T ι1 H1 E (ybM w all t s1 ys en h1) D) : yhk g (tS T EN s1) D σ H1 J:=by
 refine ⟨λi m σ H=>m = ys.length - i /\ i <= ys.length /\ ∃ ι' h' en',Grow ι1 H1 ι' H /\ Sim T ι' h' H /\ ER T ι' H en' σ /\ PostS T ι' H E (ybM w all t s1 (ys.drop i) en' h') D,
  ⟨ys.length,by simp,Nat.zero_le _,ι1,h1,en,S1.refl,S1,er,q⟩,?_⟩
 rintro i m σ H ⟨rfl,hi,ι',h',en',g',S',er',q'⟩
 by_cases hl : i < ys.length
 ·rw [zej hl] at q'
  unfold ybM at q'
  split at q'
  ·rename_i hlive
   obtain ⟨go,yld⟩:=IR.go i ι' h' H ys[i] g'.ext S' hlive (by simp [hl])
   refine .inr ⟨go,λσ H=>∃ ι' h' en',Grow ι1 H1 ι' H /\ Sim T ι' h' H /\ ER T ι' H en' σ /\ PostS T ι' H E (ybM w all t s1 (ys.drop (i + 1)) en' h') D,
    λσ' H' w' => ⟨ys.length - (i + 1),by lia,rfl,hl,w'⟩,λx H' y=>?_⟩
   obtain ⟨g2,S2,r2⟩:=yld x H' y
   split at q'
   ·rename_i e1 he1
    refine hg2 S2 (er'.mono g2) r2 he1 λσ' er2=>⟨ι',h',e1,S2,er2,?_⟩
    have q2:=PostS.shift q' g2
    cases e2 : s1 e1 h' with
    | nx e3 h3=>rw [e2] at q2; exact λι3 H3 σ3 g3 S3 er3=>⟨ι3,h3,e3,g'.trans (g2.trans g3),S3,er3,q2.shift g3⟩
    | ct e3 h3=>rw [e2] at q2; exact λι3 H3 σ3 g3 S3 er3=>⟨ι3,h3,e3,g'.trans (g2.trans g3),S3,er3,q2.shift g3⟩
    | bk e3 h3=>rw [e2] at q2; exact q2
    | rt v h3=>rw [e2] at q2; exact q2
    | ex c e3 h3=>rw [e2] at q2; exact (show False from q2).elim
    | bad=>rw [e2] at q2; exact q2
   ·exact (show False from q').elim
  ·exact (show False from q').elim
 ·have ei : i = ys.length:=by lia
  subst ei
  rw [List.drop_length] at q'
  unfold ybM at q'
  split at q'
  ·rename_i hlive
   exact .inl ⟨IR.stop _ ι' h' H g'.ext S' hlive (Nat.le_refl _),q' ι' H σ S'.refl S' er'⟩
  ·exact (show False from q').elim
theorem yee {tg iter : Expr} {it : SI} {t : Tg} (hc : X.calm = true) (hi : PIA T X.nox tg iter it) (hg : PGA T X.nox tg t) (hb : PSsA T EN X.nox sts s1) (hs : ∀ x,foldedSetIterable iter X.nox.env x = pure x:=by intro _; rfl) :
  PSA T E X (.For tg iter sts [] pos) (sFor it t s1):=by
 obtain ⟨g,hg1,hg2⟩:=hg
 refine ycm (yfL (yfz PassesOwn.never hc hi hg1 hb hs)) λD σ H=>E6x λι h en S er q=>⟨ι,h,en,S,er,?_⟩
 unfold sFor at q
 cases e : it en h with
 | bad=>rw [e] at q; exact q
 | ex c h1=>rw [e] at q; exact q
 | ok p h1 =>
  obtain ⟨xs,w⟩:=p
  rw [e] at q
  intro ι1 H1 J g1 S1 IR
  exact zek hg2 S1 (er.mono g1) IR (PostS.shift q g1)
theorem ER.comp {ι : Ix} {H : Hp} {en : En} {σ : St} {ys : List AV} {us : List V} {jf : List (Nat × Str)} (er : ER T ι H en σ) (r : RVs T ι H ys us) : ER T ι H (ys.map some++(jf.map (·.1)).map λj=>(en[j]?).join) (ybG (us.map some) jf σ):=by
 unfold ybG
 induction ys generalizing us with
 | nil =>
  cases r
  refine ⟨by simp,λi v e=>?_⟩
  simp only [List.map_nil,List.nil_append,List.getElem?_map] at e ⊢
  cases e1 : jf[i]? with
  | none=>rw [e1] at e; cases e
  | some j =>
   rw [e1] at e
   simp only [Option.map_some,Option.some.injEq] at e
   have e2 : en[j.1]? = some (some v):=by
    cases e3 : en[j.1]? with
    | none=>rw [e3] at e; cases e
    | some o=>rw [e3] at e; exact congrArg some e
   obtain ⟨u',e4,r'⟩:=er.2 j.1 v e2
   exact ⟨u',by simp [e4],r'⟩
 | cons y ys ih =>
  cases r with
  | cons r rs =>
   obtain ⟨h1,h2⟩:=ih rs
   refine ⟨congrArg Nat.succ h1,λi v e=>?_⟩
   cases i with
   | zero=>cases e; exact ⟨_,rfl,r⟩
   | succ i=>exact h2 i v e
def UnOk (T : Tb) (k : Nat) (g : TG) (cc' cc : SB) (ce' ce : SE) : Prop:=∀ x,(∀ r h,cc' (some x :: r) h = .bad) \/ ∃ ys : List AV,ys.length = k /\ (∀ r h,cc' (some x :: r) h = cc (ys.map some++r) h) /\ (∀ r h,ce' (some x :: r) h = ce (ys.map some++r) h) /\
 ∀ (ι : Ix) (H : Hp) (u : V),RV T ι H x u -> ∃ us,RVs T ι H ys us /\ ∀ (σ : St) (Q : St -> Hp -> Prop),Q (us.map some++σ) H -> g u (List.replicate k none++σ) H Q
theorem un1 {cc : SB} {ce : SE} : UnOk T 1 (yex 0) cc cc ce ce:=λx=>.inr ⟨[x],rfl,λ_ _=>rfl,λ_ _=>rfl,λ_ _ u r=>⟨[u],.cons r .nil,λ_ _ q=>q⟩⟩
structure CoS (T : Tb) (ι1 : Ix) (H1 : Hp) (en : En) (σ : St) (D : Addr) (ι' : Ix) (h' : AH) (vs : List AV) (ys : List V) (H2 : Hp) : Prop where
 hD : H2 D = some (.lst ys)
 g : Grow ι1 H1 ι' H2
 x : Ext ι1 H1 (ι'.hide D) H2
 S : Sim T (ι'.hide D) h' H2
 er : ER T (ι'.hide D) H2 en σ
 rv : RVs T (ι'.hide D) H2 vs ys
 nD : D ∉ ι'.refs
theorem zgf {ι' ι5 : Ix} {D : Addr} (e : ι5.priv = (ι'.hide D).priv) : ι5 = Ix.hide ⟨ι5.refs,ι'.priv⟩ D:=by
 cases ι5
 simp only at e
 subst e
 rfl
theorem zhH {ι1 ι' ι5 : Ix} {H1 H2 H5 : Hp} {D : Addr} (g' : Grow ι1 H1 ι' H2) (g : Grow (ι'.hide D) H2 ι5 H5) : Grow ι1 H1 ⟨ι5.refs,ι'.priv⟩ H5:=by
 obtain ⟨n,en1,hn⟩:=g'.pre
 obtain ⟨k,ek,hk⟩:=g.pre
 refine ⟨⟨n++k,?_,λa ha=>?_⟩,g'.priv,λa o na ea=>g.keep a o (g'.outR na ea) (g'.keep a o na ea),λa ha=>g.live a ?_⟩
 ·show ι5.refs = _; rw [ek]; show ι'.refs++k = _; rw [en1,List.append_assoc]
 ·rcases List.mem_append.mp ha with z | z
  ·exact hn a z
  ·have z2:=hk a z
   by_cases hr : a ∈ ι1.refs
   ·exact absurd z2 (g'.live a (List.mem_append_left _ hr))
   ·cases e9 : H1 a with
    | none=>rfl
    | some o=>rw [g'.keep a o hr e9] at z2; cases z2
 ·rcases List.mem_append.mp ha with z | z
  ·exact List.mem_append_left _ (by show a ∈ ι'.refs; rw [en1]; exact List.mem_append_left _ z)
  ·exact List.mem_append_right _ (List.mem_cons_of_mem _ (by rw [g'.priv]; exact z))
section
variable {ι ι1 ι' ι5 : Ix} {H H1 H2 H5 : Hp} {h1 h' h5 : AH} {en : En} {σ : St} {D : Addr} {vs : List AV} {ys : List V}
theorem CoS.skip (c : CoS T ι1 H1 en σ D ι' h' vs ys H2) (g : Grow (ι'.hide D) H2 ι5 H5) (S : Sim T ι5 h5 H5) : CoS T ι1 H1 en σ D ⟨ι5.refs,ι'.priv⟩ h5 vs ys H5:=by
 have e:=zgf g.priv
 exact ⟨g.keep D _ c.nD c.hD,zhH c.g g,e ▸ c.x.trans g.ext,e ▸ S,e ▸ c.er.mono g,e ▸ c.rv.mono g,g.outR c.nD c.hD⟩
theorem CoS.poke {v : AV} {u : V} (c : CoS T ι1 H1 en σ D ι' h' vs ys H2) (hD : H1 D = none) (r : RV T (ι'.hide D) H2 v u) : CoS T ι1 H1 en σ D ι' h' (vs++[v]) (ys++[u]) (upd H2 D (.lst (ys++[u]))):=by
 refine ⟨zaq,⟨c.g.pre,c.g.priv,λa o na ea=>by rw [yaw (zan ea hD)]; exact c.g.keep a o na ea,λa ha=>?_⟩,c.x.trans Ext.poke,Sim.poke c.S c.nD,ER.ext c.er Ext.poke,RVs.ext Ext.poke (c.rv.append (.cons r .nil)),c.nD⟩
 by_cases z : a = D
 ·subst z; rw [zaq]; simp
 ·rw [yaw z]; exact c.g.live a ha
theorem CoS.push {v : AV} {u : V} (c : CoS T ι1 H1 en σ D ι' h' vs ys H2) (hD : H1 D = none) (g : Grow (ι'.hide D) H2 ι5 H5) (S : Sim T ι5 h5 H5) (r : RV T ι5 H5 v u) : CoS T ι1 H1 en σ D ⟨ι5.refs,ι'.priv⟩ h5 (vs++[v]) (ys++[u]) (upd H5 D (.lst (ys++[u]))) :=
 (c.skip g S).poke hD ((zgf g.priv) ▸ r)
theorem CoS.fin (c : CoS T ι1 H1 en σ D ι' h' vs ys H2) (g1 : Grow ι H ι1 H1) (S1 : Sim T ι1 h1 H1) (hD : H1 D = none) : D ∉ ι'.all /\ ∀ n,ι'.refs = ι.refs++n -> ∀ a ∈ n++[D],H a = none:=by
 refine ⟨λz=>(List.mem_append.mp z).elim c.nD λz=>by rw [c.g.priv] at z; exact S1.plive D z hD,λn en1 a ha=>?_⟩
 obtain ⟨k,ek,hk⟩:=(g1.trans c.g).pre
 have : n = k:=List.append_cancel_left (en1.symm.trans ek)
 subst this
 rcases List.mem_append.mp ha with z | z
 ·exact hk a z
 ·have z' : a = D:=by simpa using z
  subst z'
  cases e9 : H a with
  | none=>rfl
  | some o =>
   by_cases hr : a ∈ ι.refs
   ·obtain ⟨k1,ek1,_⟩:=g1.pre
    exact absurd hD (S1.live a (List.mem_append_left _ (by rw [ek1]; exact List.mem_append_left _ hr)))
   ·rw [g1.keep a o hr e9] at hD; cases hD
theorem CoS.start (er : ER T ι H en σ) (g1 : Grow ι H ι1 H1) (S1 : Sim T ι1 h1 H1) (hD : H1 D = none) : CoS T ι1 H1 en σ D ι1 h1 [] [] (upd H1 D (.lst [])) :=
 ⟨zaq,S1.growNew hD,Ext.hide hD,S1.hide hD,(er.mono g1).ext (Ext.hide hD),.nil,λz=>S1.fresh hD (List.mem_append_left _ z)⟩
end
def CoQ (T : Tb) (ι : Ix) (H : Hp) (Q : VK) (o : Out (List AV)) : Prop:=match o with
 | .ok ys h2=>∀ ι' H' D vs,Grow ι H ι' H' -> Sim T (ι'.hide D) h2 H' -> RVs T (ι'.hide D) H' ys vs -> H' D = some (.lst vs) -> D ∉ ι'.all -> (∀ n,ι'.refs = ι.refs++n -> ∀ a ∈ n++[D],H a = none) -> Q (.ref D) H'
 | _=>False
theorem zjP {k : Nat} {g : TG} {cc' cc : SB} {ce' ce : SE} {jf : List (Nat × Str)} {σ : St} {H H1 : Hp} {Q : VK} {ι ι1 : Ix} {h1 : AH} {en : En} {xs all : List AV} {w : Option Nat} {J : It} (U : UnOk T k g cc' cc ce' ce) (er : ER T ι H en σ) (g1 : Grow ι H ι1 H1) (S1 : Sim T ι1 h1 H1)
  (IR : ItG T J ι1 H1 xs (ybV w all)) (q : CoQ T ι H Q (ybj (jf.map (·.1)) en w all cc' ce' xs [] h1)) : ygd k g jf (tT T EN cc) (tE T EN ce) σ Q J H1:=by
 intro D hD
 refine ⟨λi m ys H2=>m = xs.length - i /\ i <= xs.length /\ ∃ ι' h' vs,CoS T ι1 H1 en σ D ι' h' vs ys H2 /\ CoQ T ι H Q (ybj (jf.map (·.1)) en w all cc' ce' (xs.drop i) vs h'),⟨xs.length,rfl,Nat.zero_le _,ι1,h1,[],CoS.start er g1 S1 hD,q⟩,?_⟩
 rintro i m ys H2 ⟨rfl,hi,ι',h',vs,c,q'⟩
 refine ⟨c.hD,?_⟩
 by_cases hl : i < xs.length
 ·rw [zej hl] at q'
  unfold ybj at q'
  by_cases hs : ybV w all h' = true /\ vs.length < sizeLine
  ·rw [if_pos hs] at q'
   obtain ⟨go,yld⟩:=IR.go i _ h' H2 xs[i] c.x c.S hs.1 (by simp [hl])
   refine .inr ⟨go,by rw [<- c.rv.length]; exact hs.2,λx H3 y=>?_⟩
   obtain ⟨g3,S3,r3⟩:=yld x H3 y
   rcases U xs[i] with z | ⟨zs,lz,z1,z2,z3⟩
   ·rw [z] at q'; exact False.elim q'
   obtain ⟨us,rs,gq⟩:=z3 _ _ _ r3
   have er3:=ER.comp (jf:=jf) (c.er.mono g3) rs
   rw [z1] at q'
   refine ⟨us,by rw [<- rs.length]; exact lz,gq _ _ ⟨rfl,rfl⟩,ι'.hide D,h',_,S3,er3,?_⟩
   cases ec : cc (zs.map some++(jf.map (·.1)).map λj=>(en[j]?).join) h' with
   | bad=>rw [ec] at q'; exact q'
   | ex k h5=>rw [ec] at q'; exact False.elim q'
   | ok bb h5 =>
    rw [ec] at q'
    intro ι5 H5 b5 g5 S5 r5
    subst r5
    cases bb with
    | false =>
     rw [if_neg Bool.false_ne_true]
     exact ⟨xs.length - (i + 1),by lia,rfl,hl,_,h5,vs,c.skip (g3.trans g5) S5,q'⟩
    | true =>
     rw [if_pos rfl]
     refine ⟨ι5,h5,_,S5,er3.mono g5,?_⟩
     dsimp only at q'
     rw [z2] at q'
     cases ee : ce (zs.map some++(jf.map (·.1)).map λj=>(en[j]?).join) h5 with
     | bad=>rw [ee] at q'; exact q'
     | ex k h6=>rw [ee] at q'; exact False.elim q'
     | ok v h6 =>
      rw [ee] at q'
      intro ι6 H6 u6 g6 S6 r6
      have g36:=(g3.trans g5).trans g6
      exact ⟨g36.keep D _ c.nD c.hD,xs.length - (i + 1),by lia,rfl,hl,_,h6,vs++[v],c.push hD g36 S6 r6,q'⟩
  ·rw [if_neg hs] at q'; exact False.elim q'
 ·have ei : i = xs.length:=by lia
  subst ei
  rw [List.drop_length] at q'
  unfold ybj at q'
  by_cases hs : ybV w all h' = true
  ·rw [if_pos hs] at q'
   have f:=c.fin g1 S1 hD
   exact .inl ⟨IR.stop _ _ h' H2 c.x c.S hs (Nat.le_refl _),q' ι' H2 D ys (g1.trans c.g) c.S c.rv c.hD f.1 f.2⟩
  ·rw [if_neg hs] at q'; exact False.elim q'
end
end Sm
namespace Sm
open PySem PySem.Spec L2
section
variable {T : Tb} {E : St -> XK} {X : Cx} {pos px : Pos} {iter elt : Expr} {ifs : List Expr} {scope : Scope} {x₁ : Str} {jf : List (Nat × Str)} {it : SI} {cc : SB} {ce : SE}
theorem yhl {ι : Ix} {H : Hp} {Q : VK} {F : XK} {o : Out (List AV)} (q : Post T ι H F (RV T) (match o with | .ok ys h2=>.ok (.fl ys) h2 | _=>.bad) Q) : CoQ T ι H Q o:=by
 cases o with
 | bad=>exact q
 | ex c h1=>exact q.elim
 | ok ys h2=>exact λι' H' D vs g S' r hD nD _=>q ι' H' _ g S'.show (.fl nD (.inl hD) (r.ext Ext.show))
theorem zgg {k : Nat} {g : TG} {cc' : SB} {ce' : SE} {σ : St} {H : Hp} {Q : VK} (U : UnOk T k g cc' cc ce' ce) (q : tE T E (ybk (jf.map (·.1)) it cc' ce') σ H Q) : ye6 k g jf (tI T it) (tT T EN cc) (tE T EN ce) σ H Q:=by
 obtain ⟨ι,h,en,S,er,q⟩:=q
 refine ⟨ι,h,en,S,er,?_⟩
 unfold ybk at q
 cases e : it en h with
 | bad=>rw [e] at q; exact q
 | ex c h1=>rw [e] at q; exact q.elim
 | ok p h1=>rw [e] at q; exact λι1 H1 J g1 S1 IR=>zjP U er g1 S1 IR (yhl q)
theorem za0 : PTs X [] (tT T E sYes):=λpins s σ H Q I ⟨ι,h,en,S,er,q⟩=>zjv pins s σ H Q I (q.now S rfl)
theorem yer (C : CompOk X [x₁] jf scope) (hcalm : X.calm = true) (hi : PIA T X (.Name x₁ px) iter it) (hc : ∀ pins cl s H fp,PTs (ya4 X pins [x₁] jf scope cl s H fp) ifs (tT T EN cc)) (he : ∀ pins cl s H fp,PEA T EN (ya4 X pins [x₁] jf scope cl s H fp) elt ce)
  (hs : ∀ x,foldedSetIterable iter X.env x = pure x:=by intro _; rfl) : PEA T E X (.ListComp elt [⟨.Name x₁ px,iter,ifs,0⟩] scope pos) (ybk (jf.map (·.1)) it cc ce) :=
 yaU (zjw hcalm (λ_ _ _ _ _=>C.pg 0 rfl (.head _)) hi hc he C hs) λ_ _ _ q=>zgg un1 q
theorem zdP {y : Str} {py spos : Pos} {i : Nat} (C : CompOk X [x₁] jf scope) (hcalm : X.calm = true) (hi : PIA T X (.Name x₁ px) iter it) (hc : ∀ pins cl s H fp,PTs (ya4 X pins [x₁] jf scope cl s H fp) ifs (tT T EN cc)) (he : ∀ pins cl s H fp,PEA T EN (ya4 X pins [x₁] jf scope cl s H fp) elt ce)
  (hNX : X.N.Nodup) (hi' : X.N[i]? = some y:=by rfl) (hy : X.env.scope.names.lookup y = some .local:=by rfl) (hsw : swapsWith (.ListComp elt [⟨.Name x₁ px,iter,ifs,0⟩] scope pos) (some (.Name y py)) spos.line X.env = pure true:=by rfl) (hs : ∀ x,foldedSetIterable iter X.env x = pure x:=by intro _; rfl) :
  PSA T E X (.Assign [.Name y py] (.ListComp elt [⟨.Name x₁ px,iter,ifs,0⟩] scope pos) spos) (sSet i (ybk (jf.map (·.1)) it cc ce)) :=
 ycm (zjx hcalm (λ_ _ _ _ _=>C.pg 0 rfl (.head _)) hi hc he C hNX hi' hy hsw hs) λD σ H q=>zgg un1 (yfO q)
end
def spA (T : Tb) (F : Fn) : Sp:=λvs H Q E=>∃ ι h args,Sim T ι h H /\ RVs T ι H args vs /\ Post T ι H E (RV T) (F args h) Q
def yis (F : Fn) (n : Nat) : Prop:=∀ args h,args.length ≠ n -> F args h = .bad
theorem zdu (n m : Nat) (b : SS) : yis (mkFn n m b) n:=λargs h hl=>by
 unfold mkFn
 rw [if_neg hl]
theorem okA {P : Program} {w : World} {K : PySem.W.Frag} {mg : Str -> Option Value} {base : Heap} {T : Tb} {x qual : Str} {st : Stmt} {f : Addr} {fd : FuncData} {N ps : List Str} {k : Nat} {b : SS} (F : Fun K x qual st f fd) (hK : K = T.K) (S : FnScope N ps (yag st))
  (hbody : ∀ (cdv : Value) (A : Around) (outer : List Env) (s : Shared) (H : Hp) (E : XK),Room k (A.deeper (PyProof.Rows.envOfC qual (yag st) s.heap.objs.size f cdv)) -> CA T (λ_=>E) (cxOf (CXE P w) P w K mg base N qual (yag st) f cdv A outer s H E) ->
   PSsA T (λ_=>E) (cxOf (CXE P w) P w K mg base N qual (yag st) f cdv A outer s H E) (ych st) b) : FnOk P w K mg base (CXE P w) (k + 1) f fd ps (spA T (mkFn ps.length N.length b)):=by
 refine F.okE S (λvs H Q E h=>?_) (λcdv A outer s H vs Q E hr h=>?_)
 ·obtain ⟨ι,h,args,_,r,q⟩:=h
  by_cases hl : args.length = ps.length
  ·rw [<- hl,r.length]
  ·rw [zdu _ _ _ args h hl] at q; exact q.elim
 ·obtain ⟨ι,h,args,Si,r,q⟩:=h
  refine ⟨_,hbody cdv A outer s H E hr ⟨hK,zjC⟩,ι,h,args.map some++List.replicate (N.length - ps.length) none,Si,?_,?_⟩
  ·by_cases hl : args.length = ps.length
   ·refine ⟨by simp [L2.start,r.length,<- hl],λi v e=>?_⟩
    unfold L2.start
    by_cases hi : i < args.length
    ·rw [List.getElem?_append_left (by simpa using hi),List.getElem?_map] at e
     rw [List.getElem?_append_left (by simpa [<- r.length] using hi),List.getElem?_map]
     obtain ⟨x,e1,e2⟩:=Option.map_eq_some_iff.mp e
     cases e2
     obtain ⟨u,e3,r3⟩:=r.get e1
     exact ⟨u,by rw [e3]; rfl,r3⟩
    ·rw [List.getElem?_append_right (by simpa using hi),List.getElem?_replicate] at e
     split at e
     ·cases e
     ·cases e
   ·rw [zdu _ _ _ args h hl] at q; exact q.elim
  ·unfold mkFn at q
   split at q
   ·split at q
    ·rename_i e1 h1 he
     rw [he]
     exact λι' H' σ' g S' er=>q ι' H' _ g S' .non
    ·rename_i v h1 he
     rw [he]
     exact q
    ·rename_i c e1 h1 he
     rw [he]
     exact λι' H' σ' C g S' er ec=>q ι' H' C g S' ec
    ·exact q.elim
   ·exact q.elim
structure GF (P : Program) (w : World) (T : Tb) (mg : Str -> Option Value) (base : Heap) (k : Nat) (x : Str) (F : Fn) : Prop where
 ex : ∃ f fd ps,mg x = some (.ref f) /\ PySem.W.keepIn T.K (.ref f) = true /\ Binds T.K fd ps [] /\ FnOk P w T.K mg base (CXE P w) k f fd ps (spA T F)
structure GM (P : Program) (w : World) (T : Tb) (mg : Str -> Option Value) (base : Heap) (k : Nat) (c : Nat) (m : Str) (F : Fn) : Prop where
 ex : ∃ C f fd ps,T.cls c = some C /\ Cls T.K C /\ Meth T.K C m f /\ Binds T.K fd ps [] /\ FnOk P w T.K mg base (CXE P w) k f fd ps (spA T F)
 no : m ∉ T.fields c
section
variable {T : Tb} {E : St -> XK} {X : Cx} {pos p apos : Pos} {e o a : Expr} {es : List Expr} {x m : Str} {F : Fn} {k c : Nat} {as : SL} {so sa : SE}
theorem yaq (hK : X.K = T.K) (C : CA T E X) (G : GF X.prog X.w T X.mg X.base k x F) (hr : Room k X.A) (hg : Gl X x) (ha : PAA T E X (e :: es) as) (hdb : (x == ("__debug__" : Str)) = false:=by decide)
  (he : starEach (e :: es) X.env = (false,eval e X.env) :: starEach es X.env:=by rfl) (hpl : (backTo pos (starEach es X.env)).any (·.1) = false:=by rfl) : PEA T E X (.Call (.Name x p) (e :: es) [] pos) (yal F as):=by
 obtain ⟨f,fd,ps,h1,h2,h3,h4⟩:=G.ex
 refine yaU (ziA (Ex:=E) (dvs:=[]) (hK ▸ h4) hr hg h1 (hK ▸ h2) (hK ▸ h3) .nil C.pass ha hdb he hpl) λσ H Q=>E6x λι h en S er q=>⟨ι,h,en,S,er,q.bind λxs h1 ι1 H1 us g1 S1 r1 q1=>?_⟩
 rw [List.append_nil]
 exact ⟨ι1,h1,xs,S1,r1,q1⟩
theorem zgh {C : Addr} {σ : St} {H : Hp} {Q : VK} (hc : T.cls c = some C) (no : m ∉ T.fields c) (q : tE T E (yah c F so as) σ H Q) : yfG C m (spA T F) [] E (tE T E so) (tA T E as) σ H Q:=by
 obtain ⟨ι,h,en,S,er,q⟩:=q
 refine ⟨ι,h,en,S,er,q.bind λx h1 ι1 H1 u g1 S1 r1 q1=>?_⟩
 split at q1
 ·rename_i n
  split at q1
  ·rename_i c' fs hn
   split at q1
   ·rename_i ec
    subst ec
    cases r1 with
    | @ref _ a hr =>
     obtain ⟨o,e1,C',dx,fus,hC,rfl,nd,hw,hl,_⟩:=S1.obj n _ a hn hr
     rw [hc] at hC; cases hC
     refine ⟨a,dx,fus,rfl,e1,?_,ι1,h1,en,S1,er.mono g1,q1.bind λxs h2 ι2 H2 us g2 S2 r2 q2=>?_⟩
     ·cases e : fus.lookup m with
      | none=>rfl
      | some v =>
       have:=PySem.mem_of_lookup e
       exact absurd (hw _ this) no
     ·rw [List.append_nil]
      exact ⟨ι2,h2,.ref n :: xs,S2,.cons (.ref (g2.at hr)) r2,q2⟩
   ·exact q1.elim
  ·exact q1.elim
 ·exact q1.elim
theorem yak {pl : Sem Bool} (hK : X.K = T.K) (CC : CA T E X) (G : GM X.prog X.w T X.mg X.base k c m F) (hr : Room k X.A) (ho : PEA T E X o so) (ha : PAA T E X (e :: es) as)
  (hst : starEach (e :: es) X.env = (false,eval e X.env) :: starEach es X.env:=by rfl) (hpl : (backTo pos (starEach es X.env)).any (·.1) = false:=by rfl)
  (ht : eval (.Call (.Attribute o m apos) (e :: es) [] pos) X.env = (do
   let ov <- eval o X.env
   standAt apos.atName
   let (f,first) <- holding [ov] (getMethod ov m pl)
   callWith pos f first (backTo pos (starEach (e :: es) X.env)) (backToKw pos (keywordEach [] X.env))):=by rfl) : PEA T E X (.Call (.Attribute o m apos) (e :: es) [] pos) (yah c F so as):=by
 obtain ⟨C,f,fd,ps,h1,h2,h3,h4,h5⟩:=G.ex
 exact yaU (ziB (Ex:=E) (dvs:=[]) (pl:=pl) ho (hK ▸ h2) (hK ▸ h3) (hK ▸ h5) hr (hK ▸ h4) .nil CC.pass ha hst hpl ht) λσ H Q q=>zgh h1 G.no q
theorem za6 {pl : Sem Bool} (hK : X.K = T.K) (CC : CA T E X) (G : GM X.prog X.w T X.mg X.base k c m F) (hr : Room k X.A) (ho : PEA T E X o so)
  (ht : eval (.Call (.Attribute o m apos) [] [] pos) X.env = (do
   let ov <- eval o X.env
   standAt apos.atName
   let (f,first) <- holding [ov] (getMethod ov m pl)
   callWith pos f first (backTo pos (starEach [] X.env)) (backToKw pos (keywordEach [] X.env))):=by rfl) : PEA T E X (.Call (.Attribute o m apos) [] [] pos) (yah c F so sNil):=by
 obtain ⟨C,f,fd,ps,h1,h2,h3,h4,h5⟩:=G.ex
 intro pins s σ H Q I q
 have q' := zgh (C:=C) h1 G.no q
 refine PySem.W.methodCall_KW (pl:=pl) (thn (ho pins s σ H _ I q') λu s1 Zz=>?_) ht;obtain ⟨x,H1,I1,rx,a,dx,fs,ex,ea,l,q⟩:=Zz
 subst ex
 obtain rfl : u = Value.ref a:=rx
 refine zdo I1 ea (hK ▸ h2) (hK ▸ h3) l ?_
 obtain ⟨ι,h,en,S,er,q⟩:=q
 refine PySem.W.callWith_K0 (first:=[.ref a]) I1.kIn (hK ▸ h3.kp) (zdM (dvs:=[]) (us:=[.ref a]) (vs:=[.ref a]) (hK ▸ h5) hr (hK ▸ h4) .nil CC.pass I1 (.cons rfl .nil) (q.now S .nil))
structure CF (T : Tb) (c : Nat) : Prop where
 ex : ∃ C,T.cls c = some C /\ Cls T.K C /\ ∀ f ∈ T.fields c,NoAttr T.K C f
structure GK (P : Program) (w : World) (T : Tb) (mg : Str -> Option Value) (base : Heap) (k : Nat) (c : Nat) (x : Str) (F : Fn) : Prop where
 ex : ∃ C f fd ps,T.cls c = some C /\ mg x = some (.ref C) /\ Mk T.K C f /\ Binds T.K fd ps [] /\ FnOk P w T.K mg base (CXE P w) k f fd ps (spA T F)
theorem zhI {CX : CXT} {C f : Addr} {fd : FuncData} {ps : List Str} {sp : Sp} {dvs : List V} {ds : List Value} {pins : List (Addr × Obj)} {σ : St} {H : Hp} {s : Shared} {Q : VK} {us : List Value} {vs : List V} (M : Mk X.K C f) (F : FnOk X.prog X.w X.K X.mg X.base CX k f fd ps sp) (hr : Room (k + 1) X.A) (hb : Binds X.K fd ps ds) (hd : Vals dvs ds)
  (hx : yc5 CX X E) (I : L2.Inv X pins σ H s) (r : Vals vs us)
  (h : ∀ x dx,H x = none -> H dx = none -> dx ≠ x -> sp (.ref x :: (vs++dvs)) (upd (upd H dx (.own x)) x (.ins C dx [])) (λv H2=>v = .non /\ Q (.ref x) H2) (E σ)) :
  wpAny (model X.prog X.w) X.A (call (.ref C) us) (EP X pins σ Q) X.xe s:=by
 have hq:=h (s.heap.objs.size + 1) s.heap.objs.size (I.hok.fresh (Nat.le_succ _)) (I.hok.fresh (Nat.le_refl _)) (Nat.ne_of_lt (Nat.lt_succ_self _))
 have I2:=Inv.made (C:=C) I
 have r2 : Vals (V.ref (s.heap.objs.size + 1) :: (vs++dvs)) (Value.ref (s.heap.objs.size + 1) :: (us++ds)):=.cons rfl (r.append hd)
 have hl : (Value.ref (s.heap.objs.size + 1) :: us++ds).length = ps.length:=by
  have e:=r2.length
  rw [F.len _ _ _ _ hq] at e
  exact e.symm
 refine wpAny_call (zif (f:=f) I.kIn M.makes M.init (beq_iff_eq.mp M.fn) (codeAny_mono (F.run _ X.stack _ _ ⟨Value.ref (s.heap.objs.size + 1) :: us,[]⟩ (Value.ref (s.heap.objs.size + 1) :: (us++ds)) _ _ (E σ) (hr.make C us [])
  (I2.env0.make C us []) (hb _ (Value.ref (s.heap.objs.size + 1) :: us) I2.kIn hl) r2 hq) λr s' hq' => ?_))
 cases r with
 | error e=>exact hx pins σ _ _ e s' I2 hq'
 | ok fl =>
  cases fl with
  | ret u =>
   obtain ⟨v,H',I3,rv,ev,q3⟩:=I2.after hq'
   subst ev
   exact ⟨rv,⟨V.ref (s.heap.objs.size + 1),H',I3,rfl,q3⟩⟩
  | next=>exact False.elim hq'
  | brk=>exact False.elim hq'
  | cont=>exact False.elim hq'
theorem zjQ {C : Addr} {xs : List AV} {us : List V} {H : Hp} {Q : VK} {ι : Ix} {h : AH} {E : XK} {n : Nat} (hc : T.cls c = some C) (hn : (T.fields c).length = n) (S : Sim T ι h H) (r : RVs T ι H xs us)
  (q : Post T ι H E (RV T) (match F (.ref h.length :: xs) (h++[.ins c (List.replicate n none)]) with | .ok .non h2=>Out.ok (AV.ref h.length) h2 | .ex c h2=>.ex c h2 | _=>.bad) Q) :
  ∀ x dx,H x = none -> H dx = none -> dx ≠ x -> spA T F (.ref x :: us) (upd (upd H dx (.own x)) x (.ins C dx [])) (λv H2=>v = .non /\ Q (.ref x) H2) E:=by
 intro x dx nx ndx ne
 have nx' : (upd H dx (.own x)) x = none:=by rw [yaw (Ne.symm ne)]; exact nx
 have S1:=S.new (o:=.own x) ndx
 have g1:=S.growNew (o:=.own x) ndx
 have g2:=S1.growAdd (u:=.ins C dx []) nx'
 have S2 : Sim T (ι.add x) (h++[.ins c (List.replicate n none)]) (upd (upd H dx (.own x)) x (.ins C dx [])):=S1.add nx' ⟨C,dx,[],hc,rfl,by simp,by simp,by simp [hn],λi v e=>by
  rw [List.getElem?_replicate] at e
  split at e
  ·cases e
  ·cases e⟩
 refine ⟨ι.add x,_,.ref h.length :: xs,S2,.cons (.ref S.addAt) (r.mono (g1.trans g2)),?_⟩
 have q2:=q.shift (g1.trans g2)
 cases e : F (.ref h.length :: xs) (h++[.ins c (List.replicate n none)]) with
 | bad=>rw [e] at q2; exact q2
 | ex c' h2=>rw [e] at q2; exact q2
 | ok v h2 =>
  rw [e] at q2
  cases v with
  | non=>exact λι' H' u g S' r' => ⟨yeM r',q2 ι' H' _ g S' (.ref (g.at S.addAt))⟩
  | _=>exact (show False from q2).elim
theorem zgi {n : Nat} (hK : X.K = T.K) (CC : CA T E X) (G : GK X.prog X.w T X.mg X.base k c x F) (hr : Room (k + 1) X.A) (hg : Gl X x) (hn : (T.fields c).length = n:=by rfl) (hdb : (x == ("__debug__" : Str)) = false:=by decide) : PEA T E X (.Call (.Name x p) [] [] pos) (yeL c n F sNil):=by
 obtain ⟨C,f,fd,ps,h1,h2,h3,h4,h5⟩:=G.ex
 intro pins s σ H Q I ⟨ι,h,en,S,er,q⟩
 refine wpAny_Call_Name_kw (zbF I hg h2 ?_ hdb)
 have M : Mk X.K C f:=hK ▸ h3
 exact PySem.W.callWith_K0 I.kIn M.kp (zhI (us:=[]) (vs:=[]) (dvs:=[]) M (hK ▸ h5) hr (hK ▸ h4) .nil CC.pass I .nil (zjQ h1 hn S .nil q))
theorem yau {i : Nat} {f : Str} (hK : X.K = T.K) (CFc : CF T c) (ho : PEA T E X o so) (hf : (T.fields c)[i]? = some f:=by rfl) (hb : attributeBase o f X.env (eval o X.env) = eval o X.env:=by rfl) : PEA T E X (.Attribute o f pos) (Sm.sFld c i so):=by
 obtain ⟨C,hC,hcl,hna⟩:=CFc.ex
 refine yaU (ygO ho hb) λσ H Q=>E6x λι h en S er q=>⟨ι,h,en,S,er,q.bind λx h1 ι1 H1 u g1 S1 r1 q1=>?_⟩
 split at q1
 ·rename_i n
  split at q1
  ·rename_i c' fs hn
   split at q1
   ·rename_i ec
    subst ec
    split at q1
    ·rename_i v hv
     cases r1 with
     | @ref _ a hr =>
      obtain ⟨o,e1,C',dx,fus,hC',rfl,nd,hw,hl,hr2⟩:=S1.obj n _ a hn hr
      rw [hC] at hC'; cases hC'
      obtain ⟨f',u,e2,e3,r3⟩:=hr2 i v hv
      rw [hf] at e2; cases e2
      exact ⟨a,_,dx,fus,u,rfl,e1,hK ▸ hcl,hK ▸ hna f (List.mem_of_getElem? hf),e3,q1.now S1 r3⟩
    ·exact q1.elim
   ·exact q1.elim
  ·exact q1.elim
 ·exact q1.elim
theorem zel (f : Str) (v : V) : ∀ {fs : List (Str × V)},(fs.map (·.1)).Nodup -> ((putF f v fs).map (·.1)).Nodup /\ ∀ g,g ∈ (putF f v fs).map (·.1) -> g = f \/ g ∈ fs.map (·.1)
 | [],_=>by simp [putF]
 | (g,x) :: r,n=>by
  obtain ⟨n1,n2⟩:=List.nodup_cons.mp (show (g :: r.map (·.1)).Nodup from n)
  unfold putF
  split
  ·rename_i e
   subst e
   exact ⟨n,λk hk=>.inr hk⟩
  ·rename_i e
   obtain ⟨h1,h2⟩:=zel f v (fs:=r) n2
   refine ⟨List.nodup_cons.mpr ⟨λz=>?_,h1⟩,λk hk=>?_⟩
   ·rcases h2 g z with z | z
    ·exact e z
    ·exact n1 z
   ·rcases List.mem_cons.mp hk with z | z
    ·exact .inr (by rw [z]; simp)
    ·rcases h2 k z with z | z
     ·exact .inl z
     ·exact .inr (List.mem_cons_of_mem _ z)
theorem ze9 : ∀ {l m : List Str},l.Nodup -> (∀ x ∈ l,x ∈ m) -> l.length <= m.length
 | [],m,_,_=>Nat.zero_le _
 | x :: l,m,n,h=>by
  obtain ⟨n1,n2⟩:=List.nodup_cons.mp n
  have hx:=h x (by simp)
  have:=ze9 (l:=l) (m:=m.erase x) n2 λy hy=>by
   have ne : y ≠ x:=λz=>n1 (z ▸ hy)
   exact (List.mem_erase_of_ne ne).mpr (h y (by simp [hy]))
  rw [List.length_erase_of_mem hx] at this
  have : 0 < m.length:=List.length_pos_of_mem hx
  simp only [List.length_cons]
  lia
theorem zaB {i : Nat} {f : Str} {p' : Pos} (hK : X.K = T.K) (CFc : CF T c) (ho : PEA T E X o so) (ha : PEA T E X a sa) (hf : (T.fields c)[i]? = some f:=by rfl) (hs : swapsWith a (some (.Attribute o f p')) pos.line X.env = pure false:=by rfl) :
  PSA T E X (.Assign [.Attribute o f p'] a pos) (ybI c i so sa):=by
 obtain ⟨C,hC,hcl,hna⟩:=CFc.ex
 refine ycm (ygP ho ha hs) λD σ H=>E6x λι h en S er q=>⟨ι,h,en,S,er,q.go er λy h1 ι1 H1 v g1 S1 r1 q1=>⟨ι1,h1,en,S1,er.mono g1,q1.go (er.mono g1) λx h2 ι2 H2 u g2 S2 r2 q2=>?_⟩⟩
 split at q2
 ·rename_i n
  split at q2
  ·rename_i c' fs hn
   split at q2
   ·rename_i ec
    subst ec
    cases r2 with
    | @ref _ a hr =>
     obtain ⟨o,e1,C',dx,fus,hC',rfl,nd,hw,hl,hr2⟩:=S2.obj n _ a hn hr
     rw [hC] at hC'; cases hC'
     have hmem : f ∈ T.fields c' := List.mem_of_getElem? hf
     have hlen : fus.length < 1000:=by
      have:=ze9 nd (m:=T.fields c') (λx hx=>by
       obtain ⟨p,hp,rfl⟩:=List.mem_map.mp hx
       exact hw p hp)
      have:=T.few c'
      rw [List.length_map] at *
      lia
     obtain ⟨k1,k2⟩:=zel f v nd
     have g3:=S2.growSet (u:=.ins C dx (putF f v fus)) hr
     refine ⟨a,C,dx,fus,rfl,e1,hK ▸ hcl,hK ▸ hna f hmem,hlen,q2 ι2 _ σ g3 (S2.set hr ⟨C,dx,putF f v fus,hC,rfl,k1,λp hp=>?_,by simp [hl],λj w hj=>?_⟩) (er.mono (g1.trans (g2.trans g3)))⟩
     ·rcases k2 p.1 (List.mem_map.mpr ⟨p,hp,rfl⟩) with z | z
      ·rw [z]; exact hmem
      ·obtain ⟨p',hp',e⟩:=List.mem_map.mp z
       rw [<- e]; exact hw p' hp'
     ·by_cases hji : j = i
      ·subst hji
       have hjl : j < fs.length:=by
        have:=(List.getElem?_eq_some_iff.mp hj).1
        simpa using this
       rw [List.getElem?_set_self hjl] at hj
       cases hj
       exact ⟨f,v,hf,by rw [zbb,if_pos rfl],r1.mono (g2.trans g3)⟩
      ·rw [List.getElem?_set_ne (Ne.symm hji)] at hj
       obtain ⟨f',u,e2,e3,r3⟩:=hr2 j w hj
       have ne : f' ≠ f:=λz=>hji (zbS (T.nd c') e2 (z ▸ hf))
       exact ⟨f',u,e2,by rw [zbb,if_neg ne]; exact e3,r3.mono g3⟩
   ·exact (show False from q2).elim
  ·exact (show False from q2).elim
 ·exact (show False from q2).elim
end
theorem yft {T : Tb} {ι : Ix} {H : Hp} {k : Key} {u : V} (r : RV T ι H (kA k) u) : u = kV k:=by
 cases k with
 | inl i=>exact yaE r
 | inr x=>exact (ybu r).1
theorem yfi {k j : Key} (e : kA k = kA j) : k = j:=by
 cases k<;>cases j<;>simp [kA] at e<;>simp [e]
theorem zdQ : ∀ {ks js : List Key},ks.map kA = js.map kA -> ks = js
 | [],[],_=>rfl
 | [],_ :: _,e=>by simp at e
 | _ :: _,[],e=>by simp at e
 | k :: ks,j :: js,e=>by
  simp only [List.map_cons,List.cons.injEq] at e
  rw [yfi e.1,zdQ e.2]
theorem yfQ {T : Tb} {ι : Ix} {H : Hp} : ∀ {ks : List Key} {us : List V},RVs T ι H (ks.map kA) us -> us = ks.map kV
 | [],_,.nil=>rfl
 | k :: ks,_,.cons r rs=>by rw [yft r,yfQ rs]; rfl
theorem zbX {v : AV} {k : Key} (e : keyOf? v = some k) : v = kA k:=by
 unfold keyOf? at e
 split at e<;>cases e<;>rfl
theorem zbd : ∀ {vs : List AV} {ks : List Key},keysOf? vs = some ks -> vs = ks.map kA
 | [],_,e=>by cases e; rfl
 | v :: vs,ks,e=>by
  unfold keysOf? at e
  split at e
  ·rename_i k ks' e1 e2
   cases e
   rw [zbX e1,zbd e2]; rfl
  ·cases e
theorem yeS {κ : Type} [DecidableEq κ] {T : Tb} {ι : Ix} {H : Hp} {f : κ -> AV} (hf : ∀ {a b},f a = f b -> a = b) {k : κ} : ∀ {kvs : List (AV × AV)} {kus : List (κ × V)},Paired (λ(p : AV × AV) (q : κ × V)=>p.1 = f q.1 /\ RV T ι H p.2 q.2) kvs kus ->
  (valA kvs (f k) = none /\ valV kus k = none) \/ ∃ v u,valA kvs (f k) = some v /\ valV kus k = some u /\ RV T ι H v u
 | _,_,.nil=>.inl ⟨rfl,rfl⟩
 | (a,v) :: kvs,(j,u) :: kus,.cons ⟨e,r⟩ rs=>by
  by_cases h : j = k
  ·subst h
   replace e : a = f j:=e
   subst e
   exact .inr ⟨v,u,by simp [valA],zbT rfl,r⟩
  ·have h' : ¬ a = f k:=λz=>h (hf (e.symm.trans z))
   rcases yeS hf rs (k:=k) with ⟨h1,h2⟩ | ⟨v',u',h1,h2,h3⟩
   ·refine .inl ⟨?_,by rw [zbr h]; exact h2⟩
    unfold valA at h1 ⊢
    rw [List.find?_cons,decide_eq_false h']
    exact h1
   ·refine .inr ⟨v',u',?_,by rw [zbr h]; exact h2,h3⟩
    unfold valA at h1 ⊢
    rw [List.find?_cons,decide_eq_false h']
    exact h1
theorem zdR {kvs : List (AV × AV)} {k : AV} : (kvs.any λp=>decide (p.1 = k)) = (valA kvs k).isSome:=by
 induction kvs with
 | nil=>rfl
 | cons p r ih =>
  unfold valA at ih ⊢
  rw [List.any_cons,List.find?_cons,ih]
  cases h : decide (p.1 = k)<;>simp
theorem yfR {κ : Type} [DecidableEq κ] {T : Tb} {ι : Ix} {H : Hp} {f : κ -> AV} (hf : ∀ {a b},f a = f b -> a = b) {k : κ} {v : AV} {u : V} (rv : RV T ι H v u) {kvs : List (AV × AV)} {kus : List (κ × V)} (r : Paired (λ(p : AV × AV) (q : κ × V)=>p.1 = f q.1 /\ RV T ι H p.2 q.2) kvs kus) :
  Paired (λ(p : AV × AV) (q : κ × V)=>p.1 = f q.1 /\ RV T ι H p.2 q.2) (putA kvs (f k) v) (putK kus k u):=by
 have e : (kvs.any λp=>decide (p.1 = f k)) = kus.any λkv=>decide (kv.1 = k):=by
  rw [zdR,zbU]
  rcases yeS hf r (k:=k) with ⟨h1,h2⟩ | ⟨v',u',h1,h2,h3⟩
  ·rw [h1,h2]; rfl
  ·rw [h1,h2]; rfl
 unfold putA putK
 rw [e]
 by_cases h : (kus.any λkv=>decide (kv.1 = k)) = true
 ·rw [if_pos h,if_pos h]
  clear e h
  induction r with
  | nil=>exact .nil
  | cons p rs ih =>
   rename_i a b l1 l2
   refine .cons ?_ ih
   obtain ⟨e1,r1⟩:=p
   dsimp only
   by_cases hk : b.1 = k
   ·rw [if_pos hk,if_pos (by rw [e1,hk])]
    exact ⟨e1,rv⟩
   ·rw [if_neg hk,if_neg (λz=>hk (hf (e1.symm.trans z)))]
    exact ⟨e1,r1⟩
 ·rw [if_neg h,if_neg h]
  have app : ∀ {l1 : List (AV × AV)} {l2 : List (κ × V)},Paired (λ(p : AV × AV) (q : κ × V)=>p.1 = f q.1 /\ RV T ι H p.2 q.2) l1 l2 -> Paired (λ(p : AV × AV) (q : κ × V)=>p.1 = f q.1 /\ RV T ι H p.2 q.2) (l1++[(f k,v)]) (l2++[(k,u)]):=λz=>by
   induction z with
   | nil=>exact .cons ⟨rfl,rv⟩ .nil
   | cons p _ ih=>exact .cons p ih
  exact app r
section
variable {T : Tb} {ι : Ix} {h : AH} {H : Hp}
theorem keyT {xs : List AV} {u : V} {ks : List Key} (r : RV T ι H (.tup xs) u) (e : keysOf? xs = some ks) : ∃ b,u = .ref b /\ KTup H b ks:=by
 have:=zbd e
 subst this
 cases r with
 | tup n q r=>exact ⟨_,rfl,.of (by rw [<- yfQ r]; exact q)⟩
theorem zdS {n : Nat} {t : Bool} {kvs : List (AV × AV)} {y : AV} {a : Addr} {w : V} (S : Sim T ι h H) (hn : h[n]? = some (.dct t kvs)) (hr : ι.refs[n]? = some a) (ry : RV T ι H y w) (hk : ycc t y = true) :
  ∃ o,DGet H a w o /\ ((valA kvs y = none /\ o = none) \/ ∃ v u,valA kvs y = some v /\ o = some u /\ RV T ι H v u):=by
 obtain ⟨ob,e1,r⟩:=S.obj n _ a hn hr
 cases t with
 | false =>
  obtain ⟨kus,rfl,r⟩:=r
  have hk' : (keyOf? y).isSome = true:=hk
  obtain ⟨k,ek⟩:=Option.isSome_iff_exists.mp hk'
  have:=zbX ek
  subst this
  rw [yft ry]
  refine ⟨valV kus k,.k e1,?_⟩
  rcases yeS yfi r (k:=k) with ⟨h1,h2⟩ | ⟨v',u',h1,h2,h3⟩
  ·exact .inl ⟨h1,h2⟩
  ·exact .inr ⟨v',u',h1,h2,h3⟩
 | true =>
  obtain ⟨kus,rfl,r⟩:=r
  unfold ycc at hk
  split at hk
  ·rename_i hh; cases hh
  ·rename_i xs hh
   obtain ⟨ks,ek⟩:=Option.isSome_iff_exists.mp hk
   obtain ⟨b,rfl,hb⟩:=keyT ry ek
   have:=zbd ek
   subst this
   refine ⟨valV kus ks,.t e1 hb,?_⟩
   rcases yeS (f:=λks : List Key=>AV.tup (ks.map kA)) (λe=>zdQ (by injection e)) r (k:=ks) with ⟨h1,h2⟩ | ⟨v',u',h1,h2,h3⟩
   ·exact .inl ⟨h1,h2⟩
   ·exact .inr ⟨v',u',h1,h2,h3⟩
  ·cases hk
theorem zjR {n : Nat} {t : Bool} {kvs : List (AV × AV)} {y z : AV} {a : Addr} {w u : V} (S : Sim T ι h H) (hn : h[n]? = some (.dct t kvs)) (hr : ι.refs[n]? = some a) (ry : RV T ι H y w) (rz : RV T ι H z u) (hk : ycc t y = true) (hl : kvs.length < sizeLine) :
  ∃ H',DPut H a w u H' /\ Grow ι H ι H' /\ Sim T ι (h.set n (.dct t (putA kvs y z))) H' := by
 obtain ⟨ob,e1,r⟩:=S.obj n _ a hn hr
 cases t with
 | false =>
  obtain ⟨kus,rfl,r⟩:=r
  have hk' : (keyOf? y).isSome = true:=hk
  obtain ⟨k,ek⟩:=Option.isSome_iff_exists.mp hk'
  have:=zbX ek
  subst this
  rw [yft ry]
  have g:=S.growSet (u:=.dK (putK kus k u)) hr
  exact ⟨_,.k e1 (by rw [<- Paired.length r]; exact hl),g,S.set hr ⟨_,rfl,yfR yfi (rz.mono g) (Paired.mapP r λ_ _ ⟨p,q⟩=>⟨p,q.mono g⟩)⟩⟩
 | true =>
  obtain ⟨kus,rfl,r⟩:=r
  unfold ycc at hk
  split at hk
  ·rename_i hh; cases hh
  ·rename_i xs hh
   obtain ⟨ks,ek⟩:=Option.isSome_iff_exists.mp hk
   obtain ⟨b,rfl,hb⟩:=keyT ry ek
   have:=zbd ek
   subst this
   have g:=S.growSet (u:=.dT none (putK kus ks u)) hr
   exact ⟨_,.t e1 hb (by rw [<- Paired.length r]; exact hl),g,S.set hr ⟨_,rfl,yfR (f:=λks : List Key=>AV.tup (ks.map kA)) (λe=>zdQ (by injection e)) (rz.mono g) (Paired.mapP r λ_ _ ⟨p,q⟩=>⟨p,q.mono g⟩)⟩⟩
  ·cases hk
theorem RVs.atI {xs : List AV} {us : List V} {i : Int} {v : AV} (r : RVs T ι H xs us) (e : atI xs i = some v) : ∃ u,L2.atI us i = some u /\ RV T ι H v u:=by
 unfold L2.atI at e ⊢
 rw [<- r.length]
 obtain ⟨j,e1,e2⟩:=Option.bind_eq_some_iff.mp e
 obtain ⟨u,e3,r3⟩:=r.get e2
 exact ⟨u,by rw [e1]; exact e3,r3⟩
end
section
variable {T : Tb} {E : St -> XK} {X : Cx} {pos : Pos} {a b c : Expr} {sa sb sc : SE}
theorem yit {e : Expr} {t t' : TE} (h : PE X e t) (h' : PE X e t') : PE X e (λσ H Q=>t σ H Q \/ t' σ H Q):=λpins s σ H Q I q=>q.elim (h pins s σ H Q I) (h' pins s σ H Q I)
theorem yiu {e : Stmt} {t t' : TS} (h : PS X e t) (h' : PS X e t') : PS X e (λD σ H=>t D σ H \/ t' D σ H):=λpins s σ H Q I q=>q.elim (h pins s σ H Q I) (h' pins s σ H Q I)
theorem r_ix (hK : X.K = T.K) (hu : X.A.units + 64 < cLine) (ha : PEA T E X a sa) (hb : PEA T E X b sb) (hs : yfm b:=by exact λ_ _=>rfl) : PEA T E X (.Subscript a b pos) (sOp2 fIx sa sb):=by
 refine yaU (yit (yid ygT ha hb hs) (zjt (Nat.lt_of_le_of_lt (Nat.add_le_add_left (by decide : 1 <= 64) _) hu) ha hb hs)) λσ H Q q=>?_
 obtain ⟨ι,h,en,S,er,q⟩:=q
 have left : (∀ x h1 y h2,sa en h = .ok x h1 -> sb en h1 = .ok y h2 -> ∀ n t kvs,x = .ref n -> h2[n]? = some (.dct t kvs) -> False) -> tOp (rIx X.K) (tE T E sa) (tE T E sb) σ H Q:=λno=>by
  refine ⟨ι,h,en,S,er,?_⟩
  unfold sOp2 at q
  cases e1 : sa en h with
  | bad=>rw [e1] at q; exact q
  | ex c h1=>rw [e1] at q; exact q
  | ok x h1 =>
   rw [e1] at q
   intro ι1 H1 u g1 S1 r1
   refine ⟨ι1,h1,en,S1,er.mono g1,?_⟩
   dsimp only [Out.bind] at q
   cases e2 : sb en h1 with
   | bad=>rw [e2] at q; exact q
   | ex c h2=>rw [e2] at q; exact Post.shift (R:=RV T) (o:=.ex c h2) q g1
   | ok y h2 =>
    rw [e2] at q
    intro ι2 H2 w g2 S2 r2
    have q2:=Post.shift q (g1.trans g2)
    have r1' := r1.mono g2
    dsimp only at q2
    unfold fIx at q2
    split at q2
    ·rename_i z i
     split at q2
     ·rename_i cc hc
      obtain ⟨rfl,zl,zo⟩:=ybu r1'
      rw [yaE r2]
      refine .inr (.inr ⟨z,i,cc,rfl,rfl,zl,hc,q2.now S2 (.str (show 1 <= sizeLine by decide) ?_)⟩)
      obtain ⟨j,_,e3,_⟩:=zcB hc
      have m : cc ∈ z.cps:=by
       have:=List.mem_of_getElem? e3
       simpa using this
      have:=Array.all_eq_true_iff_forall_mem.mp zo _ m
      simpa using this
     ·exact q2.elim
    ·rename_i xs i
     split at q2
     ·rename_i v hv
      obtain ⟨b,us,rfl,sq,rs⟩:=ydx r1'
      obtain ⟨u2,e3,r3⟩:=rs.atI hv
      rw [yaE r2]
      exact .inr (.inl ⟨b,us,i,u2,rfl,rfl,hK ▸ sq,e3,q2.now S2 r3⟩)
     ·exact q2.elim
    ·rename_i xs i
     split at q2
     ·rename_i v hv
      obtain ⟨b,us,rfl,sq,rs⟩:=yb8 S2 r1' rfl
      obtain ⟨u2,e3,r3⟩:=rs.atI hv
      rw [yaE r2]
      exact .inl ⟨b,us,i,u2,rfl,rfl,hK ▸ sq,e3,q2.now S2 r3⟩
     ·exact q2.elim
    ·rename_i n
     split at q2
     ·rename_i xs hn
      split at q2
      ·rename_i i
       split at q2
       ·rename_i v hv
        obtain ⟨b,us,rfl,sq,rs⟩:=yb8 (xs:=xs) S2 r1' (by simp [ybT,hn])
        obtain ⟨u2,e3,r3⟩:=rs.atI hv
        rw [yaE r2]
        exact .inl ⟨b,us,i,u2,rfl,rfl,hK ▸ sq,e3,q2.now S2 r3⟩
       ·exact q2.elim
      ·exact q2.elim
     ·rename_i t kvs hn
      exact (no _ h1 _ h2 e1 e2 n t kvs rfl hn).elim
     ·exact q2.elim
    ·exact q2.elim
 by_cases dd : ∃ x h1 y h2,sa en h = .ok x h1 /\ sb en h1 = .ok y h2 /\ ∃ n t kvs,x = .ref n /\ h2[n]? = some (.dct t kvs)
 ·obtain ⟨x,h1,y,h2,e1,e2,n,t,kvs,rfl,hn⟩:=dd
  refine .inr ⟨ι,h,en,S,er,?_⟩
  unfold sOp2 at q
  rw [e1] at q ⊢
  intro ι1 H1 u g1 S1 r1
  refine ⟨ι1,h1,en,S1,er.mono g1,?_⟩
  dsimp only [Out.bind] at q
  rw [e2] at q ⊢
  intro ι2 H2 w g2 S2 r2
  have q2:=Post.shift q (g1.trans g2)
  have r1' := r1.mono g2
  dsimp only at q2
  unfold fIx at q2
  simp only [hn] at q2
  split at q2
  ·rename_i hk
   cases r1' with
   | @ref _ ad hr =>
    obtain ⟨o,dg,alt⟩:=zdS S2 hn hr r2 hk
    rcases alt with ⟨v1,rfl⟩ | ⟨v,u,v1,rfl,r3⟩
    ·rw [v1] at q2; exact q2.elim
    ·rw [v1] at q2
     exact ⟨ad,u,rfl,dg,q2.now S2 r3⟩
  ·exact q2.elim
 ·exact .inl (left λx h1 y h2 e1 e2 n t kvs e3 e4=>dd ⟨x,h1,y,h2,e1,e2,n,t,kvs,e3,e4⟩)
theorem zdT {p' : Pos} (hu : X.A.units + 64 < cLine) (ho : PEA T E X a sa) (hi : PEA T E X b sb) (hv : PEA T E X c sc) (hs : swapsWith c (some (.Subscript a b p')) pos.line X.env = pure false:=by rfl) (hs' : swapsWithSole [.Subscript a b p'] c pos.line X.env = pure false:=by rfl) (hw : swappedStores [.Subscript a b p'] c X.env = pure none:=by rfl)
  (h1 : (assignEach [.Subscript a b p'] X.env).map (·.2) = [assign (.Subscript a b p') X.env]:=by rfl)
  (has : ∀ v,assign (.Subscript a b p') X.env v = (do
   let ov <- holding [v] (eval a X.env)
   let iv <- holding [v,ov] (eval b X.env)
   standAt p'
   holding [v,ov,iv] (setItem ov iv v)
   release [v,ov,iv] []):=by intro _; rfl) : PSA T E X (.Assign [.Subscript a b p'] c pos) (ydb sa sb sc):=by
 refine ycm (yiu (ygF hv (ygE ho hi zii has) hs' hw h1) (zju (Nat.lt_of_le_of_lt (Nat.add_le_add_left (by decide : 1 <= 64) _) hu) ho hi hv hs)) λD σ H q=>?_
 obtain ⟨ι,h,en,S,er,q⟩:=q
 unfold ydb at q
 by_cases dd : ∃ z h1 x h2 y h3,sc en h = .ok z h1 /\ sa en h1 = .ok x h2 /\ sb en h2 = .ok y h3 /\ ∃ n t kvs,x = .ref n /\ h3[n]? = some (.dct t kvs)
 ·obtain ⟨z,h1,x,h2,y,h3,e1,e2,e3,n,t,kvs,rfl,hn⟩:=dd
  refine .inr ⟨ι,h,en,S,er,?_⟩
  rw [e1] at q ⊢
  intro ι1 H1 u g1 S1 r1
  refine ⟨ι1,h1,en,S1,er.mono g1,?_⟩
  dsimp only [Out.go] at q
  rw [e2] at q ⊢
  intro ι2 H2 w g2 S2 r2
  refine ⟨ι2,h2,en,S2,er.mono (g1.trans g2),?_⟩
  dsimp only at q
  rw [e3] at q ⊢
  intro ι3 H3 j g3 S3 r3
  have q2:=PostS.shift q (g1.trans (g2.trans g3))
  simp only [hn] at q2
  split at q2
  ·rename_i hk
   cases (r2.mono g3) with
   | @ref _ ad hr =>
    obtain ⟨H4,dp,g4,S4⟩:=zjR S3 hn hr r3 (r1.mono (g2.trans g3)) hk.1 hk.2
    exact ⟨ad,H4,rfl,dp,q2 ι3 H4 σ g4 S4 (er.mono (g1.trans (g2.trans (g3.trans g4))))⟩
  ·exact q2.elim
 ·refine .inl ⟨ι,h,en,S,er,?_⟩
  cases e1 : sc en h with
  | bad=>rw [e1] at q; exact q
  | ex cc h1=>rw [e1] at q; exact λi2 H2 C g S e=>q i2 H2 σ C g S (er.mono g) e
  | ok z h1 =>
   rw [e1] at q
   intro ι1 H1 u g1 S1 r1
   refine ⟨ι1,h1,en,S1,er.mono g1,?_⟩
   dsimp only [Out.go] at q
   cases e2 : sa en h1 with
   | bad=>rw [e2] at q; exact q
   | ex cc h2=>rw [e2] at q; exact λi2 H2 C g S e=>q i2 H2 σ C (g1.trans g) S (er.mono (g1.trans g)) e
   | ok x h2 =>
    rw [e2] at q
    intro ι2 H2 w g2 S2 r2
    refine ⟨ι2,h2,en,S2,er.mono (g1.trans g2),?_⟩
    dsimp only at q
    cases e3 : sb en h2 with
    | bad=>rw [e3] at q; exact q
    | ex cc h3=>rw [e3] at q; exact λi2 H2 C g S e=>q i2 H2 σ C (g1.trans (g2.trans g)) S (er.mono (g1.trans (g2.trans g))) e
    | ok y h3 =>
     rw [e3] at q
     intro ι3 H3 j g3 S3 r3
     have q2:=PostS.shift q (g1.trans (g2.trans g3))
     dsimp only at q2
     split at q2
     ·rename_i n
      split at q2
      ·rename_i xs hn
       split at q2
       ·rename_i k
        split at q2
        ·rename_i jj hj
         cases (r2.mono g3) with
         | @ref _ ad hr =>
          obtain ⟨o,e4,us,rfl,rs⟩:=S3.obj n _ ad hn hr
          have g4:=S3.growSet (u:=.lst (us.set jj u)) hr
          rw [yaE r3]
          exact ⟨ad,us,k,jj,rfl,rfl,e4,by rw [<- rs.length]; exact hj,q2 ι3 _ σ g4 (S3.set hr ⟨_,rfl,RVs.set (r1.mono (g2.trans (g3.trans g4))) jj (rs.mono g4)⟩) (er.mono (g1.trans (g2.trans (g3.trans g4))))⟩
        ·exact q2.elim
       ·exact q2.elim
      ·rename_i t kvs hn
       exact (dd ⟨_,h1,_,h2,_,h3,e1,e2,e3,n,t,kvs,rfl,hn⟩).elim
      ·exact q2.elim
     ·exact q2.elim
theorem zjS {g : Value -> Value -> Sem Value} {r : R2} {neg : Bool} (hK : X.K = T.K)
  (h1 : ∀ (i j : Str) H Q,Q (V.bl (if neg then !(!(Builtin.Str.occurrences j i 0 j.length 1).isEmpty) else !(Builtin.Str.occurrences j i 0 j.length 1).isEmpty)) H -> r (.str i) (.str j) H Q)
  (h2 : ∀ x y H Q p xs d ds,y = V.ref p -> SqL T.K H p xs -> DaV T.K H x d -> DaVs T.K H xs ds -> d.canLay0 = true -> (∀ e ∈ ds,e.canLay0 = true /\ e.depth <= 30) -> Q (V.bl (if neg then !(ds.any λe=>PyData.eqv e d) else ds.any λe=>PyData.eqv e d)) H -> r x y H Q)
  (h2t : ∀ x y H Q p xs d ds,y = V.ref p -> SqT T.K H p xs -> DaV T.K H x d -> DaVs T.K H xs ds -> d.canLay0 = true -> (∀ e ∈ ds,e.canLay0 = true /\ e.depth <= 30) -> Q (V.bl (if neg then !(ds.any λe=>PyData.eqv e d) else ds.any λe=>PyData.eqv e d)) H -> r x y H Q)
  (h3 : ∀ (y : V) (a : Addr) o H Q,DGet H a y o -> Q (V.bl (if neg then !o.isSome else o.isSome)) H -> r y (.ref a) H Q) :
  OpS T (λx y h=>match inA x y h with | some b=>.ok (.bl (if neg then !b else b)) h | none=>.bad) r:=by
 intro ι h H x y u w E Q S rx ry p
 dsimp only at p
 cases hb : inA x y h with
 | none=>rw [hb] at p; exact p.elim
 | some b =>
  rw [hb] at p
  dsimp only at p
  unfold inA at hb
  split at hb
  ·cases hb
   obtain ⟨rfl,_⟩:=ybu rx
   obtain ⟨rfl,_⟩:=ybu ry
   exact h1 _ _ _ _ (p.now S (.bl _))
  ·rename_i n
   split at hb
   ·rename_i t kvs hn
    split at hb
    ·rename_i hk
     cases hb
     cases ry with
     | @ref _ ad hr =>
      obtain ⟨o,dg,alt⟩:=zdS S hn hr rx hk
      refine h3 u ad o H Q dg ?_
      rcases alt with ⟨v1,rfl⟩ | ⟨v,u',v1,rfl,r3⟩
      ·rw [v1] at p; exact p.now S (.bl _)
      ·rw [v1] at p; exact p.now S (.bl _)
    ·cases hb
   ·rename_i xs hn
    split at hb
    ·rename_i d ds e1 e2
     cases hb
     obtain ⟨a,us,rfl,sq,rs⟩:=yb8 (xs:=xs) S ry (by simp [ybT,hn])
     obtain ⟨q1,q2,q3⟩:=ycO S 8 rx e1
     obtain ⟨q4,q5⟩:=zbI (n:=8) (λr e=>ycO S 8 r e) rs e2
     exact h2 _ _ _ _ a us d ds rfl sq q1 q4 q2 (λe he=>⟨(q5 e he).1,by have:=(q5 e he).2; lia⟩) (p.now S (.bl _))
    ·cases hb
   ·cases hb
  ·rename_i xs
   split at hb
   ·rename_i d ds e1 e2
    cases hb
    obtain ⟨a,us,rfl,sq,rs⟩:=yb8 S ry rfl
    obtain ⟨q1,q2,q3⟩:=ycO S 8 rx e1
    obtain ⟨q4,q5⟩:=zbI (n:=8) (λr e=>ycO S 8 r e) rs e2
    exact h2 _ _ _ _ a us d ds rfl sq q1 q4 q2 (λe he=>⟨(q5 e he).1,by have:=(q5 e he).2; lia⟩) (p.now S (.bl _))
   ·cases hb
  ·rename_i xs
   split at hb
   ·rename_i d ds e1 e2
    cases hb
    obtain ⟨a,us,rfl,sq,rs⟩:=ydx ry
    obtain ⟨q1,q2,q3⟩:=ycO S 8 rx e1
    obtain ⟨q4,q5⟩:=zbI (n:=8) (λr e=>ycO S 8 r e) rs e2
    exact h2t _ _ _ _ a us d ds rfl sq q1 q4 q2 (λe he=>⟨(q5 e he).1,by have:=(q5 e he).2; lia⟩) (p.now S (.bl _))
   ·cases hb
  ·cases hb
end
end Sm
namespace L2
open PySem PySem.Spec PyProof.Rows
section
variable {X : Cx} {pins : List (Addr × Obj)} {σ : St} {H : Hp} {s : Shared}
theorem zem (I : Inv X pins σ H s) (hu : X.A.units + 64 < cLine) {xs : List V} {ds : List PyData} {its : List Value} {d : PyData} {v : Value} {as : List Addr} (ra : Reads s.heap v d as) (hds : DaVs X.K H xs ds) (r : Vals xs its) (cd : d.canLay0 = true) (cds : ∀ e ∈ ds,e.canLay0 = true /\ e.depth <= 30) :
  (∀ y,y ∈ its.toArray -> SeqAt.EqAt X.A.in1 s y v (isD s.heap d y)) /\ its.toArray.any (isD s.heap d) = ds.any λe=>PyData.eqv e d:=by
 obtain ⟨hl,hat⟩:=zf8 I hds r
 constructor
 ·intro y hy
  have hy' : y ∈ its:=by simpa using hy
  obtain ⟨j,hj⟩:=List.getElem?_of_mem hy'
  have hlt:=(List.getElem?_eq_some_iff.mp hj).1
  have hdj : ds[j]? = some (ds[j]'(by lia)):=List.getElem?_eq_getElem (by lia)
  obtain ⟨bs,rb⟩:=hat j _ _ hj hdj
  have cj:=cds _ (List.mem_of_getElem? hdj)
  rw [isD_of cj.1 rb]
  exact SeqAt.eqAt_reads _ _ _ _ _ _ _ _ rb ra cj.1 cd (by
   have:=Nat.min_le_left (ds[j]'(by lia)).depth d.depth
   show X.A.units + 1 + _ < cLine
   lia)
 ·rw [<- Array.any_toList]
  refine zf9 hl λj u e h1 h2=>?_
  obtain ⟨bs,rb⟩:=hat j _ _ h1 h2
  exact isD_of (cds _ (List.mem_of_getElem? h2)).1 rb
def ygp (K : PySem.W.Frag) : R2:=λx y H Q=>∃ p xs d ds,y = .ref p /\ SqL K H p xs /\ DaV K H x d /\ DaVs K H xs ds /\ d.canLay0 = true /\ (∀ e ∈ ds,e.canLay0 = true /\ e.depth <= 30) /\ Q (.bl (!(ds.any λe=>PyData.eqv e d))) H
def yf8 (K : PySem.W.Frag) : R2:=λx y H Q=>∃ p xs d ds,y = .ref p /\ SqT K H p xs /\ DaV K H x d /\ DaVs K H xs ds /\ d.canLay0 = true /\ (∀ e ∈ ds,e.canLay0 = true /\ e.depth <= 30) /\ Q (.bl (!(ds.any λe=>PyData.eqv e d))) H
theorem zhJ (hu : X.A.units + 64 < cLine) : OpR X (compareOp .NotIn) (ygp X.K):=by
 intro pins s σ H x y v u Q I rx ry h
 obtain ⟨p,xs,d,ds,rfl,hq,hd,hds,cd,cds,q⟩:=h
 cases ry
 obtain ⟨its,r,pl,hz⟩:=I.list hq
 obtain ⟨as,ra⟩:=hd.reads I rx
 obtain ⟨h1,h2⟩:=zem I hu ra hds r cd cds
 exact SeqAt.notIn_listAt (isD s.heap d) pl.isList h1 ⟨.bl _,H,I,rfl,by rw [h2]; exact q⟩
theorem zgX (hu : X.A.units + 64 < cLine) : OpR X (compareOp .NotIn) (yf8 X.K):=by
 intro pins s σ H x y v u Q I rx ry h
 obtain ⟨p,xs,d,ds,rfl,hq,hd,hds,cd,cds,q⟩:=h
 cases ry
 obtain ⟨its,r,pl,hz⟩:=I.tuple hq
 obtain ⟨as,ra⟩:=hd.reads I rx
 obtain ⟨h1,h2⟩:=zem I hu ra hds r cd cds
 exact SeqAt.notIn_tupleAt (isD s.heap d) pl h1 ⟨.bl _,H,I,rfl,by rw [h2]; exact q⟩
theorem zfa (hu : X.A.units + 64 < cLine) : OpR X (compareOp .NotIn) (λx y H Q=>∃ a o,y = .ref a /\ DGet H a x o /\ Q (.bl (!o.isSome)) H):=by
 intro pins s σ H x y v u Q I rx ry h
 obtain ⟨a,o,rfl,g,q⟩:=h
 cases ry
 exact zjr (Nat.lt_of_le_of_lt (Nat.add_le_add_left (by decide : 1 <= 64) _) hu) I g rx λs' I' => ⟨.bl _,H,I',rfl,q⟩
end
end L2
namespace Sm
open PySem PySem.Spec L2
section
variable {T : Tb} {E : St -> XK} {X : Cx}
theorem zdU (hK : X.K = T.K) (hu : X.A.units + 64 < cLine) : Op T X (compareOp .NotIn) ycB:=by
 refine ⟨_,zeW.or ((zhJ hu).or ((zgX hu).or (zfa hu))),zjS (neg:=true) (g:=compareOp .NotIn) hK ?_ ?_ ?_ ?_⟩
 ·exact λi j H Q q=>.inl ⟨i,j,rfl,rfl,q⟩
 ·exact λx y H Q p xs d ds e1 e2 e3 e4 e5 e6 q=>.inr (.inl ⟨p,xs,d,ds,e1,hK ▸ e2,hK ▸ e3,hK ▸ e4,e5,e6,q⟩)
 ·exact λx y H Q p xs d ds e1 e2 e3 e4 e5 e6 q=>.inr (.inr (.inl ⟨p,xs,d,ds,e1,hK ▸ e2,hK ▸ e3,hK ▸ e4,e5,e6,q⟩))
 ·exact λy a o H Q g q=>.inr (.inr (.inr ⟨a,o,rfl,g,q⟩))
end
abbrev ErrC (x : Str) (C : Addr) (mg : Str -> Option Value) (base : Heap) : Prop:=PyProof.Rows.OwnCls x C [.type "ValueError",.type "Exception",.type "BaseException",.type "object"] "ValueError.__new__" mg base
structure GX (T : Tb) (mg : Str -> Option Value) (base : Heap) (c : Nat) (x : Str) : Prop where
 ex : ∃ C,T.exc c = some C /\ ErrC x C mg base
section
variable {T : Tb} {E : St -> XK} {X : Cx} {pos np cpos : Pos} {e : Expr} {es : List Expr} {x : Str} {c : Nat} {as : SL}
theorem zaR (G : GX T X.mg X.base c x) (hr : yc4 X E) (hg : Gl X x) (ha : PAA T E X (e :: es) as) (h6 : c < 64:=by decide) (hc : X.calm = true:=by rfl) (hex : X.ex = []:=by rfl)
  (hdb : (x == ("__debug__" : Str)) = false:=by decide) (he : starEach (e :: es) X.env = (false,eval e X.env) :: starEach es X.env:=by rfl) (hpl : (backTo cpos (starEach es X.env)).any (·.1) = false:=by rfl) :
  PSA T E X (.Raise (some (.Call (.Name x np) (e :: es) [] cpos)) none pos) (ycn c as):=by
 obtain ⟨C,h1,O⟩:=G.ex
 refine ycm (ziz O PySem.F.excBase_ValueError hc hex hr hg ha hdb he hpl) λD σ H=>E6x λι h en S er q=>⟨ι,h,en,S,er,q.go er λxs h1' ι1 H1 us g1 S1 r1 q1=>?_⟩
 split at q1
 ·rename_i hl
  exact ⟨by rw [<- r1.length]; exact hl,q1 ι1 H1 σ (C,none) S1.refl S1 (er.mono g1) ⟨h1,zjG h6⟩⟩
 ·exact q1.elim
theorem yiv {xc n : Str} {i : Nat} {body suite : List Stmt} {b0 : Stmt} {hpos : Pos} {sb hd : SS} {outer : List Env} {C : Addr} {catches : Nat -> Bool} (hK : X.K = T.K) (hN : X.N.Nodup) (hg : Gl X xc) (hm : X.mg xc = some (.ref C))
  (hcat : ∀ c C',catches c = true -> T.exc c = some C' -> PySem.W.exmOne T.K (.ref C') (.ref C) = some true)
  (hb : ∀ pins xe Ex,CA T Ex (tryC X pins xe) -> yc4 (tryC X pins xe) Ex -> PSsA T Ex (tryC X pins xe) body sb) (hh : ∀ a,CA T EN (hdlC X a) -> PSsA T EN (hdlC X a) (b0 :: suite) hd)
  (hex : X.ex = []:=by rfl) (hst : X.stack = X.env :: outer:=by rfl) (hf : X.env.frame = some X.env.locals:=by rfl) (hi : X.N[i]? = some n:=by rfl) (hl : X.env.scope.names.lookup n = some .local:=by rfl) (hdb : (xc == ("__debug__" : Str)) = false:=by decide) :
  PSA T E X (.Try body [.ExceptHandler (some (.Name xc np)) (some n) (b0 :: suite) hpos] [] [] pos) (sTry i catches sb hd):=by
 refine ycm (yha hex hst hf hN hi hl hg hm (λpins xe Ex h1 h2=>hb pins xe Ex ⟨hK,h1⟩ h2) (λa=>hh a (CA.never hK)) hdb) λD σ H=>E6x λι h en S er q=>⟨ι,h,en,S,er,?_⟩
 unfold sTry at q
 cases e1 : sb en h with
 | nx e2 h2=>rw [e1] at q; exact q
 | rt v h2=>rw [e1] at q; exact q
 | bk e2 h2=>rw [e1] at q; exact q
 | ct e2 h2=>rw [e1] at q; exact q
 | bad=>rw [e1] at q; exact q
 | ex c e2 h2 =>
  rw [e1] at q
  dsimp only at q
  intro ι' H' σ' C' g S' er' ec
  by_cases hcc : catches c = true
  ·rw [if_pos hcc] at q
   refine ⟨hK ▸ hcat c C'.1 hcc ec.1,λa hn=>⟨ι',h2,e2.set i (some (.exc c)),S'.new hn,(er'.mono (S'.growNew hn)).set (.exc (S'.fresh hn) ⟨ec.1,ec.2.ext (S'.growNew hn).ext⟩ zaq) i,?_⟩⟩
   have q2:=PostS.shift q (g.trans (S'.growNew (o:=excO a (.ref C'.1) C'.2) hn))
   cases e3 : hd (e2.set i (some (.exc c))) h2 with
   | nx e4 h4=>rw [e3] at q2; exact λι5 H5 σ5 g5 S5 er5=>q2 ι5 H5 _ g5 S5 (er5.unset i)
   | bk e4 h4=>rw [e3] at q2; exact λι5 H5 σ5 g5 S5 er5=>q2 ι5 H5 _ g5 S5 (er5.unset i)
   | ct e4 h4=>rw [e3] at q2; exact λι5 H5 σ5 g5 S5 er5=>q2 ι5 H5 _ g5 S5 (er5.unset i)
   | rt v h4=>rw [e3] at q2; exact q2
   | ex c' e4 h4=>rw [e3] at q2; exact (show False from q2).elim
   | bad=>rw [e3] at q2; exact q2
  ·rw [if_neg hcc] at q; exact (show False from q).elim
end
def ydP (T : Tb) (f : Fn) (r : List V -> Hp -> VK -> Prop) : Prop:=∀ (ι : Ix) (h : AH) (H : Hp) (xs : List AV) (us : List V) (E : XK) (Q : VK),Sim T ι h H -> RVs T ι H xs us -> Post T ι H E (RV T) (f xs h) Q -> r us H Q
section
variable {T : Tb} {E : St -> XK} {X : Cx} {pos p : Pos} {e a : Expr} {es : List Expr} {x : Str} {as : SL} {sa : SE}
theorem yiw {f : Fn} {r : List V -> Hp -> VK -> Prop} (hs : ydP T f r) {σ : St} {H : Hp} {Q : VK} (q : tE T E (yal f as) σ H Q) : tCB r (tA T E as) σ H Q:=by
 obtain ⟨ι,h,en,S,er,q⟩:=q
 exact ⟨ι,h,en,S,er,q.bind λxs h1 ι1 H1 us g1 S1 r1 q1=>hs ι1 h1 H1 xs us _ Q S1 r1 q1⟩
theorem r_bi {id : String} {f : Fn} (hc : ∃ r,CallR X (.builtin id) r /\ ydP T f r) (hg : Gl X x) (hm : X.mg x = none) (hv : bootBuiltins x = some (.builtin id)) (ha : PAA T E X (e :: es) as) (hn : x ≠ "__name__" := by decide) (hdb : (x == ("__debug__" : Str)) = false:=by decide)
  (he : starEach (e :: es) X.env = (false,eval e X.env) :: starEach es X.env:=by rfl) (hpl : (backTo pos (starEach es X.env)).any (·.1) = false:=by rfl) : PEA T E X (.Call (.Name x p) (e :: es) [] pos) (yal f as):=by
 obtain ⟨r,h1,h2⟩:=hc
 exact yaU (zcZ h1 hg hm hv ha hn hdb he hpl) λσ H Q q=>yiw h2 q
theorem b_len (hK : X.K = T.K) : ∃ r,CallR X (.builtin "len") r /\ ydP T fLen r:=by
 refine ⟨_,zeY.or (zeX.or zhq),λι h H xs us E Q S r q=>?_⟩
 unfold fLen at q
 split at q
 ·cases r with
  | cons r r' =>
   cases r'
   obtain ⟨rfl,n,_⟩:=ybu r
   exact .inl ⟨_,rfl,n,q.now S (.int _)⟩
 ·cases r with
  | cons r r' =>
   cases r'
   obtain ⟨a,us,rfl,sq,rs⟩:=ydx r
   exact .inr (.inl ⟨a,us,rfl,.inr (hK ▸ sq),by rw [<- rs.length]; exact q.now S (.int _)⟩)
 ·cases r with
  | cons r r' =>
   cases r'
   obtain ⟨a,us,rfl,sq,rs⟩:=yb8 S r rfl
   exact .inr (.inl ⟨a,us,rfl,.inl (hK ▸ sq),by rw [<- rs.length]; exact q.now S (.int _)⟩)
 ·rename_i n
  cases r with
  | cons r r' =>
   cases r'
   split at q
   ·rename_i xs hn
    obtain ⟨a,us,rfl,sq,rs⟩:=yb8 (xs:=xs) S r (by simp [ybT,hn])
    exact .inr (.inl ⟨a,us,rfl,.inl (hK ▸ sq),by rw [<- rs.length]; exact q.now S (.int _)⟩)
   ·rename_i kvs hn
    cases r with
    | @ref _ ad hr =>
     obtain ⟨o,e1,kus,rfl,rs⟩:=S.obj n _ ad hn hr
     exact .inr (.inr ⟨ad,kus,rfl,e1,by rw [<- Paired.length rs]; exact q.now S (.int _)⟩)
   ·exact q.elim
 ·exact q.elim
theorem b_abs : ∃ r,CallR X (.builtin "abs") r /\ ydP T fAbs r:=by
 refine ⟨_,zid,λι h H xs us E Q S r q=>?_⟩
 unfold fAbs at q
 split at q
 ·cases r with
  | cons r r' => cases r'; rw [yaE r]; exact ⟨_,rfl,q.now S (.int _)⟩
 ·exact q.elim
theorem yhm (hc : X.calm = true:=by rfl) : ∃ r,CallR X (.builtin "max") r /\ ydP T yfq r:=by
 refine ⟨_,zhh hc,λι h H xs us E Q S r q=>?_⟩
 unfold yfq at q
 split at q
 ·cases r with
  | cons r r' => cases r' with
   | cons r1 r2=>cases r2; rw [yaE r,yaE r1]; exact ⟨_,_,rfl,q.now S (.int _)⟩
 ·exact q.elim
theorem zfb {ι : Ix} {H : Hp} : ∀ {xs : List AV} {us : List V} {bs : List Bool},RVs T ι H xs us -> yd3 xs = some bs -> us = bs.map V.bl
 | _,_,_,.nil,e=>by cases e; rfl
 | _,_,bs,.cons (x:=x) r rs,e=>by
  unfold yd3 at e
  split at e
  ·rename_i hh; cases hh
  ·rename_i b r' hh
   cases hh
   obtain ⟨bs',e1,rfl⟩:=Option.map_eq_some_iff.mp e
   rw [ycv r,zfb rs e1]; rfl
  ·cases e
theorem b_all (hK : X.K = T.K) (hc : X.calm = true:=by rfl) : ∃ r,CallR X (.builtin "all") r /\ ydP T fAll r:=by
 refine ⟨_,zit hc,λι h H xs us E Q S r q=>?_⟩
 unfold fAll at q
 split at q
 ·split at q
  ·rename_i bs hb
   cases r with
   | cons r r' =>
    cases r'
    obtain ⟨a,us,rfl,sq,rs⟩:=yb8 S r rfl
    rw [zfb rs hb] at sq
    exact ⟨a,bs,rfl,hK ▸ sq,q.now S (.bl _)⟩
  ·exact q.elim
 ·exact q.elim
abbrev tys : List String:=["NoneType", "bool", "int", "str", "list", "tuple", "dict"]
theorem yfS (K : PySem.W.Frag) : ∀ n ∈ tys,∀ t ∈ tys,PySem.W.kitOne K (.type n) (.type t) = some (n == t || (t == "int" && n == "bool")):=by
 intro n hn t ht
 simp only [tys,List.mem_cons,List.not_mem_nil,or_false] at hn ht
 rcases hn with rfl | rfl | rfl | rfl | rfl | rfl | rfl<;>rcases ht with rfl | rfl | rfl | rfl | rfl | rfl | rfl<;>rfl
theorem zhK {c : V} {cv : Value} (rc : ∀ u,RelV c u -> u = cv) :
  CallR X (.builtin "isinstance") (λxs H Q=>∃ a us r,xs = [.ref a,c] /\ SqL X.K H a us /\ PySem.W.kitOne X.K (.type "list") cv = some r /\ Q (.bl r) H):=by
 intro pins s σ H xs us Q I r h
 obtain ⟨a,ws,k,rfl,sq,hk,q⟩:=h
 obtain ⟨u,w',rfl,rx,ry⟩:=ye4 r
 obtain rfl:=rc _ ry
 obtain rfl : u = Value.ref a:=rx
 obtain ⟨its,_,⟨o,n,e1,e2,_⟩,_⟩:=I.list sq
 exact PySem.W.kia_one PySem.W.kitx_list I.kIn ⟨_,e1,e2⟩ hk (λz=>nomatch z) λtk=>⟨.bl k,H,I.tok _,rfl,q⟩
theorem yix {ι : Ix} {h : AH} {H : Hp} {v : AV} {u : V} {n : String} (S : Sim T ι h H) (r : RV T ι H v u) (e : tyN v h = some n) : (TyOf T.K H u (.type n) \/ (n = "list" /\ ∃ a us,u = .ref a /\ SqL T.K H a us)) /\ n ∈ tys:=by
 unfold tyN at e
 cases r with
 | non=>cases e; exact ⟨.inl .non,by decide⟩
 | bl b=>cases e; exact ⟨.inl (.bl b),by decide⟩
 | int b=>cases e; exact ⟨.inl (.int b),by decide⟩
 | str n o=>cases e; exact ⟨.inl (.str _),by decide⟩
 | tup n q r=>cases e; exact ⟨.inl (.tup q),by decide⟩
 | fl n q r=>cases e; exact ⟨.inr ⟨rfl,_,_,rfl,.inl q⟩,by decide⟩
 | kfl q r=>cases e; exact ⟨.inr ⟨rfl,_,_,rfl,.inr q⟩,by decide⟩
 | @ref k a q =>
  dsimp only at e
  split at e
  ·rename_i xs hn
   cases e
   obtain ⟨o,e1,us,rfl,rs⟩:=S.obj k _ a hn q
   exact ⟨.inl (.lst e1),by decide⟩
  ·rename_i t kvs hn
   cases e
   obtain ⟨o,e1,r⟩:=S.obj k _ a hn q
   cases t with
   | false=>obtain ⟨kus,rfl,rs⟩:=r; exact ⟨.inl (.dK e1),by decide⟩
   | true=>obtain ⟨kus,rfl,rs⟩:=r; exact ⟨.inl (.dT e1),by decide⟩
  ·cases e
 | exc _ _ _=>cases e
theorem ye7 {t : Str} {id : String} {p2 : Pos} (hK : X.K = T.K) (hg : Gl X "isinstance") (hm : X.mg "isinstance" = none) (ha : PEA T E X a sa) (hgt : Gl X t) (hmt : X.mg t = none) (hvt : bootBuiltins t = some (.type id)) (hid : id ∈ tys) (hnt : t ≠ "__name__" := by decide) (hdt : (t == ("__debug__" : Str)) = false:=by decide)
  (he : starEach [a,.Name t p2] X.env = (false,eval a X.env) :: starEach [.Name t p2] X.env:=by rfl) : PEA T E X (.Call (.Name "isinstance" p) [a,.Name t p2] [] pos) (sIsB id sa):=by
 refine yaU (zcZ ((zis (X:=X) (yfp id)).or (zhK (X:=X) (yfp id))) hg hm PyProof.Rows.boot_isinstance (zbG ha (zbG (zf1 (v:=.ty id) hgt hmt hvt rfl hnt hdt) yff) he) (he:=he)) λσ H Q=>E6x λι h en S er q=>⟨ι,h,en,S,er,q.bind λv h1 ι1 H1 u g1 S1 r1 q1=>?_⟩
 split at q1
 ·rename_i n hn
  obtain ⟨ty,hmem⟩:=yix S1 r1 hn
  rcases ty with ty | ⟨rfl,ad,us,rfl,sq⟩
  ·exact .inl ⟨u,.type n,_,rfl,hK ▸ ty,yfS _ n hmem id hid,q1.now S1 (.bl _)⟩
  ·exact .inr ⟨ad,us,_,rfl,hK ▸ sq,yfS _ _ hmem id hid,q1.now S1 (.bl _)⟩
 ·exact q1.elim
theorem ygi {t : Str} {p2 : Pos} {cv : Value} {cV : V} {pr : Nat -> Bool} (hK : X.K = T.K) (hg : Gl X "isinstance") (hm : X.mg "isinstance" = none) (ha : PEA T E X a sa) (hcl : PE X (.Name t p2) (tC cV)) (rc : ∀ u,RelV cV u -> u = cv)
  (hp : ∀ c C,T.exc c = some C -> ExcK T.K C /\ PySem.W.kitOne T.K (.ref C) cv = some (pr c)) (he : starEach [a,.Name t p2] X.env = (false,eval a X.env) :: starEach [.Name t p2] X.env:=by rfl) : PEA T E X (.Call (.Name "isinstance" p) [a,.Name t p2] [] pos) (sIsX pr sa):=by
 refine yaU (zcZ (ziF (X:=X) rc) hg hm PyProof.Rows.boot_isinstance (zbG ha (zbG hcl yff) he) (he:=he)) λσ H Q=>E6x λι h en S er q=>⟨ι,h,en,S,er,q.bind λv h1 ι1 H1 u g1 S1 r1 q1=>?_⟩
 split at q1
 ·rename_i c
  cases r1 with
  | @exc _ C ad n ec hq =>
   obtain ⟨Z,k⟩:=hp c C.1 ec.1
   exact ⟨ad,C.1,_,rfl,⟨_,hq⟩,hK ▸ Z,hK ▸ k,q1.now S1 (.bl _)⟩
 ·exact q1.elim
def MtS (T : Tb) (f : FM) (r : V -> List V -> Hp -> VK -> Prop) : Prop:=∀ (ι : Ix) (h : AH) (H : Hp) (x : AV) (xs : List AV) (u : V) (us : List V) (E : XK) (Q : VK),Sim T ι h H -> RV T ι H x u -> RVs T ι H xs us -> Post T ι H E (RV T) (f x xs h) Q -> r u us H Q
def ChkS (T : Tb) (chk : AV -> AH -> Bool) (n : String) : Prop:=∀ (ι : Ix) (h : AH) (H : Hp) (x : AV) (u : V),Sim T ι h H -> RV T ι H x u -> chk x h = true -> tyV T.K n u H
theorem zav : ChkS T ya6 "list" := λι h H x u S r e=>by
 obtain ⟨xs,e1⟩:=Option.isSome_iff_exists.mp e
 obtain ⟨a,us,rfl,sq,rs⟩:=yb8 S r e1
 exact .inl ⟨rfl,us,sq⟩
theorem zjT : ChkS T yfr "str" := λι h H x u S r e=>by
 unfold yfr at e
 split at e
 ·obtain ⟨rfl,_⟩:=ybu r; rfl
 ·cases e
variable {o : Expr} {so : SE} {name : Str} {apos : Pos} {chk : AV -> AH -> Bool} {f : FM} {tn id : String}
theorem r_bm (hK : X.K = T.K) (pa : PlainAttrs tn) (slot : Slot tn name id) (hty : typeOf (.builtin id) = pure (.type "method_descriptor")) (hm : ∃ r,MtR X id r /\ MtS T f r) (hc : ChkS T chk tn) (ho : PEA T E X o so) (ha : PAA T E X (e :: es) as)
  (hbase : attributeBase o name X.env (eval o X.env) = eval o X.env:=by rfl)
  (hfew : ((backTo pos (starEach (e :: es) X.env)).all (λx=>!x.1) && (backToKw pos (keywordEach [] X.env)).all (λx=>x.1.isSome)
   && decide ((e :: es).length + ([] : List Keyword).length + (if ([] : List Keyword).isEmpty then 0 else 1) < 30)) = true:=by rfl)
  (hline : (apos.endLine == pos.line) = true:=by rfl) (hs : starEach (e :: es) X.env = (false,eval e X.env) :: starEach es X.env:=by rfl) (hplain : (backTo pos (starEach es X.env)).any (·.1) = false:=by rfl) :
  PEA T E X (.Call (.Attribute o name apos) (e :: es) [] pos) (sBM chk f so as):=by
 obtain ⟨r,h1,h2⟩:=hm
 refine yaU (yif pa slot hty h1 ho ha hbase hfew hline hs hplain) λσ H Q=>E6x λι h en S er q=>⟨ι,h,en,S,er,q.bind λx h1 ι1 H1 u g1 S1 r1 q1=>?_⟩
 by_cases hx : chk x h1 = true
 ·rw [if_pos hx] at q1
  exact ⟨hK ▸ hc ι1 h1 H1 x u S1 r1 hx,ι1,h1,en,S1,er.mono g1,q1.bind λxs h2' ι2 H2 us g2 S2 r2 q2=>h2 ι2 h2' H2 x xs u us _ Q S2 (r1.mono g2) r2 q2⟩
 ·rw [if_neg hx] at q1; exact q1.elim
theorem yfu (hK : X.K = T.K) (pa : PlainAttrs tn) (slot : Slot tn name id) (hty : typeOf (.builtin id) = pure (.type "method_descriptor")) (hm : ∃ r,MtR X id r /\ MtS T f r) (hc : ChkS T chk tn) (ho : PEA T E X o so)
  (hbase : attributeBase o name X.env (eval o X.env) = eval o X.env:=by rfl) (hline : (apos.endLine == pos.line) = true:=by rfl) : PEA T E X (.Call (.Attribute o name apos) [] [] pos) (sBM0 chk f so):=by
 obtain ⟨r,h1,h2⟩:=hm
 refine yaU (ygU pa slot hty h1 ho hbase hline) λσ H Q=>E6x λι h en S er q=>⟨ι,h,en,S,er,q.bind λx h1 ι1 H1 u g1 S1 r1 q1=>?_⟩
 by_cases hx : chk x h1 = true
 ·rw [if_pos hx] at q1
  exact ⟨hK ▸ hc ι1 h1 H1 x u S1 r1 hx,h2 ι1 h1 H1 x [] u [] _ Q S1 r1 .nil q1⟩
 ·rw [if_neg hx] at q1; exact q1.elim
theorem zaw : ∃ r,MtR X "list.append" r /\ MtS T yaV r:=by
 refine ⟨_,zed,λι h H x xs u us E Q S rx rs q=>?_⟩
 unfold yaV at q
 split at q
 ·rename_i n y
  split at q
  ·rename_i ys hn
   split at q
   ·rename_i hl
    cases rx with
    | @ref _ ad hr =>
     cases rs with
     | @cons _ uu _ _ r r' =>
      cases r'
      obtain ⟨o,e1,ws,rfl,rw_⟩:=S.obj n _ ad hn hr
      have g:=S.growSet (u:=.lst (ws++[uu])) hr
      exact ⟨ad,ws,_,rfl,rfl,e1,by rw [<- rw_.length]; exact hl,q ι _ _ g (S.set hr ⟨_,rfl,(rw_.mono g).append (.cons (r.mono g) .nil)⟩) .non⟩
   ·exact q.elim
  ·exact q.elim
 ·exact q.elim
theorem ygj : ∃ r,MtR X "list.pop" r /\ MtS T mPop r:=by
 refine ⟨_,ygV,λι h H x xs u us E Q S rx rs q=>?_⟩
 unfold mPop at q
 split at q
 ·rename_i n
  split at q
  ·rename_i ys hn
   split at q
   ·rename_i y hy
    cases rx with
    | @ref _ ad hr =>
     cases rs
     obtain ⟨o,e1,ws,rfl,rw_⟩:=S.obj n _ ad hn hr
     have g:=S.growSet (u:=.lst ws.dropLast) hr
     obtain ⟨v,e2,r2⟩:=rw_.get hy
     refine ⟨ad,ws,v,rfl,rfl,e1,by rw [<- rw_.length]; exact e2,q ι _ _ g (S.set hr ⟨_,rfl,?_⟩) (r2.mono g)⟩
     have z:=(rw_.mono g).take (ys.length - 1)
     have e3 : ys.take (ys.length - 1) = ys.dropLast:=List.dropLast_eq_take.symm
     have e4 : ws.take (ys.length - 1) = ws.dropLast:=by rw [rw_.length]; exact List.dropLast_eq_take.symm
     rw [e3,e4] at z
     exact z
   ·exact q.elim
  ·exact q.elim
 ·exact q.elim
theorem ziM : ∃ r,MtR X "str.count" r /\ MtS T ye1 r:=by
 refine ⟨_,ze1,λι h H x xs u us E Q S rx rs q=>?_⟩
 unfold ye1 at q
 split at q
 ·cases rs with
  | cons r r' =>
   cases r'
   obtain ⟨rfl,_⟩:=ybu rx
   obtain ⟨rfl,_⟩:=ybu r
   exact ⟨_,_,rfl,rfl,q.now S (.int _)⟩
 ·exact q.elim
end
theorem Out.bind_assoc {α β γ : Type} (o : Out α) (f : α -> AH -> Out β) (g : β -> AH -> Out γ) : (o.bind f).bind g = o.bind λa h=>(f a h).bind g:=by cases o<;>rfl
section
variable {T : Tb} {E : St -> XK} {X : Cx} {pos p2 : Pos} {a b : Expr} {sa sb : SE}
def tO (T : Tb) (E : St -> XK) : Option SE -> TO
 | none=>yfl
 | some s=>yga (tE T E s)
abbrev POA (T : Tb) (E : St -> XK) (X : Cx) (e : Option Expr) (s : Option SE) : Prop:=PO X e (tO T E s)
theorem zcD : POA T E X none none:=zjm
theorem zbp (h : PEA T E X a sa) : POA T E X (some a) (some sa):=zjn h
@[simp] def ye8 (s : Option SE) : En -> AH -> Out (Option Int):=λen h=>match s with
 | none=>.ok none h
 | some l=>(l en h).bind λv h2=>match v with | .int i=>.ok (some i) h2 | _=>.bad
theorem zgj {s : Option SE} {σ : St} {H : Hp} {ι : Ix} {h : AH} {en : En} {γ δ : Type} {R' : Ix -> Hp -> γ -> δ -> Prop} {Q0 : δ -> Hp -> Prop} {f : Option Int -> AH -> Out γ} {Q : Option Int -> Hp -> Prop} (S : Sim T ι h H) (er : ER T ι H en σ) (q : Post T ι H (E σ) R' ((ye8 s en h).bind f) Q0)
  (k : ∀ l h' ι' H',Grow ι H ι' H' -> Sim T ι' h' H' -> Post T ι' H' (E σ) R' (f l h') Q0 -> Q l H') : tO T E s σ H Q:=by
 cases s with
 | none=>exact k none h ι H S.refl S q
 | some l =>
  refine ⟨ι,h,en,S,er,?_⟩
  unfold ye8 at q
  dsimp only at q
  rw [Out.bind_assoc] at q
  refine q.bind λv h1 ι1 H1 u g1 S1 r1 q1=>?_
  split at q1
  ·rw [yaE r1]
   exact ⟨_,rfl,k _ _ ι1 H1 g1 S1 q1⟩
  ·exact q1.elim
@[simp] def ydo (x : AV) (l u : Option Int) (h : AH) : Out AV:=match x with
 | .fl xs=>.ok (.fl (cutA xs l u)) h
 | .str z=>.ok (.str (cutS z l u)) h
 | .tup xs=>if ¬ (HT.sIx xs.length 0 l = 0 /\ HT.sIx xs.length xs.length u = xs.length) then .ok (.tup (cutA xs l u)) h else .bad
 | .ref n=>match h[n]? with
  | some (.lst xs)=>.ok (.fl (cutA xs l u)) h
  | _=>.bad
 | _=>.bad
@[simp] def sCut (a : SE) (lo hi : Option SE) : SE:=λen h=>(a en h).bind λx h1=>(ye8 lo en h1).bind λl h2=>(ye8 hi en h2).bind λu h3=>ydo x l u h3
theorem RVs.cut {ι : Ix} {H : Hp} {xs : List AV} {us : List V} {lo hi : Option Int} (r : RVs T ι H xs us) : RVs T ι H (cutA xs lo hi) (cutV us lo hi):=by
 unfold cutA cutV
 rw [<- r.length]
 exact (r.drop _).take _
theorem yhn {ι : Ix} {H : Hp} {z : Str} {l u : Option Int} (hz : z.length <= sizeLine) (hc : z.cps.all (· < 0x110000) = true) : RV T ι H (.str (cutS z l u)) (.str (cutS z l u)):=by
 refine .str ?_ ?_
 ·refine Nat.le_trans ?_ hz
  simp [cutS,Str.length]; lia
 ·simp only [cutS,List.all_toArray,List.all_eq_true]
  intro c h
  have hm : c ∈ z.cps.toList:=List.mem_of_mem_drop (List.mem_of_mem_take h)
  exact (Array.all_eq_true_iff_forall_mem.mp hc) c (by simpa using hm)
theorem zbK {lo hi : Option Expr} {sl sh : Option SE} (hK : X.K = T.K) (ha : PEA T E X a sa) (hl : POA T E X lo sl) (hh : POA T E X hi sh) : PEA T E X (.Subscript a (.Slice lo hi none p2) pos) (sCut sa sl sh):=by
 refine yaU (zih (zjq.or (sl_tup.or yhc)) ha hl hh) λσ H Q=>E6x λι h en S er q=>⟨ι,h,en,S,er,q.bind λx h1 ι1 H1 u g1 S1 r1 q1=>?_⟩
 refine zgj (E:=E) S1 (er.mono g1) q1 λl h2 ι2 H2 g2 S2 q2=>zgj (E:=E) S2 (er.mono (g1.trans g2)) q2 λw h3 ι3 H3 g3 S3 q3=>?_
 have r3:=r1.mono (g2.trans g3)
 unfold ydo at q3
 split at q3
 ·obtain ⟨ad,us,rfl,sq,rs⟩:=yb8 S3 r3 rfl
  exact .inl ⟨ad,us,rfl,hK ▸ sq,λp n=>yeN S3 rs.cut n q3⟩
 ·obtain ⟨rfl,hz,hc⟩:=ybu r3
  exact .inr (.inr ⟨_,rfl,hz,q3.now S3 (yhn hz hc)⟩)
 ·rename_i xs
  split at q3
  ·rename_i hz
   obtain ⟨ad,us,rfl,sq,rs⟩:=ydx r3
   exact .inr (.inl ⟨ad,us,rfl,hK ▸ sq,by rw [<- rs.length]; exact hz,λp n=>zdN S3 rs.cut n q3⟩)
  ·exact q3.elim
 ·split at q3
  ·rename_i xs hn
   obtain ⟨ad,us,rfl,sq,rs⟩:=yb8 (xs:=xs) S3 r3 (by simp [ybT,hn])
   exact .inl ⟨ad,us,rfl,hK ▸ sq,λp n=>yeN S3 rs.cut n q3⟩
  ·exact q3.elim
 ·exact q3.elim
theorem r_gI {x : Str} {i : Int} {p : Pos} (hg : Gl X x) (hm : ∃ t,X.mg x = some (.int i t)) (hd : (x == ("__debug__" : Str)) = false:=by decide) : PEA T E X (.Name x p) (sLit (.int i)):=by
 obtain ⟨t,hm⟩:=hm
 exact zjI hg hm hd
end
def DG (K : PySem.W.Frag) (mg : Str -> Option Value) (x : Str) (st : Stmt) (ps : List Str) : Prop:=∃ f fd,mg x = some (.ref f) /\ PySem.W.keepIn K (.ref f) = true /\ Binds K fd ps [] /\ Fun K x x st f fd
def yfn (N : List Str) (sc : Scope) (ns : List Str) (jf : List (Nat × Str)) (scope : Scope) : Bool :=
 decide (ns++jf.map (·.2)).Nodup && ns.all (λx=>scope.names.lookup x == some .local) && jf.all (λp=>N[p.1]? == some p.2) && jf.all (λp=>scope.names.lookup p.2 == some .free) && (scope.kind == .function) &&
 scope.names.all (λy=>y.2 != .cell) && scope.names.all (λy=>y.2 != .free || sc.names.lookup y.1 == some .cell || sc.names.lookup y.1 == some .free) && scope.names.all (λy=>y.2 != .local || scope.names.lookup y.1 == some .local)
theorem zaN {X : Cx} {N : List Str} {sc scope : Scope} {ns : List Str} {jf : List (Nat × Str)} (hN : X.N = N) (hk : ∀ x,X.env.kindOf x = sc.names.lookup x) (h : yfn N sc ns jf scope = true) : CompOk X ns jf scope:=by
 unfold yfn at h
 simp only [Bool.and_eq_true,decide_eq_true_eq,List.all_eq_true,beq_iff_eq,bne_iff_ne,Bool.or_eq_true] at h
 obtain ⟨⟨⟨⟨⟨⟨⟨h1,h2⟩,h3⟩,h4⟩,h5⟩,h6⟩,h7⟩,h8⟩:=h
 refine ⟨h1,h2,λp hp=>by rw [hN]; exact h3 p hp,h4,h5,λy hy=>h6 y hy,λy hy e=>?_,λy hy e=>?_⟩
 ·rw [hk]
  rcases h7 y hy with (z | z) | z
  ·exact absurd e z
  ·exact .inl z
  ·exact .inr z
 ·rcases h8 y hy with z | z
  ·exact absurd e z
  ·exact z
theorem zdV {T : Tb} {ι : Ix} {H : Hp} : ∀ ns : List Int,RVs T ι H (ns.map AV.int) (ns.map V.int)
 | []=>.nil
 | n :: ns=>.cons (.int n) (zdV ns)
theorem sim0 {T : Tb} {H : Hp} : Sim T ⟨[],[]⟩ [] H:=⟨rfl,List.nodup_nil,(λ_ z=>nomatch z),(λi o a e=>by simp at e)⟩
def spL (K : PySem.W.Frag) : Sp:=λvs H Q _=>∃ (a : Addr) (ns : List Int),vs = [.ref a] /\ SqL K H a (ns.map V.int) /\ ns.length <= 63 /\ ∀ H',Q (.bl true) H'
theorem zjU {T : Tb} {F : Fn} (ht : ∀ ns : List Int,ns.length <= 63 -> ∃ h',F [.fl (ns.map AV.int)] [] = .ok (.bl true) h') : ∀ vs H Q E,spL T.K vs H Q E -> spA T F vs H Q E:=by
 rintro vs H Q E ⟨a,ns,rfl,hs,hl,q⟩
 obtain ⟨h',e⟩:=ht ns hl
 refine ⟨⟨[],[]⟩,[],[.fl (ns.map AV.int)],sim0,.cons ?_ .nil,?_⟩
 ·rcases hs with hs | hs
  ·exact .fl (by simp [Ix.all]) hs (zdV ns)
  ·exact .kfl hs (zdV ns)
 ·rw [e]
  intro ι' H' u g S r
  rw [ycv r]
  exact q H'
theorem zhL {P : Program} {w : World} {outer : List Env} {H : Hp} {s s' : Shared} {e : Value} (h : CXE P w outer H s (λ_ _ _=>False) e s') : False:=by
 obtain ⟨_,_,_,_,_,_,_,_,_,_,_,_,_,_,_,_,q⟩:=h
 exact q
end Sm
namespace L2
open PySem PySem.Spec PyProof.Rows
end L2
namespace Sm
open PySem PySem.Spec L2
section
variable {T : Tb} {E : L2.St -> XK} {X : Cx} {pos p np : Pos} {a : Expr} {sa : SE}
theorem excK_of {K : PySem.W.Frag} {C : Addr} (g1 : PySem.W.findIn K (.ref C) "__getattribute__" = some (some (.builtin "BaseException.__getattribute__"))) (g2 : PySem.W.findIn K (.ref C) "__getattr__" = some none) (g3 : PySem.W.findIn K (.ref C) "__class__" = some (some (.builtin "object.__class__")))
  (g4 : PySem.W.mroIn K C (.type "object") = some true) (g5 : PySem.W.mroIn K C (.type "BaseException") = some true) (g6 : PySem.W.specialIn K (.builtin "object.__class__") "__get__" = some (some (.builtin "getset_descriptor.__get__"))) (g7 : PySem.W.takesIn K (.builtin "object.__class__") = some true) : ExcK K C:=by
 refine ⟨?_,g1,g2,g3,g6,g7,g4,g5⟩
 obtain ⟨cd,hc,_⟩:=Option.bind_eq_some_iff.mp g4
 rw [hc]
 rfl
theorem yeT {t : Str} {p2 : Pos} {pr : Nat -> Bool} (hK : X.K = T.K) (hg : Gl X "isinstance") (hm : X.mg "isinstance" = none) (ha : PEA T E X a sa) (hgt : Gl X t) (hp : ∃ C,X.mg t = some (.ref C) /\ ∀ c C',T.exc c = some C' -> ExcK T.K C' /\ PySem.W.kitOne T.K (.ref C') (.ref C) = some (pr c)) (hd : (t == ("__debug__" : Str)) = false:=by decide)
  (he : starEach [a,.Name t p2] X.env = (false,eval a X.env) :: starEach [.Name t p2] X.env:=by rfl) : PEA T E X (.Call (.Name "isinstance" p) [a,.Name t p2] [] pos) (sIsX pr sa):=by
 obtain ⟨C,h1,h2⟩:=hp
 exact ygi hK hg hm ha (zf0 (v:=.ref C) hgt h1 rfl hd) (yg6 C) h2 he
theorem yho {t : Str} {id : String} {p2 : Pos} {pr : Nat -> Bool} (hK : X.K = T.K) (hg : Gl X "isinstance") (hm : X.mg "isinstance" = none) (ha : PEA T E X a sa) (hgt : Gl X t) (hmt : X.mg t = none) (hvt : bootBuiltins t = some (.type id)) (hp : ∀ c C',T.exc c = some C' -> ExcK T.K C' /\ PySem.W.kitOne T.K (.ref C') (.type id) = some (pr c)) (hnt : t ≠ "__name__" := by decide) (hd : (t == ("__debug__" : Str)) = false:=by decide)
  (he : starEach [a,.Name t p2] X.env = (false,eval a X.env) :: starEach [.Name t p2] X.env:=by rfl) : PEA T E X (.Call (.Name "isinstance" p) [a,.Name t p2] [] pos) (sIsX pr sa) :=
 ygi hK hg hm ha (zf1 (v:=.ty id) hgt hmt hvt rfl hnt hd) (yfp id) hp he
theorem yhp {xc n : Str} {i : Nat} {body suite : List Stmt} {b0 : Stmt} {hpos : Pos} {sb hd : SS} {outer : List Env} {catches : Nat -> Bool} (hK : X.K = T.K) (hN : X.N.Nodup) (hg : Gl X xc)
  (hcat : ∃ C,X.mg xc = some (.ref C) /\ ∀ c C',catches c = true -> T.exc c = some C' -> PySem.W.exmOne T.K (.ref C') (.ref C) = some true)
  (hb : ∀ pins xe Ex,CA T Ex (tryC X pins xe) -> yc4 (tryC X pins xe) Ex -> PSsA T Ex (tryC X pins xe) body sb) (hh : ∀ a,CA T EN (hdlC X a) -> PSsA T EN (hdlC X a) (b0 :: suite) hd)
  (hex : X.ex = []:=by rfl) (hst : X.stack = X.env :: outer:=by rfl) (hf : X.env.frame = some X.env.locals:=by rfl) (hi : X.N[i]? = some n:=by rfl) (hl : X.env.scope.names.lookup n = some .local:=by rfl) (hdb : (xc == ("__debug__" : Str)) = false:=by decide) :
  PSA T E X (.Try body [.ExceptHandler (some (.Name xc np)) (some n) (b0 :: suite) hpos] [] [] pos) (sTry i catches sb hd):=by
 obtain ⟨C,h1,h2⟩:=hcat
 exact yiv hK hN hg h1 h2 hb hh hex hst hf hi hl hdb
end
theorem yiy : bootBuiltins "ValueError" = some (.type "ValueError"):=by decide +kernel
end Sm
namespace L2
open PySem PySem.Spec PyProof.Rows
section
variable {X : Cx} {pins : List (Addr × Obj)} {σ : L2.St} {H : Hp} {s : Shared}
end
end L2
namespace Sm
open PySem PySem.Spec L2
@[simp] def yes : List AV -> Option (List Int)
 | []=>some []
 | .int i :: r=>(yes r).map (i :: ·)
 | _=>none
@[simp] def fSum : Fn:=λargs h=>match args with
 | [.fl xs]=>match yes xs with
  | some ns=>.ok (.int ns.sum) h
  | none=>.bad
 | _=>.bad
@[simp] def ycw (a b c : SE) : SI:=λen h=>(a en h).bind λv h1=>(b en h1).bind λw h2=>(c en h2).bind λz h3=>match v,w,z with
 | .int i,.int j,.int k=>if i.natAbs < 2 ^ 40 /\ j.natAbs < 2 ^ 40 /\ 0 < k /\ k < 2 ^ 20 then .ok ((List.range (if i < j then (j - i - 1) / k + 1 else 0 : Int).toNat).map (λm : Nat=>.int (i + m * k)),none) h3 else .bad
 | _,_,_=>.bad
@[simp] def fIsB : F2:=λx y h=>match x,y with
 | .bl a,.bl b=>.ok (.bl (a == b)) h
 | _,_=>.bad
@[simp] def ydu (f f' f'' : F2) (a b c d : SE) : SE:=λen h=>(a en h).bind λx h1=>(b en h1).bind λy h2=>(f x y h2).bind λz h3=>match z with
 | .bl k=>if k = true then (c en h3).bind λw h4=>(f' y w h4).bind λz2 h5=>(match z2 with
  | .bl k2=>if k2 = true then (d en h5).bind λv h6=>f'' w v h6 else .ok (.bl false) h5
  | _=>.bad) else .ok (.bl false) h3
 | _=>.bad
section
variable {T : Tb} {E : St -> XK} {X : Cx} {pos p : Pos} {e a b c : Expr} {sa sb sc : SE}
theorem zgk {ι : Ix} {H : Hp} : ∀ {xs : List AV} {us : List V} {bs : List Int},RVs T ι H xs us -> yes xs = some bs -> us = bs.map V.int
 | _,_,_,.nil,e=>by cases e; rfl
 | _,_,bs,.cons (x:=x) r rs,e=>by
  unfold yes at e
  split at e
  ·rename_i hh; cases hh
  ·rename_i b r' hh
   cases hh
   obtain ⟨bs',e1,rfl⟩:=Option.map_eq_some_iff.mp e
   rw [yaE r,zgk rs e1]; rfl
  ·cases e
theorem b_sum (hK : X.K = T.K) (hc : X.calm = true:=by rfl) : ∃ r,CallR X (.builtin "sum") r /\ ydP T fSum r:=by
 refine ⟨_,ziH hc,λι h H xs us E Q S r q=>?_⟩
 unfold fSum at q
 split at q
 ·split at q
  ·rename_i bs hb
   cases r with
   | cons r r' =>
    cases r'
    obtain ⟨a,us,rfl,sq,rs⟩:=yb8 S r rfl
    rw [zgk rs hb] at sq
    exact ⟨a,bs,rfl,hK ▸ sq,q.now S (.int _)⟩
  ·exact q.elim
 ·exact q.elim
theorem zgY {ι : Ix} {H : Hp} {lo c : Int} {n : Nat} : ItR T (Itr3 lo c n) ι H ((List.range n).map (λm : Nat=>AV.int (lo + m * c))) none:=by
 constructor
 ·intro i ι' h' H' y g S _ e
  rw [List.getElem?_map] at e
  obtain ⟨m,e1,rfl⟩:=Option.map_eq_some_iff.mp e
  have hi : i < n:=by
   have:=(List.getElem?_eq_some_iff.mp e1).1
   simpa using this
  rw [List.getElem?_range hi] at e1
  cases e1
  refine ⟨hi,?_⟩
  rintro u H2 ⟨rfl,rfl⟩
  exact ⟨S.refl,S,.int _⟩
 ·intro i ι' h' H' g S _ hl
  have hl' : n <= i:=by simpa using hl
  exact hl'
theorem zen {tg : Expr} {p : Pos} (hg : Gl X "range") (hm : X.mg "range" = none) (ha : PEA T E X a sa) (hb : PEA T E X b sb) (hc : PEA T E X c sc) (hs : starEach [a,b,c] X.env = [(false,eval a X.env),(false,eval b X.env),(false,eval c X.env)]:=by rfl) (hs2 : starEach [b,c] X.env = [(false,eval b X.env),(false,eval c X.env)]:=by rfl) (hs3 : starEach [c] X.env = [(false,eval c X.env)]:=by rfl) :
  PIA T X tg (.Call (.Name "range" p) [a,b,c] [] pos) (ycw sa sb sc) :=
 yeQ (zhD hg hm (zaa ha (zaa hb (zaa hc yac hs3) (by rw [hs2,hs3])) (by rw [hs,hs2])) hs hs2) λσ H R=>E6x λι h en S er q=>by
  unfold ycw at q
  refine ⟨ι,h,en,S,er,?_⟩
  unfold yaa
  cases e : sa en h with
  | bad=>rw [e] at q; exact q
  | ex c h1=>rw [e] at q; exact q.elim
  | ok v h1 =>
   rw [e] at q
   dsimp only [Out.bind] at q ⊢
   cases e' : sb en h1 with
   | bad=>rw [e'] at q; exact q
   | ex c h1=>rw [e'] at q; exact q.elim
   | ok v' h2 =>
    rw [e'] at q
    dsimp only at q ⊢
    cases e'' : sc en h2 with
    | bad=>rw [e''] at q; exact q
    | ex c h1=>rw [e''] at q; exact q.elim
    | ok v'' h3 =>
     rw [e''] at q
     dsimp only at q
     intro ι1 H1 u g1 S1 r1
     split at q
     ·rename_i hx
      split at hx
      ·split at hx
       ·rename_i hb
        cases hx
        cases r1 with
        | cons r r' =>
         cases r' with
         | cons r2 r3 =>
          cases r3 with
          | cons r4 r5 =>
           cases r5
           rw [yaE r,yaE r2,yaE r4]
           exact ⟨_,_,_,rfl,hb,q ι1 H1 _ g1 S1 zgY⟩
       ·cases hx
      ·cases hx
     ·exact q.elim
theorem yb9 {sts : List Stmt} {E : St -> XK} : PSsA T E X sts (λ_ _=>.bad):=λpins s σ H D I ⟨ι,h,en,S,er,q⟩=>q.elim
theorem yiO {ι : Ix} {H : Hp} {z : Str} (hz : z.length <= sizeLine) (hc : z.cps.all (· < 0x110000) = true) : RV T ι H (.str (revS z)) (.str (revS z)):=by
 refine .str ?_ ?_
 ·refine Nat.le_trans ?_ hz
  simp [revS,Str.length]
 ·simp only [revS,List.all_toArray,List.all_eq_true,List.mem_reverse]
  intro c h
  exact (Array.all_eq_true_iff_forall_mem.mp hc) c (by simpa using h)
theorem zhM {d : Expr} {sd : SE} {op op' op'' : CmpOp} {f f' f'' : F2} (ho : Op T X (compareOp op) f) (ho' : Op T X (compareOp op') f') (ho'' : Op T X (compareOp op'') f'') (ha : PEA T E X a sa) (hb : PEA T E X b sb) (hc : PEA T E X c sc) (hd : PEA T E X d sd) (hm : lastMarks [op,op',op''] [b,c,d] = false:=by with_unfolding_all rfl) :
  PTA T E X (.Compare a [op,op',op''] [b,c,d] pos) (yas (ydu f f' f'' sa sb sc sd)):=by
 obtain ⟨r,h1,hs⟩:=ho
 obtain ⟨r',h1',hs'⟩:=ho'
 obtain ⟨r'',h1'',hs''⟩:=ho''
 refine yeq (zhE h1 h1' h1'' ha hb hc hd hm) λσ H Q q=>?_
 obtain ⟨ι,h,en,S,er,q⟩:=q
 unfold yas ydu at q
 rw [Out.bind_assoc] at q
 refine ⟨ι,h,en,S,er,q.bind λx h1 ι1 H1 u g1 S1 r1 q1=>?_⟩
 rw [Out.bind_assoc] at q1
 refine ⟨ι1,h1,en,S1,er.mono g1,q1.bind λy h2 ι2 H2 w g2 S2 r2 q2=>?_⟩
 rw [Out.bind_assoc] at q2
 refine hs ι2 h2 H2 x y u w (E σ) _ S2 (r1.mono g2) r2 (q2.bind λz h3 ι3 H3 k g3 S3 r3 q3=>?_)
 split at q3
 ·rename_i kk
  rw [ycv r3]
  refine ⟨kk,rfl,?_⟩
  by_cases hkk : kk = true
  ·rw [if_pos hkk] at q3 ⊢
   rw [Out.bind_assoc] at q3
   refine ⟨ι3,h3,en,S3,er.mono (g1.trans (g2.trans g3)),q3.bind λv h4 ι4 H4 j g4 S4 r4 q4=>?_⟩
   rw [Out.bind_assoc] at q4
   refine hs' ι4 h4 H4 y v w j (E σ) _ S4 (r2.mono (g3.trans g4)) r4 (q4.bind λz2 h5 ι5 H5 k5 g5 S5 r5 q5=>?_)
   split at q5
   ·rename_i k2
    rw [ycv r5]
    refine ⟨k2,rfl,?_⟩
    by_cases hk2 : k2 = true
    ·rw [if_pos hk2] at q5 ⊢
     rw [Out.bind_assoc] at q5
     refine ⟨ι5,h5,en,S5,er.mono (g1.trans (g2.trans (g3.trans (g4.trans g5)))),q5.bind λv6 h6 ι6 H6 j6 g6 S6 r6 q6=>?_⟩
     refine hs'' ι6 h6 H6 v v6 j j6 (E σ) _ S6 (r4.mono (g5.trans g6)) r6 (q6.bind λz7 h7 ι7 H7 k7 g7 S7 r7 q7=>?_)
     split at q7
     ·rw [ycv r7]; exact ⟨_,rfl,q7.now S7 rfl⟩
     ·exact q7.elim
    ·rw [if_neg hk2] at q5 ⊢
     exact ⟨false,rfl,q5.now S5 rfl⟩
   ·exact q5.elim
  ·rw [if_neg hkk] at q3 ⊢
   exact ⟨false,rfl,q3.now S3 rfl⟩
 ·exact q3.elim
end
theorem el1 : ∀ {us : List Value},us.length = 1 -> ∃ a : Value,us = [a]
 | [a],_=>⟨a,rfl⟩
theorem el2 : ∀ {us : List Value},us.length = 2 -> ∃ a b : Value,us = [a,b]
 | [a,b],_=>⟨a,b,rfl⟩
theorem el3 : ∀ {us : List Value},us.length = 3 -> ∃ a b c : Value,us = [a,b,c]
 | [a,b,c],_=>⟨a,b,c,rfl⟩
theorem el4 : ∀ {us : List Value},us.length = 4 -> ∃ a b c d : Value,us = [a,b,c,d]
 | [a,b,c,d],_=>⟨a,b,c,d,rfl⟩
theorem yhq {T : Tb} {ι : Ix} {H : Hp} {z : Str} {n : Nat} (hl : z.length * n <= 1000000) (hc : z.cps.all (· < 0x110000) = true) : RV T ι H (.str (repS z n)) (.str (repS z n)):=by
 refine .str ?_ ?_
 ·refine Nat.le_trans ?_ (Nat.le_trans hl (by decide))
  simp [repS,Str.length,Nat.mul_comm]
 ·simp only [repS,List.all_toArray,List.all_eq_true,List.mem_flatten,List.mem_replicate]
  rintro c ⟨l,⟨_,rfl⟩,hm⟩
  exact (Array.all_eq_true_iff_forall_mem.mp hc) c (by simpa using hm)
@[simp] def ya8 : F2:=λx y h=>match x,y with
 | .str z,.int n=>if n.natAbs < 2 ^ 40 /\ z.length * n.toNat <= 1000000 then .ok (.str (repS z n.toNat)) h else .bad
 | _,_=>.bad
theorem yd4 {T : Tb} {X : Cx} : Op T X (binaryOp .Mult) ya8:=by
 refine ⟨_,zgV,λι h H x y u w E Q S rx ry p=>?_⟩
 unfold ya8 at p
 split at p
 ·split at p
  ·rename_i hz
   obtain ⟨rfl,_,hc⟩:=ybu rx
   rw [yaE ry]
   exact ⟨_,_,rfl,rfl,hz.1,hz.2,p.now S (yhq hz.2 hc)⟩
  ·exact p.elim
 ·exact p.elim
def fGet (n : Nat) (y z : AV) (h : AH) : Out AV:=match h[n]? with
 | some (.dct t kvs)=>if ycc t y then .ok ((valA kvs y).getD z) h else .bad
 | _=>.bad
section
variable {T : Tb} {E : St -> XK} {X : Cx} {pos apos : Pos} {a b c : Expr} {sa sb sc : SE}
theorem isD_of {ι : Ix} {h : AH} {H : Hp} {n : Nat} {t : Bool} {kvs : List (AV × AV)} {ad : Addr} (S : Sim T ι h H) (hn : h[n]? = some (.dct t kvs)) (hr : ι.refs[n]? = some ad) : IsD H ad:=by
 obtain ⟨ob,e1,r⟩:=S.obj n _ ad hn hr
 cases t with
 | false=>obtain ⟨kus,rfl,r⟩:=r; exact .inl ⟨_,.inl e1⟩
 | true=>obtain ⟨kus,rfl,r⟩:=r; exact .inr ⟨_,_,.inl e1⟩
end
end Sm
namespace L2
open PySem PySem.Spec PyProof.Rows
def Itz (K : PySem.W.Frag) (a b : Addr) : It :=
 ⟨λi H=>∃ xs ys x y,SqL K H a xs /\ SqL K H b ys /\ xs[i]? = some x /\ ys[i]? = some y,
  λi H v H' => ∃ (T : Addr) (x y : V),v = .ref T /\ H T = none /\ H' = upd H T (.tup [x,y]) /\ (∀ xs,SqL K H a xs -> xs[i]? = some x) /\ ∀ ys,SqL K H b ys -> ys[i]? = some y,
  λi H=>∃ xs ys,SqL K H a xs /\ SqL K H b ys /\ (xs.length <= i \/ ys.length <= i)⟩
theorem ziN {P : Program} {w : World} {K : PySem.W.Frag} {es : List Expr} {k : Nat} {tp : Pos} (a b z TI TO i1 i2 : Addr) (ap : ZipApart z TI TO i1 i2 a b) :
  Turn P w K (.Tuple es k tp) (Itz K a b) [z,TO,i1,i2,TI] z (λi h=>(IsZip h z TI TO .none /\ IsPair h TI (.ref i1) (.ref i2) /\ ∃ u v,IsPair h TO u v) /\ h.IsListIter i1 a i /\ h.IsListIter i2 b i) where
 mem:=by simp
 obj:=λi h st c hc=>by
  obtain ⟨⟨h1,h2,u,v,h3⟩,⟨o,ho,_,hd⟩,⟨o2,ho2,_,hd2⟩⟩:=st
  have hc' : c = z \/ c = TO \/ c = i1 \/ c = i2 \/ c = TI:=by simpa using hc
  rcases hc' with rfl | rfl | rfl | rfl | rfl
  ·exact ⟨_,h1,λv q=>by
    have q' : Data.fields _ = Data.cell v:=q
    cases q'⟩
  ·exact ⟨_,h3,λv q=>by
    have q' : Data.seq _ _ = Data.cell v:=q
    cases q'⟩
  ·exact ⟨o,ho,λv q=>by rw [hd] at q; cases q⟩
  ·exact ⟨o2,ho2,λv q=>by rw [hd2] at q; cases q⟩
  ·exact ⟨_,h2,λv q=>by
    have q' : Data.seq _ _ = Data.cell v:=q
    cases q'⟩
 keep:=λi h h' st k=>by
  obtain ⟨⟨h1,h2,u,v,h3⟩,hi1,hi2⟩:=st
  exact ⟨⟨k z (by simp) _ h1,k TI (by simp) _ h2,u,v,k TO (by simp) _ h3⟩,hi1.at λo q=>k i1 (by simp) o q,hi2.at λo q=>k i2 (by simp) o q⟩
 item:=by
  intro X hP hw hK hc i pins s σ H E I hf st hg
  subst hP hw hK
  obtain ⟨xs,ys,x,y,hq,hq2,hx,hy⟩:=hg
  obtain ⟨its,rv,p,hz⟩:=I.list hq
  obtain ⟨its2,rv2,p2,hz2⟩:=I.list hq2
  obtain ⟨u,hu,ru⟩:=rv.get hx
  obtain ⟨v,hv,rv'⟩:=rv2.get hy
  obtain ⟨⟨h1,h2,u0,v0,h3⟩,hi1,hi2⟩:=st
  refine wpAny_pyNext_zip_item ap h1 h2 h3 hi1 hi2 p.isList p2.isList (x:=u) (y:=v) (by simpa using hu) (by simpa using hv) λg1 z1 t1 j1 j2 pr sz kp=>?_
  refine ⟨.ref s.heap.objs.size,rfl,wpAny_letOwnedTupleGo_zip z1 λg2 z2 sb=>?_⟩
  replace sb : Heap.SameBut z g1 g2:=sb
  have zlt : z < s.heap.objs.size:=Heap.lt_size h1
  have TIlt : TI < s.heap.objs.size:=Heap.lt_size h2
  have TOlt : TO < s.heap.objs.size:=Heap.lt_size h3
  have I1 : Inv X pins σ H { s with heap:=g2 }:=I.turnedL (fp:=[z,TO,i1,i2,TI]) (t' := s.toks) (λc o hb q=>by
   have n1 : c ≠ z:=λe=>hb (by simp [e])
   have n2 : c ≠ TO:=λe=>hb (by simp [e])
   have n3 : c ≠ i1:=λe=>hb (by simp [e])
   have n4 : c ≠ i2:=λe=>hb (by simp [e])
   exact (sb.2 c n1).trans (kp c o n1 n2 n3 n4 q)) hf
  have hT2 : g2.get? s.heap.objs.size = some { cls:=.type "tuple",data:=.seq #[u,v] }:=(sb.2 _ (Nat.ne_of_gt zlt)).trans pr
  have fp:=I.fpOk (H' := H) (Nat.le_refl s.heap.objs.size) (I.hok.fresh (Nat.le_refl _))
  obtain ⟨f0,f1,f2,f3,f4,f5⟩:=fp
  have I2 : Inv X pins σ (upd H s.heap.objs.size (.tup [x,y])) { s with heap:=g2 } :=
   I1.adopt (T:=s.heap.objs.size) f0 (I.sz) f1 f4 f5 ⟨by show 2 <= sizeLine; decide,[u,v],.cons ru (.cons rv' .nil),⟨_,hT2,rfl,_,rfl⟩⟩
  have TI2 : IsPair g2 TI (.ref i1) (.ref i2):=(sb.2 TI ap.TIz).trans (kp TI _ ap.TIz ap.TITO ap.TIi1 ap.TIi2 h2)
  refine ⟨.ref s.heap.objs.size,_,I2,rfl,⟨s.heap.objs.size,x,y,rfl,f0,rfl,λws hw=>by rw [I.list_inj hw hq]; exact hx,λws hw=>by rw [I.list_inj hw hq2]; exact hy⟩,⟨⟨z2,TI2,u,v,(sb.2 TO ap.TOz).trans t1⟩,j1.extBut sb.extBut ap.i1z,j2.extBut sb.extBut ap.i2z⟩,λc hb=>?_⟩
  obtain ⟨g0,_⟩:=hf c hb
  obtain ⟨o,hob,_⟩ : ∃ o,s.heap.get? c = some o /\ True:=by
   have hb' : c = z \/ c = TO \/ c = i1 \/ c = i2 \/ c = TI:=by simpa using hb
   rcases hb' with rfl | rfl | rfl | rfl | rfl
   ·exact ⟨_,h1,trivial⟩
   ·exact ⟨_,h3,trivial⟩
   ·obtain ⟨o,q,_⟩:=hi1
    exact ⟨o,q,trivial⟩
   ·obtain ⟨o,q,_⟩:=hi2
    exact ⟨o,q,trivial⟩
   ·exact ⟨_,h2,trivial⟩
  rw [yaw (Nat.ne_of_lt (Heap.lt_size hob))]
  exact g0
 done:=by
  intro X hP hw hK hc i pins s σ H E I hf st hg
  subst hP hw hK
  obtain ⟨xs,ys,hq,hq2,hx⟩:=hg
  obtain ⟨its,rv,p,hz⟩:=I.list hq
  obtain ⟨its2,rv2,p2,hz2⟩:=I.list hq2
  obtain ⟨⟨h1,h2,u0,v0,h3⟩,hi1,hi2⟩:=st
  have hl:=rv.length
  have hl2:=rv2.length
  exact wpAny_pyNext_zip_end (I.ok.hd hc) ap h1 h2 h3 hi1 hi2 p.isList p2.isList (hx.imp (λe=>by simp; omega) (λe=>by simp; omega)) λh' eb=>⟨rfl,I.turnedL (fp:=[z,TO,i1,i2,TI]) (t' := s.toks) (λc o hb q=>eb c o (λe=>hb (by simp [e])) (λe=>hb (by simp [e])) (λe=>hb (by simp [e])) (λe=>hb (by simp [e])) q) hf⟩
 self:=λ_ _ _ _ _ st h=>by
  obtain ⟨⟨h1,_⟩,_⟩:=st
  exact wpAny_pyIter_zip h1 h
section
variable {X : Cx}
theorem ziO : bootBuiltins "zip" = some (.type "zip"):=by decide +kernel
def yiz (K : PySem.W.Frag) (ta : TA) : TI:=λσ H R=>ta σ H λvs H1=>∃ a b,vs = [.ref a,.ref b] /\ (∃ xs,SqL K H1 a xs) /\ (∃ ys,SqL K H1 b ys) /\ R (Itz K a b) H1
end
theorem yhr {X : Cx} {a b : Expr} {ta : TA} {p pos tp : Pos} {es : List Expr} {k : Nat} (hg : Gl X "zip") (hm : X.mg "zip" = none) (ha : PA X [a,b] ta) (hs : starEach [a,b] X.env = [(false,eval a X.env),(false,eval b X.env)]:=by rfl) (hs2 : starEach [b] X.env = [(false,eval b X.env)]:=by rfl) :
  PI X (.Tuple es k tp) (.Call (.Name "zip" p) [a,b] [] pos) (yiz X.K ta):=by
 intro pins s σ H R I h
 refine Call_ (yeo I hg hm ziO (PyProof.Rows.callWith_type1 (thn (ha pos pins s σ H _ I h) λus s1 Zz=>?_) (by rw [hs,hs2]) (by rw [hs2]; rfl)));obtain ⟨vs,H1,I1,r1,q1⟩:=Zz
 obtain ⟨l1,l2,e,⟨xs,hq⟩,⟨ys,hq2⟩,q⟩:=q1
 subst e
 cases r1 with
 | cons r rr =>
  cases rr with
  | cons r' rr =>
   cases rr
   cases r
   cases r'
   obtain ⟨its,rv,pl,hz⟩:=I1.list hq
   obtain ⟨its2,rv2,pl2,hz2⟩:=I1.list hq2
   have o1 : l1 < s1.heap.objs.size:=by obtain ⟨o,ho,_⟩:=pl.isList; exact Heap.lt_size ho
   have o2 : l2 < s1.heap.objs.size:=by obtain ⟨o,ho,_⟩:=pl2.isList; exact Heap.lt_size ho
   refine call_zip_2 pl.isList pl2.isList λh' z1 z2 z3 z4 z5 hsz hk=>wpAny_pyIter_zip z1 ?_
   have ap : ZipApart (s1.heap.objs.size + 4) (s1.heap.objs.size + 2) (s1.heap.objs.size + 3) s1.heap.objs.size (s1.heap.objs.size + 1) l1 l2:=by
    constructor<;>(unfold Addr at *; omega)
   refine ⟨s1.heap.objs.size + 4,[s1.heap.objs.size + 4,s1.heap.objs.size + 3,s1.heap.objs.size,s1.heap.objs.size + 1,s1.heap.objs.size + 2],_,_,H1,rfl,I1.kept (t' := s1.toks) λc o e=>hk c o e,ziN l1 l2 _ _ _ _ _ ap,⟨⟨z1,z2,_,_,z3⟩,z4,z5⟩,λc hc=>?_,q⟩
   have hc' : c = s1.heap.objs.size + 4 \/ c = s1.heap.objs.size + 3 \/ c = s1.heap.objs.size \/ c = s1.heap.objs.size + 1 \/ c = s1.heap.objs.size + 2:=by simpa using hc
   have hge : s1.heap.objs.size <= c:=by unfold Addr at *; omega
   exact I1.fpOk hge (I1.hok.fresh hge)
end L2
namespace Sm
open PySem PySem.Spec L2
abbrev SIG:=En -> AH -> Out (List AV × Option Nat × List AV)
def ybE : List AV -> List AV -> List AV
 | x :: xs,y :: ys=>.tup [x,y] :: ybE xs ys
 | _,_=>[]
def tIG (T : Tb) (it : SIG) : TI:=λσ H R=>∃ ι h en,Sim T ι h H /\ ER T ι H en σ /\ match it en h with
 | .ok (xs,w,all) h' => ∀ ι' H' J,Grow ι H ι' H' -> Sim T ι' h' H' -> ItG T J ι' H' xs (ybV w all) -> R J H'
 | _=>False
section
variable {T : Tb} {E : St -> XK} {X : Cx} {pos px p1 p2 : Pos} {kk : Nat} {iter elt : Expr} {ifs : List Expr} {scope : Scope} {x₁ x₂ : Str} {jf : List (Nat × Str)} {it : SIG} {cc : SB} {ce : SE}
end
theorem zci : ∀ (xs ys : List AV) (i : Nat) (z : AV),(ybE xs ys)[i]? = some z -> ∃ x y,z = .tup [x,y] /\ xs[i]? = some x /\ ys[i]? = some y
 | [],_,i,z,h=>by simp [ybE] at h
 | _ :: _,[],i,z,h=>by simp [ybE] at h
 | x :: xs,y :: ys,0,z,h=>by simp [ybE] at h; exact ⟨x,y,h.symm,rfl,rfl⟩
 | x :: xs,y :: ys,i + 1,z,h=>by simp only [ybE,List.getElem?_cons_succ] at h ⊢; exact zci xs ys i z h
theorem zeo : ∀ (xs ys : List AV),(ybE xs ys).length = min xs.length ys.length
 | [],_=>by simp [ybE]
 | _ :: _,[]=>by simp [ybE]
 | x :: xs,y :: ys=>by simp only [ybE,List.length_cons,zeo xs ys]; lia
section
variable {T : Tb} {E : St -> XK} {X : Cx} {pos : Pos} {a b : Expr} {sa sb : SE}
end
def yfT : Expr -> Bool
 | .Starred _ _=>false
 | _=>true
theorem yiA (a : Expr) (es : List Expr) (env : Env) (h : yfT a = true) : starEach (a :: es) env = (false,eval a env) :: starEach es env:=by
 cases a<;>first | rfl | cases h
section
variable {T : Tb} {E : St -> XK} {X : Cx} {a : Expr} {es : List Expr} {sa : SE}
theorem zaf (ha : PEA T E X a sa) (hr : PAA T E X es as) (hn : yfT a = true:=by rfl) : PAA T E X (a :: es) (yaa sa as):=zaa ha hr (yiA _ _ _ hn)
end
@[simp] def yfv (a b : SE) : SIG:=λen h=>(a en h).bind λv h1=>(b en h1).bind λw h2=>match v,w with
 | .fl xs,.fl ys=>.ok (ybE xs ys,none,[]) h2
 | _,_=>.bad
def yfw (it : SIG) (t : Tg) (b : SS) : SS:=λen h=>match it en h with
 | .ok (xs,w,all) h1=>ybM w all t b xs en h1
 | _=>.bad
section
variable {T : Tb} {E : St -> XK} {X : Cx} {pos : Pos} {a b : Expr} {sa sb : SE} {sts : List Stmt} {s1 : SS}
theorem zbY {ι : Ix} {H : Hp} {a b : Addr} {us ws : List V} {xs ys : List AV} {K : PySem.W.Frag} (keep : ∀ (ι' : Ix) (H' : Hp),Ext ι H ι' H' -> SqL K H' a us) (r : RVs T ι H xs us) (keep2 : ∀ (ι' : Ix) (H' : Hp),Ext ι H ι' H' -> SqL K H' b ws) (r2 : RVs T ι H ys ws) : ItG T (Itz K a b) ι H (ybE xs ys) (ybV none []):=by
 refine ⟨λi ι' h' H' z g S lv hx=>?_,λi ι' h' H' g S lv hi=>?_⟩
 ·obtain ⟨x,y,rfl,ex,ey⟩:=zci _ _ _ _ hx
  obtain ⟨u,e1,r1⟩:=(r.ext g).get ex
  obtain ⟨v,e2,rv⟩:=(r2.ext g).get ey
  refine ⟨⟨us,ws,u,v,keep ι' H' g,keep2 ι' H' g,e1,e2⟩,?_⟩
  rintro u2 H2 ⟨t,x2,y2,rfl,hn,rfl,hx2,hy2⟩
  have z1:=hx2 us (keep ι' H' g)
  rw [e1] at z1; cases z1
  have z2:=hy2 ws (keep2 ι' H' g)
  rw [e2] at z2; cases z2
  have g2:=S.growNew (o:=.tup [u,v]) hn
  exact ⟨g2,S.new hn,.tup (S.fresh hn) zaq (.cons (r1.mono g2) (.cons (rv.mono g2) .nil))⟩
 ·rw [zeo] at hi
  exact ⟨us,ws,keep ι' H' g,keep2 ι' H' g,by rw [<- r.length,<- r2.length]; lia⟩
theorem zjV {p tp : Pos} {es : List Expr} {k : Nat} (hK : X.K = T.K) (hg : Gl X "zip") (hm : X.mg "zip" = none) (ha : PEA T E X a sa) (hb : PEA T E X b sb) (hs : starEach [a,b] X.env = [(false,eval a X.env),(false,eval b X.env)]:=by rfl) (hs2 : starEach [b] X.env = [(false,eval b X.env)]:=by rfl) :
  PI X (.Tuple es k tp) (.Call (.Name "zip" p) [a,b] [] pos) (tIG T (yfv sa sb)) :=
 yeQ (yhr hg hm (zaa ha (zaa hb yac hs2) (by rw [hs,hs2])) hs hs2) λσ H R=>E6x λι h en S er q=>by
  unfold yfv at q
  refine ⟨ι,h,en,S,er,?_⟩
  unfold yaa
  cases e : sa en h with
  | bad=>rw [e] at q; exact q
  | ex c h1=>rw [e] at q; exact q.elim
  | ok v h1 =>
   rw [e] at q
   dsimp only [Out.bind] at q ⊢
   cases e' : sb en h1 with
   | bad=>rw [e'] at q; exact q
   | ex c h1=>rw [e'] at q; exact q.elim
   | ok v' h2 =>
    rw [e'] at q
    dsimp only at q
    intro ι1 H1 u g1 S1 r1
    cases r1 with
    | cons r r' =>
     cases r' with
     | cons r2 r3 =>
      cases r3
      cases v with
      | fl xs =>
       cases v' with
       | fl ys =>
        dsimp only at q
        cases r with
        | fl m hr rs =>
         cases r2 with
         | fl m2 hr2 rs2=>exact ⟨_,_,rfl,⟨_,ycC hK (.inl hr)⟩,⟨_,ycC hK (.inl hr2)⟩,q ι1 H1 _ g1 S1 (hK ▸ zbY (yeR m hr) rs (yeR m2 hr2) rs2)⟩
         | kfl hr2 rs2=>exact ⟨_,_,rfl,⟨_,ycC hK (.inl hr)⟩,⟨_,ycC hK (.inr hr2)⟩,q ι1 H1 _ g1 S1 (hK ▸ zbY (yeR m hr) rs (λ_ _ _=>.inr hr2) rs2)⟩
        | kfl hr rs =>
         cases r2 with
         | fl m2 hr2 rs2=>exact ⟨_,_,rfl,⟨_,ycC hK (.inr hr)⟩,⟨_,ycC hK (.inl hr2)⟩,q ι1 H1 _ g1 S1 (hK ▸ zbY (λ_ _ _=>.inr hr) rs (yeR m2 hr2) rs2)⟩
         | kfl hr2 rs2=>exact ⟨_,_,rfl,⟨_,ycC hK (.inr hr)⟩,⟨_,ycC hK (.inr hr2)⟩,q ι1 H1 _ g1 S1 (hK ▸ zbY (λ_ _ _=>.inr hr) rs (λ_ _ _=>.inr hr2) rs2)⟩
       | _=>exact q.elim
      | _=>exact q.elim
theorem yhs {tg iter : Expr} {t : Tg} {it : SIG} (hc : X.calm = true) (hi : PI X.nox tg iter (tIG T it)) (hg : PGA T X.nox tg t) (hb : PSsA T EN X.nox sts s1)
  (hs : ∀ x,foldedSetIterable iter X.nox.env x = pure x:=by intro _; rfl) : PSA T E X (.For tg iter sts [] pos) (yfw it t s1):=by
 obtain ⟨g,hg1,hg2⟩:=hg
 refine ycm (yfL (yfz PassesOwn.never hc hi hg1 hb hs)) λD σ H=>E6x λι h en S er q=>⟨ι,h,en,S,er,?_⟩
 unfold yfw at q
 cases e : it en h with
 | bad=>rw [e] at q; exact q
 | ex c h1=>rw [e] at q; exact (show False from q).elim
 | ok v h1 =>
  obtain ⟨xs,w,all⟩:=v
  rw [e] at q
  intro ι1 H1 J g1 S1 IR
  exact zek hg2 S1 (er.mono g1) IR (PostS.shift q g1)
end
end Sm
namespace L2
open PySem PySem.Spec
theorem Room.m {j k : Nat} {A : Around} (hr : Room k A) (h : Nat.ble j k = true:=by rfl) : Room j A:=hr.mono (Nat.le_of_ble_eq_true h)
end L2
namespace Sm
open PySem PySem.Spec L2
def DK (K : PySem.W.Frag) (x : Str) (st : Stmt) : Prop:=∃ f fd,PySem.W.nsIn K mainGlobals x = some (some (.ref f)) /\ Fun K x x st f fd
def DN (K : PySem.W.Frag) (C : Addr) (m q : Str) (st : Stmt) : Prop:=∃ f fd,Meth K C m f /\ Fun K m q st f fd
def DMm (K : PySem.W.Frag) (cls : Nat -> Option Addr) (c : Nat) (m q : Str) (st : Stmt) (ps : List Str) : Prop:=∃ C f fd,cls c = some C /\ Cls K C /\ Meth K C m f /\ Binds K fd ps [] /\ Fun K m q st f fd
def DI (K : PySem.W.Frag) (cls : Nat -> Option Addr) (mg : Str -> Option Value) (c : Nat) (x q : Str) (st : Stmt) (ps : List Str) : Prop:=∃ C f fd,cls c = some C /\ mg x = some (.ref C) /\ Mk K C f /\ Binds K fd ps [] /\ Fun K "__init__" q st f fd
section
variable {P : Program} {w : World} {K : PySem.W.Frag} {mg : Str -> Option Value} {base h : Heap} {T : Tb} {x m q : Str} {st : Stmt} {f C : Addr} {N ps : List Str} {k c : Nat} {b : SS} {cls : Nat -> Option Addr}
section
variable {oc : Value} {od an : Option Addr} {osl : Array (Option Value)} {kV doc pm cdv ct : Value}
theorem dk (a : PySem.W.nsIn K mainGlobals x = some (some (.ref f))) (l : K.lookup f = some ⟨oc,od,.func (PySem.W.fnOf x x (yc3 st) (ych st) (yag st) .none kV doc pm an cdv ct),osl⟩)
  (c : PySem.W.codeIn K cdv x = true) (k : PySem.W.keepIn K (.ref f) = true) : DK K x st:=⟨f,_,a,yfD l c k⟩
theorem dn (a : PySem.W.findIn K (.ref C) m = some (some (.ref f))) (i : PySem.W.isFn K (.ref f) = true) (l : K.lookup f = some ⟨oc,od,.func (PySem.W.fnOf m q (yc3 st) (ych st) (yag st) .none kV doc pm an cdv ct),osl⟩)
  (c : PySem.W.codeIn K cdv q = true) (k : PySem.W.keepIn K (.ref f) = true) : DN K C m q st:=⟨f,_,⟨a,i,k⟩,yfD l c k⟩
end
abbrev BA (x q : Str) (st : Stmt) (us : List Value) (r : List (Str × Value)) : Prop:=∀ (kV doc pm : Value) (an : Option Addr) (cdv ct : Value),bindArgs (PySem.W.fnOf x q (yc3 st) (ych st) (yag st) .none kV doc pm an cdv ct) ⟨us,[]⟩ = pure r
def BL (x q : Str) (st : Stmt) (ps : List Str) : Prop:=∀ (us : List Value),us.length = ps.length -> BA x q st us (ps.zip us)
theorem bl1 {p1 : Str} (h : ∀ a,BA x q st [a] [(p1,a)]:=by exact λ_ _ _ _ _ _ _=>rfl) : BL x q st [p1]:=λus e=>by obtain ⟨_,rfl⟩:=el1 e; exact h _
theorem bl2 {p1 p2 : Str} (h : ∀ a b,BA x q st [a,b] [(p1,a),(p2,b)]:=by exact λ_ _ _ _ _ _ _ _=>rfl) : BL x q st [p1,p2]:=λus e=>by obtain ⟨_,_,rfl⟩:=el2 e; exact h _ _
theorem bl3 {p1 p2 p3 : Str} (h : ∀ a b c,BA x q st [a,b,c] [(p1,a),(p2,b),(p3,c)]:=by exact λ_ _ _ _ _ _ _ _ _=>rfl) : BL x q st [p1,p2,p3]:=λus e=>by obtain ⟨_,_,_,rfl⟩:=el3 e; exact h _ _ _
theorem bl4 {p1 p2 p3 p4 : Str} (h : ∀ a b c d,BA x q st [a,b,c,d] [(p1,a),(p2,b),(p3,c),(p4,d)]:=by exact λ_ _ _ _ _ _ _ _ _ _=>rfl) : BL x q st [p1,p2,p3,p4]:=λus e=>by obtain ⟨_,_,_,_,rfl⟩:=el4 e; exact h _ _ _ _
theorem dg (X : K.In h) (G : h.Ns mainGlobals mg) (d : DK K x st) (hb : BL x x st ps) : DG K mg x st ps:=by
 obtain ⟨f,fd,a,F⟩:=d
 exact ⟨f,fd,PySem.W.mg_of X G a,F.kp,F.binds λ_ _ _ _ _ _ us hl=>hb us hl _ _ _ _ _ _,F⟩
theorem dm (hc : cls c = some C) (k : Cls K C) (d : DN K C m q st) (hb : BL m q st ps) : DMm K cls c m q st ps:=by
 obtain ⟨f,fd,M,F⟩:=d
 exact ⟨C,f,fd,hc,k,M,F.binds λ_ _ _ _ _ _ us hl=>hb us hl _ _ _ _ _ _,F⟩
theorem di (hc : cls c = some C) (hx : mg x = some (.ref C)) (mk : PySem.W.makesIn K C = true) (kc : PySem.W.keepIn K (.ref C) = true) (d : DN K C "__init__" q st) (hb : BL "__init__" q st ps) : DI K cls mg c x q st ps:=by
 obtain ⟨f,fd,M,F⟩:=d
 exact ⟨C,f,fd,hc,hx,⟨mk,M.at_,M.fn,kc⟩,F.binds λ_ _ _ _ _ _ us hl=>hb us hl _ _ _ _ _ _,F⟩
theorem dlaw {fa : Addr} {p : Str} (X : K.In h) (G : h.Ns mainGlobals mg) (hfa : mg x = some (.ref fa)) (d : DK K x st) (hb : BL x x st [p]) : ∃ fd : FuncData,(∀ (s : Shared) (v : Value),BindsTo s fd ⟨[v],[]⟩ [(p,v)]) /\ Fun K x x st fa fd:=by
 obtain ⟨f,fd,a,F⟩:=d
 have e:=hfa.symm.trans (PySem.W.mg_of X G a)
 cases e
 refine ⟨fd,λs v=>?_,F⟩
 obtain ⟨oc,od,kV,doc,pm,an,cdv,ct,osl,rfl,lk,hcd⟩:=F.ex
 exact .of_eq (hb [v] rfl _ _ _ _ _ _)
theorem fsk {sc : Scope} (h1 : sc.kind = .function:=by rfl) (h2 : sc.isCoroutine = false:=by rfl) (h3 : sc.isGenerator = false:=by rfl) (h4 : N.Nodup:=by decide +kernel) (h5 : N.take ps.length = ps:=by rfl)
  (h6 : ∀ x ∈ ps,sc.names.lookup x = some .local \/ sc.names.lookup x = some .cell:=by decide +kernel) (h7 : ∀ y ∈ sc.names,y.2 ≠ .free:=by decide +kernel) : FnScope N ps sc:=⟨h1,h2,h3,h4,h5,h6,h7⟩
abbrev ye9 (P : Program) (w : World) (mg : Str -> Option Value) (base : Heap) (T : Tb) (q : Str) (st : Stmt) (f : Addr) (N : List Str) (k : Nat) (b : SS) : Prop :=
 ∀ {cdv : Value} {A : Around} {outer : List Env} {s : Shared} {H : Hp} {E : XK},Room k (A.deeper (PyProof.Rows.envOfC q (yag st) s.heap.objs.size f cdv)) -> CA T (λ_=>E) (cxOf (CXE P w) P w T.K mg base N q (yag st) f cdv A outer s H E) ->
  (A.deeper (PyProof.Rows.envOfC q (yag st) s.heap.objs.size f cdv)).units + 64 < cLine -> N.Nodup -> PSsA T (λ_=>E) (cxOf (CXE P w) P w T.K mg base N q (yag st) f cdv A outer s H E) (ych st) b
theorem gf (d : DG T.K mg x st ps) (S : FnScope N ps (yag st)) (hb : ∀ {f},ye9 P w mg base T x st f N k b) : GF P w T mg base (k + 1) x (mkFn ps.length N.length b):=by
 obtain ⟨f,fd,h1,h2,h3,h4⟩:=d
 exact ⟨f,fd,_,h1,h2,h3,okA h4 rfl S λcdv A outer s H E hr C=>hb hr C (hu64 hr) S.nd⟩
theorem gm (d : DMm T.K T.cls c m q st ps) (S : FnScope N ps (yag st)) (no : m ∉ T.fields c) (hb : ∀ {f},ye9 P w mg base T q st f N k b) : GM P w T mg base (k + 1) c m (mkFn ps.length N.length b):=by
 obtain ⟨C,f,fd,h0,hc,h1,h3,h4⟩:=d
 exact ⟨⟨C,f,fd,_,h0,hc,h1,h3,okA h4 rfl S λcdv A outer s H E hr C=>hb hr C (hu64 hr) S.nd⟩,no⟩
theorem gk (d : DI T.K T.cls mg c x q st ps) (S : FnScope N ps (yag st)) (hb : ∀ {f},ye9 P w mg base T q st f N k b) : GK P w T mg base (k + 1) c x (mkFn ps.length N.length b):=by
 obtain ⟨C,f,fd,h0,h1,h2,h3,h4⟩:=d
 exact ⟨C,f,fd,_,h0,h1,h2,h3,okA h4 rfl S λcdv A outer s H E hr C=>hb hr C (hu64 hr) S.nd⟩
theorem gl {f : Addr} {fd : FuncData} (h4 : Fun T.K x x st f fd) (S : FnScope N ps (yag st)) (hb : ye9 P w mg base T x st f N k b) : FnOk P w T.K mg base (CXE P w) (k + 1) f fd ps (spA T (mkFn ps.length N.length b)) :=
 okA h4 rfl S λcdv A outer s H E hr C=>hb hr C (hu64 hr) S.nd
def XI (K : PySem.W.Frag) (X : Addr) : Prop:=PySem.W.excIn K X [.type "ValueError",.type "Exception",.type "BaseException",.type "object"] "ValueError.__new__" = true
theorem xi {X : Addr} (h : PySem.W.excIn K X [.type "ValueError",.type "Exception",.type "BaseException",.type "object"] "ValueError.__new__" = true) : XI K X:=h
theorem gx {X : Addr} {n : Nat} {g : Heap} (KB : K.In g) (KX : K.In h) (G : h.Ns mainGlobals mg) (hc : T.exc n = some X) (e : PySem.W.nsIn K mainGlobals x = some (some (.ref X))) (hx : XI K X) : GX T mg g n x:=⟨X,hc,ziG KB (PySem.W.mg_of KX G e) hx⟩
def KO (K : PySem.W.Frag) (a b : Addr) (v : Bool) : Prop:=PySem.W.kitOne K (.ref a) (.ref b) = some v
theorem ko {a d : Addr} {v : Bool} (h : PySem.W.kitOne K (.ref a) (.ref d) = some v) : KO K a d v:=h
def XO (K : PySem.W.Frag) (a b : Addr) : Prop:=PySem.W.exmOne K (.ref a) (.ref b) = some true
theorem xo {a d : Addr} (h : PySem.W.exmOne K (.ref a) (.ref d) = some true) : XO K a d:=h
def NA (K : PySem.W.Frag) (x : Str) (v : Option Value) : Prop:=PySem.W.nsIn K mainGlobals x = some v
theorem na {v : Option Value} (h : PySem.W.nsIn K mainGlobals x = some v) : NA K x v:=h
def FA (K : PySem.W.Frag) (C : Addr) (x : Str) : Prop:=PySem.W.findIn K (.ref C) x = some none
theorem fatt (h : PySem.W.findIn K (.ref C) x = some none) : FA K C x:=h
end
end Sm
namespace L2
open PySem PySem.Spec PyProof.Rows
theorem zfc {P : Program} {w : World} : ∀ {kvs : List (Key × V)} {vs : List (Key × Value)} {ns : List Str} {us : List Value},KV kvs vs -> kvs.map (·.1) = ns.map Sum.inr -> us.length = vs.length -> (∀ (i : Nat) (v : Value),us[i]? = some v -> ∃ k x,vs[i]? = some (k,x) /\ (ybR P w).is k v = true) -> StrsAre us ns
 | [],[],[],[],_,_,_,_=>.nil
 | [],[],_ :: _,_,_,e,_,_=>by simp at e
 | [],[],[],_ :: _,_,_,l,_=>by simp at l
 | _ :: _,_ :: _,_ :: _,[],_,_,l,_=>by simp at l
 | _ :: _,_ :: _,[],_,_,e,_,_=>by simp at e
 | p :: kvs,q :: vs,n :: ns,u :: us,.cons r rs,e,l,f=>by
  simp only [List.map_cons,List.cons.injEq] at e
  obtain ⟨k,x,e1,e2⟩:=f 0 u rfl
  have e3 : q = (k,x):=by simpa using e1
  have ek : k = Sum.inr n:=by rw [<- e.1,r.1,e3]
  rw [ek] at e2
  rw [zgF] at e2
  rcases zay (k:=Sum.inr n) (v:=u) e2 with ⟨i,t,a1,a2⟩ | ⟨y,t,a1,a2⟩
  ·cases a1
  ·injection a1 with a1
   subst a1 a2
   exact .cons _ _ (zfc rs e.2 (by simpa using l) λi v h=>by simpa using f (i + 1) v (by simpa using h))
theorem zdv : ∀ {vs : List Value} {ns : List Str},StrsAre vs ns -> Vals (ns.map V.str) vs
 | _,_,.nil=>.nil
 | _,_,.cons y t h=>.cons ⟨t,rfl⟩ (zdv h)
theorem StrsAre.len : ∀ {vs : List Value} {ns : List Str},StrsAre vs ns -> vs.length = ns.length
 | _,_,.nil=>rfl
 | _,_,.cons y t h=>congrArg Nat.succ (StrsAre.len h)
theorem zfI {X : Cx} (hc : X.calm = true) : CallR X (.builtin "sorted") (λxs H Q=>∃ (a : Addr) (kvs : List (Key × V)) (ns : List Str),xs = [.ref a] /\ H a = some (.dK kvs) /\ kvs.map (·.1) = ns.map Sum.inr /\ ns.length < 64 /\ ∀ (p : Addr) (ns' : List Str),H p = none -> ns'.Perm ns -> sortedS ns' = true -> Q (.ref p) (upd H p (.lst (ns'.map V.str)))):=by
 intro pins s σ H xs us Q I rv h
 obtain ⟨a,kvs,ns,rfl,ha,hn,h64,q⟩:=h
 obtain ⟨u,rfl,ru⟩:=Vals.one rv
 obtain rfl : u = Value.ref a:=ru
 obtain ⟨z,hd,vs,rel,dd⟩:=ygc I.hok ha
 obtain ⟨ep,da⟩:=dd.dictAt
 have lv : vs.length = kvs.length:=(Paired.length rel).symm
 refine Calls.call_function_entry kind_sorted plain_sorted entry_sorted (args_sorted1 _) ?_
 unfold Builtin.«sorted»
 refine wpAny_bind (m:=checkCount "sorted" 1 1 _) (wpAny_pure (wpAny_bind (PySem.W.kdu_collect (PySem.W.kdl_dict (knd:=ybR X.prog X.w) (kvs:=vs) (ep:=ep) hd) (I.ok.hd hc) da (by rw [lv]; exact z) λh' tk acc hk hacc=>?_)))
 have hl : acc.toList.length = vs.length:=by rw [Array.length_toList]; exact hacc.1
 have hI : StrsAre acc.toList ns:=zfc rel hn hl λi v e=>hacc.2 i v (by rw [<- Array.getElem?_toList]; exact e)
 have hz : acc.toList.length <= sizeLine:=by rw [hl,lv]; exact z
 refine wpAny_bind (wpAny_newList ?_ hz)
 have hoL : (h'.push (seqObj "list" acc.toList.toArray 0)).get? h'.objs.size = some (seqObj "list" acc.toList.toArray 0):=Heap.get?_push_size _ rfl
 refine wpAny_bind (wpAny_holding (wpAny_call_entry slot_list_sort ⟨_,hoL,rfl⟩ entry_list_sort (list_sort_treeK (s:={ s with heap:=h'.push (seqObj "list" acc.toList.toArray 0),toks:=tk }) strKind_oneLt hoL hI.keysOf (λv₁ v₂ rest e=>keyKind_strs (by rw [<- e]; exact hI)) (by rw [StrsAre.len hI]; exact h64) λst' hp hs=>⟨_,rfl,wpAny_pure ⟨_,rfl,?_⟩⟩) (args_list_sort _)))
 obtain ⟨ns',o1,o2,o3⟩:=sorted_out_str hI hp hs
 have I1 : Inv X pins σ H { s with heap:=h',toks:=tk }:=I.kept (t' := tk) hk
 obtain ⟨e,he⟩:=sortedHeap_at (out:=(arrOf st').map (·.2)) hoL
 have l2 : ns'.length = ns.length:=o2.length_eq
 have l3 : ns.length = kvs.length:=by have:=congrArg List.length hn; simpa using this.symm
 refine ⟨.ref h'.objs.size,_,I1.laid (a:=h'.objs.size) (t' := tk) (o:=.lst (ns'.map V.str)) (λb o hb=>?_) (Nat.le_refl _) ⟨?_,((arrOf st').map (·.2)).toList,e,zdv o1,?_⟩,rfl,q _ ns' (I1.hok.fresh (Nat.le_refl _)) o2 o3⟩
 ·have lt : b < h'.objs.size:=Heap.lt_size hb
  rw [sortedHeap_old (Nat.ne_of_lt lt) (by rw [size_push']; exact Nat.lt_succ_of_lt lt)]
  exact Heap.get?_push_of_some _ hb
 ·rw [List.length_map,l2,l3]; exact z
 ·rw [he]
end L2
namespace Sm
open PySem PySem.Spec L2 PyProof.Rows
def leS (a b : Str) : Prop:=ltCps b.cps.toList a.cps.toList = false
def insT (x : Str) : List Str -> List Str
 | []=>[x]
 | y :: r=>if ltCps y.cps.toList x.cps.toList then y :: insT x r else x :: y :: r
def yb5 : List Str -> List Str
 | []=>[]
 | x :: r=>insT x (yb5 r)
theorem leS_le {a b : Str} : leS a b ↔ a.cps.toList <= b.cps.toList:=by
 unfold leS
 rw [ltCps_eq,decide_eq_false_iff_not]
 exact Iff.rfl
theorem zcj (x : Str) : ∀ l,(insT x l).Perm (x :: l)
 | []=>.refl _
 | y :: r=>by
  unfold insT
  split
  ·exact ((zcj x r).cons y).trans (.swap ..)
  ·exact .refl _
theorem zaT : ∀ l,(yb5 l).Perm l
 | []=>.refl _
 | x :: r=>(zcj x (yb5 r)).trans ((zaT r).cons x)
theorem zcU (x : Str) : ∀ {l : List Str},l.Pairwise leS -> (insT x l).Pairwise leS
 | [],_=>List.pairwise_singleton ..
 | y :: r,h=>by
  obtain ⟨h1,h2⟩:=List.pairwise_cons.mp h
  unfold insT
  split
  ·rename_i q
   refine List.pairwise_cons.mpr ⟨λz hz=>?_,zcU x h2⟩
   rcases List.mem_cons.mp ((zcj x r).mem_iff.mp hz) with rfl | hz
   ·rw [leS_le]
    rw [ltCps_eq,decide_eq_true_eq] at q
    exact List.le_of_lt q
   ·exact h1 z hz
  ·rename_i q
   have q' : leS x y:=by simpa [leS] using q
   refine List.pairwise_cons.mpr ⟨λz hz=>?_,h⟩
   rcases List.mem_cons.mp hz with rfl | hz
   ·exact q'
   ·exact leS_le.mpr (List.le_trans (leS_le.mp q') (leS_le.mp (h1 z hz)))
theorem zck : ∀ l,(yb5 l).Pairwise leS
 | []=>.nil
 | x :: r=>zcU x (zck r)
theorem zcl : ∀ {l m : List Str},l.Perm m -> l.Pairwise leS -> m.Pairwise leS -> l = m
 | [],m,p,_,_=>(List.nil_perm.mp p).symm
 | x :: l,[],p,_,_=>by simp at p
 | x :: l,y :: m,p,h,g=>by
  obtain ⟨h1,h2⟩:=List.pairwise_cons.mp h
  obtain ⟨g1,g2⟩:=List.pairwise_cons.mp g
  have e : x = y:=by
   have a : x ∈ y :: m:=p.mem_iff.mp (List.mem_cons_self ..)
   have b : y ∈ x :: l:=p.mem_iff.mpr (List.mem_cons_self ..)
   rcases List.mem_cons.mp a with a | a
   ·exact a
   ·rcases List.mem_cons.mp b with b | b
    ·exact b.symm
    ·have : x.cps.toList = y.cps.toList:=List.le_antisymm (leS_le.mp (h1 y b)) (leS_le.mp (g1 x a))
     cases x; cases y
     congr 1
     exact Array.toList_inj.mp this
  subst e
  rw [zcl (List.Perm.cons_inv p) h2 g2]
theorem zep : ∀ (p : Str) (l : List Str),PyProof.Rows.risingS p l = true -> (p :: l).Pairwise leS
 | p,[],_=>List.pairwise_singleton ..
 | p,x :: r,h=>by
  have h' : (!ltCps x.cps.toList p.cps.toList && PyProof.Rows.risingS x r) = true:=h
  rw [Bool.and_eq_true] at h'
  have t:=zep x r h'.2
  have a : leS p x:=by simpa [leS] using h'.1
  refine List.pairwise_cons.mpr ⟨λz hz=>?_,t⟩
  rcases List.mem_cons.mp hz with rfl | hz
  ·exact a
  ·exact leS_le.mpr (List.le_trans (leS_le.mp a) (leS_le.mp ((List.pairwise_cons.mp t).1 z hz)))
theorem zhN : ∀ (l : List Str),PyProof.Rows.sortedS l = true -> l.Pairwise leS
 | [],_=>.nil
 | x :: r,h=>zep x r h
def yef : List AV -> Option (List Str)
 | []=>some []
 | .str x :: r=>(yef r).map (x :: ·)
 | _ :: _=>none
theorem zfd : ∀ {l : List AV} {is : List Str},yef l = some is -> l = is.map AV.str
 | [],is,e=>by cases e; rfl
 | .str i :: r,is,e=>by
  unfold yef at e
  cases q : yef r with
  | none=>rw [q] at e; cases e
  | some js=>rw [q] at e; cases e; rw [zfd q]; rfl
 | .non :: _,_,e | .bl _ :: _,_,e | .int _ :: _,_,e | .tup _ :: _,_,e | .fl _ :: _,_,e | .ref _ :: _,_,e | .exc _ :: _,_,e=>nomatch e
def yfa (v : AV) (h : AH) : Option (List Str):=match v with
 | .ref n=>(match h[n]? with
  | some (.dct false kvs)=>yef (kvs.map (·.1))
  | _=>none)
 | _=>none
def yet : Fn:=λargs h=>match args with
 | [v]=>(match yfa v h with
  | some ns=>if ns.length < 64 /\ ∀ x ∈ ns,x.length <= 1000 /\ x.cps.all (· < 0x110000) = true then .ok (.fl ((yb5 ns).map AV.str)) h else .bad
  | none=>.bad)
 | _=>.bad
def sBd : SS:=λ_ _=>.bad
def yeU (o k : SE) : SE:=λen h=>(o en h).bind λx h1=>match x with
 | .ref n=>(match h1[n]? with
  | some (.dct _ _)=>(k en h1).bind λy h2=>fGet n y .non h2
  | _=>.bad)
 | _=>.bad
@[simp] def yd5 : FM:=λx vs h=>match x,vs with
 | .ref n,[]=>match h[n]? with
  | some (.lst _)=>.ok .non (h.set n (.lst []))
  | _=>.bad
 | _,_=>.bad
section
variable {T : Tb} {E : L2.St -> XK} {X : Cx} {pos apos : Pos} {a b c : Expr} {sa sb sc : SE} {st : Stmt}
theorem yht (hu : X.A.units + 64 < cLine) (ha : PEA T E X a sa) (hb : PEA T E X b sb) (hbase : attributeBase a "get" X.env (eval a X.env) = eval a X.env:=by rfl)
  (hfew : ((backTo pos (starEach [b] X.env)).all (λx=>!x.1) && (backToKw pos (keywordEach [] X.env)).all (λx=>x.1.isSome) && decide (([b] : List Expr).length + ([] : List Keyword).length + (if ([] : List Keyword).isEmpty then 0 else 1) < 30)) = true:=by rfl)
  (hline : (apos.endLine == pos.line) = true:=by rfl) (htrees : backTo pos (starEach [b] X.env) = [(false,eval b X.env)]:=by rfl) : PEA T E X (.Call (.Attribute a "get" apos) [b] [] pos) (yeU sa sb):=by
 refine yaU (zio (Nat.lt_of_le_of_lt (Nat.add_le_add_left (by decide : 1 <= 64) _) hu) ha hb ⟨hbase,hfew,hline,htrees⟩) λσ H Q q=>?_
 obtain ⟨ι,h,en,S,er,q⟩:=q
 refine ⟨ι,h,en,S,er,q.bind λx h1 ι1 H1 u g1 S1 r1 q1=>?_⟩
 split at q1
 ·rename_i n
  split at q1
  ·rename_i t0 kvs0 hn0
   cases r1 with
   | @ref _ ad hr =>
    refine ⟨ad,rfl,isD_of S1 hn0 hr,ι1,h1,en,S1,er.mono g1,q1.bind λy h2 ι2 H2 v g2 S2 r2 q2=>?_⟩
    unfold fGet at q2
    split at q2
    ·rename_i t kvs hn
     split at q2
     ·rename_i hk
      obtain ⟨o,dg,alt⟩:=zdS S2 hn (g2.ext.at_ hr) r2 hk
      refine ⟨o,dg,?_⟩
      rcases alt with ⟨v1,rfl⟩ | ⟨v',u',v1,rfl,r4⟩
      ·rw [v1] at q2; exact q2.now S2 .non
      ·rw [v1] at q2; exact q2.now S2 r4
     ·exact q2.elim
    ·exact q2.elim
  ·exact q1.elim
 ·exact q1.elim
theorem yfU {ι : Ix} {H : Hp} : ∀ {l : List (AV × AV)} {m : List (Key × V)} {is : List Str},Paired (λ(p : AV × AV) (q : Key × V)=>p.1 = kA q.1 /\ RV T ι H p.2 q.2) l m -> l.map (·.1) = is.map AV.str -> m.map (·.1) = is.map Sum.inr
 | _,_,[],.nil,_=>rfl
 | _,_,_ :: _,.nil,e=>by simp at e
 | _,_,[],.cons _ _,e=>by simp at e
 | _,_,i :: is,.cons (a:=p) (b:=q) hh t,e=>by
  rw [List.map_cons,List.map_cons] at e ⊢
  injection e with e1 e2
  rw [yfU t e2]
  have e3 : kA q.1 = .str i:=by rw [<- hh.1]; exact e1
  obtain ⟨k,v⟩:=q
  cases k with
  | inr j=>injection e3 with e3; subst e3; rfl
  | inl x=>cases e3
theorem zfe {ι : Ix} {H : Hp} : ∀ (ns : List Str),(∀ x ∈ ns,x.length <= sizeLine /\ x.cps.all (· < 0x110000) = true) -> RVs T ι H (ns.map AV.str) (ns.map V.str)
 | [],_=>.nil
 | n :: ns,h=>.cons (.str (h n (List.mem_cons_self ..)).1 (h n (List.mem_cons_self ..)).2) (zfe ns λx hx=>h x (List.mem_cons_of_mem _ hx))
theorem zjW (hc : X.calm = true:=by rfl) : ∃ r,CallR X (.builtin "sorted") r /\ ydP T yet r:=by
 refine ⟨_,zfI hc,λι h H xs us E Q S r q=>?_⟩
 unfold yet at q
 split at q
 ·split at q
  ·rename_i ns hn
   split at q
   case isFalse=>exact q.elim
   rename_i hz
   unfold yfa at hn
   split at hn
   ·rename_i n
    split at hn
    ·rename_i kvs hk
     cases r with
     | cons r r' =>
      cases r'
      cases r with
      | @ref _ ad hr =>
       obtain ⟨ob,e1,kus,rfl,pr⟩:=S.obj n _ ad hk hr
       refine ⟨ad,kus,ns,rfl,e1,yfU pr (zfd hn),hz.1,λp ns' hp pm so=>?_⟩
       have : ns' = yb5 ns:=zcl (pm.trans (zaT ns).symm) (zhN _ so) (zck ns)
       subst this
       exact q ι _ _ (S.growNew hp) (S.new hp) (.fl (S.fresh hp) (.of zaq) (zfe _ λx hx=>⟨Nat.le_trans (hz.2 x ((zaT ns).mem_iff.mp hx)).1 (by decide),(hz.2 x ((zaT ns).mem_iff.mp hx)).2⟩))
    ·cases hn
   ·cases hn
  ·exact q.elim
 ·exact q.elim
theorem zjX : ∃ r,MtR X "list.clear" r /\ MtS T yd5 r:=by
 refine ⟨_,zij,λι h H x xs u us E Q S rx rs q=>?_⟩
 unfold yd5 at q
 split at q
 ·rename_i n
  split at q
  ·rename_i ys hn
   cases rx with
   | @ref _ ad hr =>
    cases rs
    obtain ⟨o,e1,ws,rfl,rw_⟩:=S.obj n _ ad hn hr
    exact ⟨ad,ws,rfl,rfl,e1,q ι _ _ (S.growSet (u:=.lst []) hr) (S.set hr ⟨_,rfl,.nil⟩) .non⟩
  ·exact q.elim
 ·exact q.elim
end
end Sm
namespace Sk
open PySem PySem.Spec L2 Sm
abbrev ygq : Nat:=0
abbrev ye2 : Nat:=1
abbrev ybX : Nat:=5
abbrev ycd : Nat:=6
abbrev yaJ : Nat:=7
def ydc (c : Nat) : Bool:=[false,false,false,false,false,false,false,true,false].getD c false
def ycQ (c : Nat) : Bool:=[false,false,false,false,false,false,true,false,false].getD c false
def ydd (c : Nat) : Bool:=[false,true,false,false,false,false,false,false,false].getD c false
def yca (c : Nat) : Bool:=[false,false,false,false,false,false,false,false,true].getD c false
def ycR (c : Nat) : Bool:=[false,false,false,false,false,true,false,false,false].getD c false
def ycf (c : Nat) : Bool:=[true,true,true,true,true,true,true,true,true].getD c false
def ybN (c : Nat) : Bool:=[true,true,true,true,true,true,true,true,true].getD c false
def yda : Fn:=mkFn 2 3
  (sSeq (sSet 2 (sOp2 fMod (sOp2 fMul (sOp2 fAdd (sOp2 fAdd (sOp2 fMod (sVar 0) (sLit (.int 1000000007))) (sOp2 fMul (sLit (.int 7919)) (sVar 1))) (sLit (.int 101))) (sLit (.int 48271))) (sLit (.int 2147483647))))
  (sRet (sOp2 fMod (sOp2 fMul (sOp2 fMod (sOp2 fMul (sVar 2) (sVar 2)) (sLit (.int 2147483629))) (sLit (.int 69621))) (sLit (.int 2147483647)))))
def ybJ : SS :=
  (sSet 2 (sOp2 fAdd (sOp2 fMul (sVar 2) (sOp2 fMul (sOp2 fPow (sLit (.int 10)) (sLit (.int 60))) (sOp2 fPow (sLit (.int 10)) (sLit (.int 60))))) (sOp2 fMod (sOp2 fIx (sVar 0) (sVar 3)) (sOp2 fMul (sOp2 fPow (sLit (.int 10)) (sLit (.int 60))) (sOp2 fPow (sLit (.int 10)) (sLit (.int 60)))))))
def ybK : SS :=
  (sSet 4 (sOp2 fAdd (sOp2 fMul (sVar 4) (sLit (.int 2147483647))) (yal yda (yaa (sOp2 fAdd (sOp2 fAdd (sVar 2) (sOp2 fMul (sLit (.int 1009)) (sVar 1))) (yal fLen (yaa (sVar 0) sNil))) (yaa (sVar 3) sNil)))))
def ybO : Fn:=mkFn 2 5
  (sSeq (sSet 2 (sLit (.int 0)))
  (sSeq (sFor (ycw (sVar 1) (yal fLen (yaa (sVar 0) sNil)) (sLit (.int 8))) (.nm 3) ybJ)
  (sSeq (sIf (yas (sOp2 fGe (sVar 2) (sOp2 fPow (sLit (.int 10)) (sLit (.int 18))))) (sRet (ycF (yaa (sVar 2) sNil))) yay)
  (sSeq (sSet 2 (sOp2 fAdd (sVar 2) (yal fSum (yaa (ybk [] (iVal (sVar 0)) sYes (sOp2 fMod (sVar 0) (sOp2 fPow (sLit (.int 10)) (sLit (.int 18))))) sNil))))
  (sSeq (sSet 4 (sLit (.int 0)))
  (sSeq (sFor (ybS (sLit (.int 16))) (.nm 3) ybK)
  (sRet (ycF (yaa (sVar 4) sNil)))))))))
def ydy : Fn:=mkFn 1 1
  (sSeq (ybI 0 0 (sVar 0) (ycF sNil))
  (sSeq (ybI 0 1 (sVar 0) (ycL true))
  (sSeq (ybI 0 2 (sVar 0) (ycF (yaa (sLit (.int 0)) sNil)))
  (sSeq (ybI 0 3 (sVar 0) (ycF (yaa (sLit (.int 0)) sNil)))
  (sSeq (ybI 0 4 (sVar 0) (ycF (yaa (sLit (.int 0)) sNil)))
  (sSeq (ybI 0 5 (sVar 0) (ycF (yaa (sOp1 fNeg (sLit (.int 1))) sNil)))
  (sSeq (ybI 0 6 (sVar 0) (ycF (yaa (sLit (.int 0)) sNil)))
  (ybI 0 7 (sVar 0) (ycF (yaa (sLit (.int 0)) sNil))))))))))
def ycp : Fn:=mkFn 1 1
  (sSeq (ybI 1 0 (sVar 0) (yeL 0 8 ydy sNil))
  (sSeq (ybI 1 1 (sVar 0) (ycL false))
  (sSeq (ybI 1 2 (sVar 0) (ycF sNil))
  (ybI 1 3 (sVar 0) (ycF sNil)))))
def ybe : Fn:=mkFn 1 1
  (sSeq (sIf (sNot (ybt (sIsB "str" (sVar 0)))) (sRet (sLit (.bl false))) yay)
  (sRet (yec (ybU fLe fLe (sLit (.int 1)) (yal fLen (yaa (sVar 0) sNil)) (sLit (.int 8))) (yal fAll (yaa (ybk [] (iVal (sVar 0)) sYes (ybU fLe fLe (sLit (.str "a")) (sVar 0) (sLit (.str "z")))) sNil)))))
def ya7 : Fn:=mkFn 1 1
  (sIf (sNot (ybt (yal ybe (yaa (sVar 0) sNil)))) (ycn 7 (yaa (sLit (.str "a name has one to eight small letters")) sNil)) yay)
def ybf : Fn:=mkFn 3 3
  (sIf (yas (sOp2 fIsN (sVar 2) (sLit .non))) sBd (ydb (Sm.sFld 1 1 (sVar 0)) (sVar 1) (sVar 2)))
def yav : Fn:=mkFn 3 3
  (sSeq (yan (sBM ya6 yaV (Sm.sFld 1 2 (sVar 0)) (yaa (sTup (yaa (sVar 1) (yaa (yeU (Sm.sFld 1 1 (sVar 0)) (sVar 1)) (yaa (sVar 2) sNil)))) sNil)))
  (sSeq (yan (sBM0 ya6 yd5 (Sm.sFld 1 3 (sVar 0))))
  (yan (yah 1 ybf (sVar 0) (yaa (sVar 1) (yaa (sVar 2) sNil))))))
def ydp : Fn:=mkFn 1 1
  (sRet (yec (sIsB "int" (sVar 0)) (yge (sIsB "bool" (sVar 0)))))
def yb6 : Fn:=mkFn 2 2
  (sRet (yec (yal ydp (yaa (sVar 1) sNil)) (ybU fLe fLe (sLit (.int 1)) (sVar 1) (yal fLen (yaa (Sm.sFld 0 0 (sVar 0)) sNil)))))
def yba : Fn:=mkFn 2 2
  (sIf (sNot (ybt (yah 0 yb6 (sVar 0) (yaa (sVar 1) sNil)))) sBd yay)
def ybB : Fn:=mkFn 3 4
  (sSeq (yan (yah 0 yba (sVar 0) (yaa (sVar 1) sNil)))
  (sSeq (yan (yah 0 yba (sVar 0) (yaa (sVar 2) sNil)))
  (sSeq (sSet 3 (sOp2 fAdd (sOp2 fIx (Sm.sFld 0 2 (sVar 0)) (sOp2 fIx (Sm.sFld 0 7 (sVar 0)) (sVar 1))) (sOp2 fIx (Sm.sFld 0 2 (sVar 0)) (sOp2 fIx (Sm.sFld 0 6 (sVar 0)) (sVar 2)))))
  (sSeq (sIf (yas (sOp2 fLe (sVar 3) (sLit (.int 8)))) sBd yay)
  (sSeq (sIf (yas (sOp2 fGt (yal fAbs (yaa (sOp2 fSub (sOp2 fIx (Sm.sFld 0 5 (sVar 0)) (sVar 1)) (sOp2 fIx (Sm.sFld 0 5 (sVar 0)) (sVar 2))) sNil)) (sLit (.int 1)))) sBd yay)
  (sIf (yas (sOp2 fGt (sOp2 fAdd (sOp2 fIx (Sm.sFld 0 2 (sVar 0)) (sVar 1)) (sOp2 fIx (Sm.sFld 0 2 (sVar 0)) (sVar 2))) (sLit (.int 1000000000000000000)))) (ycn 5 (yaa (sLit (.str "the fork would have more than 10 ** 18 signs")) sNil)) yay))))))
def ycD : Fn:=mkFn 2 3
  (sSeq (yan (sBM ya6 yaV (Sm.sFld 0 0 (sVar 0)) (yaa (sVar 1) sNil)))
  (sSeq (sSet 2 (yal fLen (yaa (Sm.sFld 0 0 (sVar 0)) sNil)))
  (sSeq (ydb (Sm.sFld 0 1 (sVar 0)) (sVar 1) (sVar 2))
  (sRet (sVar 2)))))
def ybP : Fn:=mkFn 2 4
  (sSeq (yan (yah 0 ycD (sVar 0) (yaa (sVar 1) sNil)))
  (sSeq (sSet 2 (sOp2 fIx (sVar 1) (sLit (.int 1))))
  (sSeq (sSet 3 (sOp2 fIx (sVar 1) (sLit (.int 2))))
  (sSeq (yan (sBM ya6 yaV (Sm.sFld 0 2 (sVar 0)) (yaa (sOp2 fAdd (sOp2 fIx (Sm.sFld 0 2 (sVar 0)) (sVar 2)) (sOp2 fIx (Sm.sFld 0 2 (sVar 0)) (sVar 3))) sNil)))
  (sSeq (yan (sBM ya6 yaV (Sm.sFld 0 3 (sVar 0)) (yaa (sOp2 fAdd (sOp2 fIx (Sm.sFld 0 3 (sVar 0)) (sVar 2)) (sOp2 fIx (Sm.sFld 0 3 (sVar 0)) (sVar 3))) sNil)))
  (sSeq (yan (sBM ya6 yaV (Sm.sFld 0 4 (sVar 0)) (yaa (sOp2 fAdd (sOp2 fIx (Sm.sFld 0 4 (sVar 0)) (sVar 2)) (sOp2 fIx (Sm.sFld 0 4 (sVar 0)) (sVar 3))) sNil)))
  (sSeq (yan (sBM ya6 yaV (Sm.sFld 0 5 (sVar 0)) (yaa (sOp2 fAdd (yal yfq (yaa (sOp2 fIx (Sm.sFld 0 5 (sVar 0)) (sVar 2)) (yaa (sOp2 fIx (Sm.sFld 0 5 (sVar 0)) (sVar 3)) sNil))) (sLit (.int 1))) sNil)))
  (sSeq (yan (sBM ya6 yaV (Sm.sFld 0 6 (sVar 0)) (yaa (sOp2 fIx (Sm.sFld 0 6 (sVar 0)) (sVar 2)) sNil)))
  (yan (sBM ya6 yaV (Sm.sFld 0 7 (sVar 0)) (yaa (sOp2 fIx (Sm.sFld 0 7 (sVar 0)) (sVar 3)) sNil)))))))))))
def yaf : Fn:=mkFn 3 4
  (sSeq (yan (yah 0 ybB (sVar 0) (yaa (sVar 1) (yaa (sVar 2) sNil))))
  (sSeq (sSet 3 (sTup (yaa (sLit (.str "fork")) (yaa (sVar 1) (yaa (sVar 2) sNil)))))
  (sSeq (sIf (yas (sOp2 ycB (sVar 3) (Sm.sFld 0 1 (sVar 0)))) (yan (yah 0 ybP (sVar 0) (yaa (sVar 3) sNil))) yay)
  (sRet (sOp2 fIx (Sm.sFld 0 1 (sVar 0)) (sVar 3))))))
def yeD (G : Fn) : Fn:=mkFn 2 3
  (sSeq (sIf (yas (sOp2 fEq (yal fLen (yaa (sVar 1) sNil)) (sLit (.int 1)))) (sRet (sOp2 fIx (sVar 1) (sLit (.int 0)))) yay)
  (sSeq (sSet 2 (sOp2 fDiv (yal fLen (yaa (sVar 1) sNil)) (sLit (.int 2))))
  (sRet (yah 0 yaf (sVar 0) (yaa (yal G (yaa (sVar 0) (yaa (sCut (sVar 1) none (some (sVar 2))) sNil))) (yaa (yal G (yaa (sVar 0) (yaa (sCut (sVar 1) (some (sVar 2)) none) sNil))) sNil))))))
def yby : Nat -> Fn
 | 0=>mkFn 2 3 (λ_ _=>.bad)
 | d + 1=>yeD (yby d)
def ybY : Fn:=mkFn 1 1
  (sRet (sOrV (sOp2 fEq (sVar 0) (sLit (.str "\n"))) (ybU fLe fLe (sLit (.str " ")) (sVar 0) (sLit (.str "~")))))
def ybq : Fn:=mkFn 1 1
  (sSeq (sIf (sNot (ybt (sIsB "str" (sVar 0)))) (sRet (sLit (.bl false))) yay)
  (sRet (yal fAll (yaa (ybk [] (iVal (sVar 0)) sYes (yal ybY (yaa (sVar 0) sNil))) sNil))))
def ydq : Fn:=mkFn 1 1
  (sRet (yec (yal ybq (yaa (sVar 0) sNil)) (ybU fLe fLe (sLit (.int 1)) (yal fLen (yaa (sVar 0) sNil)) (sLit (.int 8)))))
def ydQ : Fn:=mkFn 1 1
  (sRet (sBM yfr ye1 (sVar 0) (yaa (sLit (.str "\n")) sNil)))
def ybQ : Fn:=mkFn 2 4
  (sSeq (sSet 2 (yah 0 ycD (sVar 0) (yaa (sVar 1) sNil)))
  (sSeq (sSet 3 (sOp2 fIx (sVar 1) (sLit (.int 1))))
  (sSeq (yan (sBM ya6 yaV (Sm.sFld 0 2 (sVar 0)) (yaa (yal fLen (yaa (sVar 3) sNil)) sNil)))
  (sSeq (yan (sBM ya6 yaV (Sm.sFld 0 3 (sVar 0)) (yaa (yal ydQ (yaa (sVar 3) sNil)) sNil)))
  (sSeq (yan (sBM ya6 yaV (Sm.sFld 0 4 (sVar 0)) (yaa (sLit (.int 1)) sNil)))
  (sSeq (yan (sBM ya6 yaV (Sm.sFld 0 5 (sVar 0)) (yaa (sLit (.int 0)) sNil)))
  (sSeq (yan (sBM ya6 yaV (Sm.sFld 0 6 (sVar 0)) (yaa (sVar 2) sNil)))
  (yan (sBM ya6 yaV (Sm.sFld 0 7 (sVar 0)) (yaa (sVar 2) sNil))))))))))
def yaX : Fn:=mkFn 2 3
  (sSeq (sIf (sNot (ybt (yal ydq (yaa (sVar 1) sNil)))) (ycn 1 (yaa (sLit (.str "a leaf is a plain text of one to eight signs")) sNil)) yay)
  (sSeq (sSet 2 (sTup (yaa (sLit (.str "leaf")) (yaa (sVar 1) sNil))))
  (sSeq (sIf (yas (sOp2 ycB (sVar 2) (Sm.sFld 0 1 (sVar 0)))) (yan (yah 0 ybQ (sVar 0) (yaa (sVar 2) sNil))) yay)
  (sRet (sOp2 fIx (Sm.sFld 0 1 (sVar 0)) (sVar 2))))))
def ybL : Fn:=mkFn 2 3
  (sSeq (sIf (sNot (ybt (yal ybq (yaa (sVar 1) sNil)))) (ycn 1 (yaa (sLit (.str "a text is built of a plain text")) sNil)) yay)
  (sSeq (sIf (yas (sOp2 fGt (yal fLen (yaa (sVar 1) sNil)) (sLit (.int 10000)))) (ycn 5 (yaa (sLit (.str "a text is built of ten thousand signs at most")) sNil)) yay)
  (sSeq (sIf (yas (sOp2 fEq (sVar 1) (sLit (.str "")))) (sRet (sLit (.int 0))) yay)
  (sSeq (sSet 2 (ybk [0,1] (ycw (sLit (.int 0)) (yal fLen (yaa (sVar 1) sNil)) (sLit (.int 8))) sYes (yah 0 yaX (sVar 1) (yaa (sCut (sVar 2) (some (sVar 0)) (some (sOp2 fAdd (sVar 0) (sLit (.int 8))))) sNil))))
  (sRet (yal (yby 20) (yaa (sVar 0) (yaa (sVar 2) sNil))))))))
def yaO : Fn:=mkFn 3 3
  (sSeq (yan (yal ya7 (yaa (sVar 1) sNil)))
  (yan (yah 1 yav (sVar 0) (yaa (sVar 1) (yaa (yal ybL (yaa (Sm.sFld 1 0 (sVar 0)) (yaa (sVar 2) sNil))) sNil)))))
def ya5 : Fn:=mkFn 2 2
  (sIf (yas (sOp2 fNe (sVar 1) (sLit (.int 0)))) (yan (yah 0 yba (sVar 0) (yaa (sVar 1) sNil))) yay)
def yaB : Fn:=mkFn 2 2
  (sSeq (yan (yah 0 ya5 (sVar 0) (yaa (sVar 1) sNil)))
  (sRet (sOp2 fIx (Sm.sFld 0 2 (sVar 0)) (sVar 1))))
def yaP : Fn:=mkFn 1 1
  (sIf (yas (sOp2 fGt (sVar 0) (sLit (.int 1000000000000000000)))) (ycn 5 (yaa (sLit (.str "the text would have more than 10 ** 18 signs")) sNil)) yay)
def ybH : Fn:=mkFn 2 2
  (sSeq (yan (yah 0 ya5 (sVar 0) (yaa (sVar 1) sNil)))
  (sRet (sOp2 fIx (Sm.sFld 0 7 (sVar 0)) (sVar 1))))
def ybC : Fn:=mkFn 2 2
  (sSeq (yan (yah 0 ya5 (sVar 0) (yaa (sVar 1) sNil)))
  (sRet (sOp2 fIx (Sm.sFld 0 6 (sVar 0)) (sVar 1))))
def ycE : Fn:=mkFn 3 3
  (sRet (sOp2 fGt (sOp2 fAdd (yah 0 yaB (sVar 0) (yaa (yah 0 ybH (sVar 0) (yaa (sVar 1) sNil)) sNil)) (yah 0 yaB (sVar 0) (yaa (yah 0 ybC (sVar 0) (yaa (sVar 2) sNil)) sNil))) (sLit (.int 8))))
def yaH : Fn:=mkFn 2 2
  (sSeq (yan (yah 0 yba (sVar 0) (yaa (sVar 1) sNil)))
  (sRet (sOp2 fIx (Sm.sFld 0 0 (sVar 0)) (sOp2 fSub (sVar 1) (sLit (.int 1))))))
def ydV (G : Fn) : Fn:=mkFn 3 4
  (sSeq (sSet 3 (yah 0 yaH (sVar 0) (yaa (sVar 1) sNil)))
  (sSeq (sIf (yas (sOp2 fEq (sOp2 fIx (sVar 3) (sLit (.int 0))) (sLit (.str "leaf")))) (sRet (sVar 2)) yay)
  (sRet (yah 0 yaf (sVar 0) (yaa (sOp2 fIx (sVar 3) (sLit (.int 1))) (yaa (yal G (yaa (sVar 0) (yaa (sOp2 fIx (sVar 3) (sLit (.int 2))) (yaa (sVar 2) sNil)))) sNil))))))
def ybi : Nat -> Fn
 | 0=>mkFn 3 4 (λ_ _=>.bad)
 | d + 1=>ydV (ybi d)
def yaQ : Fn:=mkFn 2 2
  (sSeq (yan (yah 0 ya5 (sVar 0) (yaa (sVar 1) sNil)))
  (sRet (sOp2 fIx (Sm.sFld 0 5 (sVar 0)) (sVar 1))))
def yaS : Fn:=mkFn 3 7
  (sSeq (sIf (yas (sOp2 fLt (sOp2 fSub (yah 0 yaQ (sVar 0) (yaa (sVar 2) sNil)) (yah 0 yaQ (sVar 0) (yaa (sVar 1) sNil))) (sLit (.int 2)))) (sRet (yah 0 yaf (sVar 0) (yaa (sVar 1) (yaa (sVar 2) sNil)))) yay)
  (sSeq (sSet 3 (yah 0 yaH (sVar 0) (yaa (sVar 2) sNil)))
  (sSeq (sSet 4 (sOp2 fIx (sVar 3) (sLit (.int 1))))
  (sSeq (sSet 5 (sOp2 fIx (sVar 3) (sLit (.int 2))))
  (sSeq (sIf (yas (sOp2 fLe (yah 0 yaQ (sVar 0) (yaa (sVar 4) sNil)) (yah 0 yaQ (sVar 0) (yaa (sVar 5) sNil)))) (sRet (yah 0 yaf (sVar 0) (yaa (yah 0 yaf (sVar 0) (yaa (sVar 1) (yaa (sVar 4) sNil))) (yaa (sVar 5) sNil)))) yay)
  (sSeq (sSet 6 (yah 0 yaH (sVar 0) (yaa (sVar 4) sNil)))
  (sRet (yah 0 yaf (sVar 0) (yaa (yah 0 yaf (sVar 0) (yaa (sVar 1) (yaa (sOp2 fIx (sVar 6) (sLit (.int 1))) sNil))) (yaa (yah 0 yaf (sVar 0) (yaa (sOp2 fIx (sVar 6) (sLit (.int 2))) (yaa (sVar 5) sNil))) sNil))))))))))
def yck (G : Fn) : Fn:=mkFn 2 4
  (sSeq (sSet 2 (yah 0 yaH (sVar 0) (yaa (sVar 1) sNil)))
  (sSeq (sIf (yas (sOp2 fEq (sOp2 fIx (sVar 2) (sLit (.int 0))) (sLit (.str "leaf")))) (sRet (sLit (.int 0))) yay)
  (sSeq (sSet 3 (yal G (yaa (sVar 0) (yaa (sOp2 fIx (sVar 2) (sLit (.int 1))) sNil))))
  (sSeq (sIf (yas (sOp2 fEq (sVar 3) (sLit (.int 0)))) (sRet (sOp2 fIx (sVar 2) (sLit (.int 2)))) yay)
  (sRet (yal yaS (yaa (sVar 0) (yaa (sVar 3) (yaa (sOp2 fIx (sVar 2) (sLit (.int 2))) sNil)))))))))
def yaD : Nat -> Fn
 | 0=>mkFn 2 4 (λ_ _=>.bad)
 | d + 1=>yck (yaD d)
def ya3 : Fn:=mkFn 3 7
  (sSeq (sIf (yas (sOp2 fLt (sOp2 fSub (yah 0 yaQ (sVar 0) (yaa (sVar 1) sNil)) (yah 0 yaQ (sVar 0) (yaa (sVar 2) sNil))) (sLit (.int 2)))) (sRet (yah 0 yaf (sVar 0) (yaa (sVar 1) (yaa (sVar 2) sNil)))) yay)
  (sSeq (sSet 3 (yah 0 yaH (sVar 0) (yaa (sVar 1) sNil)))
  (sSeq (sSet 4 (sOp2 fIx (sVar 3) (sLit (.int 1))))
  (sSeq (sSet 5 (sOp2 fIx (sVar 3) (sLit (.int 2))))
  (sSeq (sIf (yas (sOp2 fLe (yah 0 yaQ (sVar 0) (yaa (sVar 5) sNil)) (yah 0 yaQ (sVar 0) (yaa (sVar 4) sNil)))) (sRet (yah 0 yaf (sVar 0) (yaa (sVar 4) (yaa (yah 0 yaf (sVar 0) (yaa (sVar 5) (yaa (sVar 2) sNil))) sNil)))) yay)
  (sSeq (sSet 6 (yah 0 yaH (sVar 0) (yaa (sVar 5) sNil)))
  (sRet (yah 0 yaf (sVar 0) (yaa (yah 0 yaf (sVar 0) (yaa (sVar 4) (yaa (sOp2 fIx (sVar 6) (sLit (.int 1))) sNil))) (yaa (yah 0 yaf (sVar 0) (yaa (sOp2 fIx (sVar 6) (sLit (.int 2))) (yaa (sVar 2) sNil))) sNil))))))))))
def yeg (G : Fn) : Fn:=mkFn 3 5
  (sSeq (sSet 3 (sOp2 fSub (yah 0 yaQ (sVar 0) (yaa (sVar 1) sNil)) (yah 0 yaQ (sVar 0) (yaa (sVar 2) sNil))))
  (sSeq (sIf (yas (sOp2 fGt (sVar 3) (sLit (.int 1)))) (sSeq (sSet 4 (yah 0 yaH (sVar 0) (yaa (sVar 1) sNil)))
  (sRet (yal yaS (yaa (sVar 0) (yaa (sOp2 fIx (sVar 4) (sLit (.int 1))) (yaa (yal G (yaa (sVar 0) (yaa (sOp2 fIx (sVar 4) (sLit (.int 2))) (yaa (sVar 2) sNil)))) sNil)))))) yay)
  (sSeq (sIf (yas (sOp2 fLt (sVar 3) (sOp1 fNeg (sLit (.int 1))))) (sSeq (sSet 4 (yah 0 yaH (sVar 0) (yaa (sVar 2) sNil)))
  (sRet (yal ya3 (yaa (sVar 0) (yaa (yal G (yaa (sVar 0) (yaa (sVar 1) (yaa (sOp2 fIx (sVar 4) (sLit (.int 1))) sNil)))) (yaa (sOp2 fIx (sVar 4) (sLit (.int 2))) sNil)))))) yay)
  (sRet (yah 0 yaf (sVar 0) (yaa (sVar 1) (yaa (sVar 2) sNil)))))))
def ybb : Nat -> Fn
 | 0=>mkFn 3 5 (λ_ _=>.bad)
 | d + 1=>yeg (ybb d)
def ycq : Fn:=mkFn 3 6
  (sSeq (sSet 3 (sOp2 fAdd (sOp2 fIx (yah 0 yaH (sVar 0) (yaa (yah 0 ybH (sVar 0) (yaa (sVar 1) sNil)) sNil)) (sLit (.int 1))) (sOp2 fIx (yah 0 yaH (sVar 0) (yaa (yah 0 ybC (sVar 0) (yaa (sVar 2) sNil)) sNil)) (sLit (.int 1)))))
  (sSeq (sSet 4 (yal (ybi 90) (yaa (sVar 0) (yaa (sVar 1) (yaa (yah 0 yaX (sVar 0) (yaa (sVar 3) sNil)) sNil)))))
  (sSeq (sSet 5 (yal (yaD 90) (yaa (sVar 0) (yaa (sVar 2) sNil))))
  (sSeq (sIf (yas (sOp2 fEq (sVar 5) (sLit (.int 0)))) (sRet (sVar 4)) yay)
  (sRet (yal (ybb 90) (yaa (sVar 0) (yaa (sVar 4) (yaa (sVar 5) sNil)))))))))
def yaF : Fn:=mkFn 3 3
  (sSeq (yan (yal yaP (yaa (sOp2 fAdd (yah 0 yaB (sVar 0) (yaa (sVar 1) sNil)) (yah 0 yaB (sVar 0) (yaa (sVar 2) sNil))) sNil)))
  (sSeq (sIf (yas (sOp2 fEq (sVar 1) (sLit (.int 0)))) (sRet (sVar 2)) yay)
  (sSeq (sIf (yas (sOp2 fEq (sVar 2) (sLit (.int 0)))) (sRet (sVar 1)) yay)
  (sSeq (sIf (ybt (yal ycE (yaa (sVar 0) (yaa (sVar 1) (yaa (sVar 2) sNil))))) (sRet (yal (ybb 90) (yaa (sVar 0) (yaa (sVar 1) (yaa (sVar 2) sNil))))) yay)
  (sRet (yal ycq (yaa (sVar 0) (yaa (sVar 1) (yaa (sVar 2) sNil)))))))))
def ydR (G : Fn) : Fn:=mkFn 3 5
  (sSeq (sIf (yas (sOp2 fEq (sVar 2) (sLit (.int 0)))) (sRet (sLit (.int 0))) yay)
  (sSeq (sSet 3 (yal G (yaa (sVar 0) (yaa (sVar 1) (yaa (sOp2 fDiv (sVar 2) (sLit (.int 2))) sNil)))))
  (sSeq (sSet 4 (yal yaF (yaa (sVar 0) (yaa (sVar 3) (yaa (sVar 3) sNil)))))
  (sSeq (sIf (yas (sOp2 fEq (sOp2 fMod (sVar 2) (sLit (.int 2))) (sLit (.int 0)))) (sRet (sVar 4)) yay)
  (sRet (yal yaF (yaa (sVar 0) (yaa (sVar 4) (yaa (sVar 1) sNil)))))))))
def yaY : Nat -> Fn
 | 0=>mkFn 3 5 (λ_ _=>.bad)
 | d + 1=>ydR (yaY d)
def ybd : Fn:=mkFn 3 4
  (sSeq (sSet 3 (yah 0 yaB (sVar 0) (yaa (sVar 1) sNil)))
  (sSeq (sIf (yas (sOp2 fLt (sVar 2) (sLit (.int 0)))) (ycn 6 (yaa (sLit (.str "a text is repeated 0 times at least")) sNil)) yay)
  (sSeq (yan (yal yaP (yaa (sOp2 fMul (sVar 3) (sVar 2)) sNil)))
  (sSeq (sIf (yas (sOp2 fEq (sVar 1) (sLit (.int 0)))) (sRet (sLit (.int 0))) yay)
  (sRet (yal (yaY 64) (yaa (sVar 0) (yaa (sVar 1) (yaa (sVar 2) sNil)))))))))
def yai : Fn:=mkFn 2 2
  (sSeq (sIf (sOr (sNot (ybt (yal ybe (yaa (sVar 1) sNil)))) (yas (sOp2 ycB (sVar 1) (Sm.sFld 1 1 (sVar 0))))) (ycn 7 (yaa (sLit (.str "this name is not there")) sNil)) yay)
  (sRet (sOp2 fIx (Sm.sFld 1 1 (sVar 0)) (sVar 1))))
def yaR : Fn:=mkFn 3 3
  (yan (yah 1 yav (sVar 0) (yaa (sVar 1) (yaa (yal ybd (yaa (Sm.sFld 1 0 (sVar 0)) (yaa (yah 1 yai (sVar 0) (yaa (sVar 1) sNil)) (yaa (sVar 2) sNil)))) sNil))))
def yaL : Fn:=mkFn 3 3
  (yan (yah 1 yav (sVar 0) (yaa (sVar 1) (yaa (yal yaF (yaa (Sm.sFld 1 0 (sVar 0)) (yaa (yah 1 yai (sVar 0) (yaa (sVar 1) sNil)) (yaa (yah 1 yai (sVar 0) (yaa (sVar 2) sNil)) sNil)))) sNil))))
def ycS : Fn:=mkFn 1 2
  (sSeq (sIf (yas (sOp2 fEq (Sm.sFld 1 2 (sVar 0)) (sLst sNil))) sBd yay)
  (sSeq (sSet 1 (sBM0 ya6 mPop (Sm.sFld 1 2 (sVar 0))))
  (sSeq (yan (sBM ya6 yaV (Sm.sFld 1 3 (sVar 0)) (yaa (sVar 1) sNil)))
  (yan (yah 1 ybf (sVar 0) (yaa (sOp2 fIx (sVar 1) (sLit (.int 0))) (yaa (sOp2 fIx (sVar 1) (sLit (.int 1))) sNil)))))))
def ycg : Fn:=mkFn 1 2
  (sSeq (sIf (yas (sOp2 fEq (Sm.sFld 1 3 (sVar 0)) (sLst sNil))) sBd yay)
  (sSeq (sSet 1 (sBM0 ya6 mPop (Sm.sFld 1 3 (sVar 0))))
  (sSeq (yan (sBM ya6 yaV (Sm.sFld 1 2 (sVar 0)) (yaa (sVar 1) sNil)))
  (yan (yah 1 ybf (sVar 0) (yaa (sOp2 fIx (sVar 1) (sLit (.int 0))) (yaa (sOp2 fIx (sVar 1) (sLit (.int 2))) sNil)))))))
def ycT : Fn:=mkFn 1 1
  (sRet (yal fLen (yaa (Sm.sFld 0 0 (sVar 0)) sNil)))
def ybx : Fn:=mkFn 1 1
  (sRet (yal yet (yaa (Sm.sFld 1 1 (sVar 0)) sNil)))
def ya2 : Fn:=mkFn 1 1
  (sRet (Sm.sFld 1 0 (sVar 0)))
def yce : Fn:=mkFn 1 1
  (sRet (sTup (yaa (ybk [0] (iVal (yah 1 ybx (sVar 0) sNil)) sYes (sTup (yaa (sVar 0) (yaa (yah 1 yai (sVar 1) (yaa (sVar 0) sNil)) sNil)))) (yaa (yah 0 ycT (yah 1 ya2 (sVar 0) sNil) sNil) sNil))))
def ybo : Fn:=mkFn 3 3
  (sSeq (yan (yal ya7 (yaa (sVar 1) sNil)))
  (yan (yah 1 yav (sVar 0) (yaa (sVar 1) (yaa (yah 1 yai (sVar 0) (yaa (sVar 2) sNil)) sNil)))))
def ybA : Fn:=mkFn 3 4
  (sSeq (sSet 3 (yah 0 yaB (sVar 0) (yaa (sVar 1) sNil)))
  (sIf (sNot (yas (ybU fLe fLe (sLit (.int 0)) (sVar 2) (sVar 3)))) (ycn 6 (yaa (sLit (.str "the text has no such place, and does not end there")) sNil)) yay))
def yb2 : Fn:=mkFn 4 6
  (sSeq (sSet 4 (sOp2 fAdd (yah 0 yaB (sVar 0) (yaa (sVar 1) sNil)) (yah 0 yaB (sVar 0) (yaa (sVar 3) sNil))))
  (sSeq (yan (yal ybA (yaa (sVar 0) (yaa (sVar 1) (yaa (sVar 2) sNil)))))
  (sSeq (yan (yal yaP (yaa (sVar 4) sNil)))
  sBd)))
def yaM : Fn:=mkFn 4 4
  (yan (yah 1 yav (sVar 0) (yaa (sVar 1) (yaa (yal yb2 (yaa (Sm.sFld 1 0 (sVar 0)) (yaa (yah 1 yai (sVar 0) (yaa (sVar 1) sNil)) (yaa (sVar 2) (yaa (yah 1 yai (sVar 0) (yaa (sVar 3) sNil)) sNil))))) sNil))))
def ybv : Fn:=mkFn 4 5
  (sSeq (sSet 4 (yah 0 yaB (sVar 0) (yaa (sVar 1) sNil)))
  (sIf (sNot (yas (ydu fLe fLe fLe (sLit (.int 0)) (sVar 2) (sVar 3) (sVar 4)))) (ycn 6 (yaa (sLit (.str "the text has no such stretch")) sNil)) yay))
def yci : Fn:=mkFn 4 4
  (sSeq (yan (yal ybv (yaa (sVar 0) (yaa (sVar 1) (yaa (sVar 2) (yaa (sVar 3) sNil))))))
  sBd)
def ya9 : Fn:=mkFn 4 4
  (yan (yah 1 yav (sVar 0) (yaa (sVar 1) (yaa (yal yci (yaa (Sm.sFld 1 0 (sVar 0)) (yaa (yah 1 yai (sVar 0) (yaa (sVar 1) sNil)) (yaa (sVar 2) (yaa (sVar 3) sNil))))) sNil))))
def ycb : Fn:=mkFn 2 2
  (sSeq (yan (yah 1 yai (sVar 0) (yaa (sVar 1) sNil)))
  (yan (yah 1 yav (sVar 0) (yaa (sVar 1) (yaa (sLit .non) sNil)))))
def yar : Fn:=mkFn 2 4
  (sSeq (sSet 2 (sLst sNil))
  (sSeq (sTry 3 ybN (sIf (yas (sOp2 fEq (sOp2 fIx (sVar 1) (sLit (.int 0))) (sLit (.str "give")))) (yan (yah 1 yaO (sVar 0) (yaa (sOp2 fIx (sVar 1) (sLit (.int 1))) (yaa (sOp2 fIx (sVar 1) (sLit (.int 2))) sNil)))) (sIf (yas (sOp2 fEq (sOp2 fIx (sVar 1) (sLit (.int 0))) (sLit (.str "copy_of")))) (yan (yah 1 ybo (sVar 0) (yaa (sOp2 fIx (sVar 1) (sLit (.int 1))) (yaa (sOp2 fIx (sVar 1) (sLit (.int 2))) sNil)))) (sIf (yas (sOp2 fEq (sOp2 fIx (sVar 1) (sLit (.int 0))) (sLit (.str "join_to")))) (yan (yah 1 yaL (sVar 0) (yaa (sOp2 fIx (sVar 1) (sLit (.int 1))) (yaa (sOp2 fIx (sVar 1) (sLit (.int 2))) sNil)))) (sIf (yas (sOp2 fEq (sOp2 fIx (sVar 1) (sLit (.int 0))) (sLit (.str "put_into")))) (yan (yah 1 yaM (sVar 0) (yaa (sOp2 fIx (sVar 1) (sLit (.int 1))) (yaa (sOp2 fIx (sVar 1) (sLit (.int 2))) (yaa (sOp2 fIx (sVar 1) (sLit (.int 3))) sNil))))) (sIf (yas (sOp2 fEq (sOp2 fIx (sVar 1) (sLit (.int 0))) (sLit (.str "take_from")))) (yan (yah 1 ya9 (sVar 0) (yaa (sOp2 fIx (sVar 1) (sLit (.int 1))) (yaa (sOp2 fIx (sVar 1) (sLit (.int 2))) (yaa (sOp2 fIx (sVar 1) (sLit (.int 3))) sNil))))) (sIf (yas (sOp2 fEq (sOp2 fIx (sVar 1) (sLit (.int 0))) (sLit (.str "repeat")))) (yan (yah 1 yaR (sVar 0) (yaa (sOp2 fIx (sVar 1) (sLit (.int 1))) (yaa (sOp2 fIx (sVar 1) (sLit (.int 2))) sNil)))) (sIf (yas (sOp2 fEq (sOp2 fIx (sVar 1) (sLit (.int 0))) (sLit (.str "drop")))) (yan (yah 1 ycb (sVar 0) (yaa (sOp2 fIx (sVar 1) (sLit (.int 1))) sNil))) (yan (yah 1 yai (sVar 0) (yaa (sOp2 fIx (sVar 1) (sLit (.int 1))) sNil)))))))))) (sSeq (sSet 2 (sLst (yaa (sIsX ydc (sVar 3)) (yaa (sIsX ydd (sVar 3)) (yaa (sIsX ycQ (sVar 3)) (yaa (sIsX ycR (sVar 3)) sNil))))))
  (sSet 2 (sOp2 fAdd (sVar 2) (sLst (yaa (sIsX yca (sVar 3)) (yaa (sIsX ycf (sVar 3)) sNil)))))))
  (sRet (sVar 2))))
def yb3 : SS :=
  (sSeq (sIf (yas (sOp2 fNe (yal yar (yaa (sVar 0) (yaa (sVar 4) sNil))) (ybk [2] (ybS (sLit (.int 6))) sYes (sOrV (sOp2 fEq (sVar 0) (sVar 1)) (sOp2 fEq (sVar 0) (sLit (.int 5))))))) (sRet (sLit (.bl false))) yay)
  (sIf (yas (sOp2 fNe (yal yce (yaa (sVar 0) sNil)) (sVar 3))) (sRet (sLit (.bl false))) yay))
def yaZ : Fn:=mkFn 3 5
  (sSeq (sSet 3 (yal yce (yaa (sVar 0) sNil)))
  (sSeq (sFor (iVal (sVar 1)) (.nm 4) yb3)
  (sRet (sLit (.bl true)))))
def ya1 : Fn:=mkFn 2 3
  (sSeq (sSet 2 (sOp2 fMod (sOp2 fIx (sVar 0) (sLit (.int 0))) (sVar 1)))
  (sSeq (ydb (sVar 0) (sLit (.int 0)) (sOp2 fDiv (sOp2 fIx (sVar 0) (sLit (.int 0))) (sVar 1)))
  (sRet (sVar 2))))
def ybF : SS :=
  (sSet 3 (sOp2 fAdd (sVar 3) (sOp2 fIx (sVar 2) (yal ya1 (yaa (sVar 0) (yaa (yal fLen (yaa (sVar 2) sNil)) sNil))))))
def yb4 : Fn:=mkFn 2 5
  (sSeq (sSet 2 (sOp2 fIx (sLst (yaa (sLit (.str "ab")) (yaa (sLit (.str "aaab")) (yaa (sLit (.str "a\n")) (yaa (sLit (.str "ab \n")) (yaa (sLit (.str "abcdefghijklmnopqrstuvwxyz 0123456789.,~\n")) sNil)))))) (yal ya1 (yaa (sVar 0) (yaa (sLit (.int 5)) sNil)))))
  (sSeq (sSet 3 (sLit (.str "")))
  (sSeq (sFor (ybS (yal ya1 (yaa (sVar 0) (yaa (sOp2 fAdd (sVar 1) (sLit (.int 1))) sNil)))) (.nm 4) ybF)
  (sRet (sVar 3)))))
def ybm : SS :=
  (sSeq (sSet 1 (sOp2 fAdd (sVar 1) (sLst (yaa (sTup (yaa (sLit (.str "drop")) (yaa (sVar 2) sNil))) (yaa (sTup (yaa (sLit (.str "text")) (yaa (sVar 2) sNil))) (yaa (sTup (yaa (sLit (.str "join_to")) (yaa (sVar 2) (yaa (sVar 0) sNil)))) (yaa (sTup (yaa (sLit (.str "join_to")) (yaa (sVar 0) (yaa (sVar 2) sNil)))) sNil)))))))
  (sSeq (sSet 1 (sOp2 fAdd (sVar 1) (sLst (yaa (sTup (yaa (sLit (.str "put_into")) (yaa (sVar 2) (yaa (sOp1 fNeg (sLit (.int 1))) (yaa (sVar 0) sNil))))) (yaa (sTup (yaa (sLit (.str "put_into")) (yaa (sVar 0) (yaa (sOp1 fNeg (sLit (.int 1))) (yaa (sVar 2) sNil))))) (yaa (sTup (yaa (sLit (.str "take_from")) (yaa (sVar 2) (yaa (sLit (.int 5)) (yaa (sLit (.int 3)) sNil))))) sNil))))))
  (sSet 1 (sOp2 fAdd (sVar 1) (sLst (yaa (sTup (yaa (sLit (.str "repeat")) (yaa (sVar 2) (yaa (sOp1 fNeg (sLit (.int 1))) sNil)))) (yaa (sTup (yaa (sLit (.str "copy_of")) (yaa (sLit (.str "new")) (yaa (sVar 2) sNil)))) (yaa (sTup (yaa (sLit (.str "put_into")) (yaa (sVar 2) (yaa (sLit (.int 0)) (yaa (sVar 2) sNil))))) sNil))))))))
def ybn : SS :=
  (sSeq (sSet 1 (sOp2 fAdd (sVar 1) (sLst (yaa (sTup (yaa (sLit (.str "give")) (yaa (sVar 2) (yaa (sLit (.str "x")) sNil)))) (yaa (sTup (yaa (sLit (.str "give")) (yaa (sVar 2) (yaa (sLit .non) sNil)))) (yaa (sTup (yaa (sLit (.str "copy_of")) (yaa (sVar 2) (yaa (sVar 0) sNil)))) (yaa (sTup (yaa (sLit (.str "copy_of")) (yaa (sVar 2) (yaa (sLit (.str "none")) sNil)))) sNil)))))))
  (sSet 1 (sOp2 fAdd (sVar 1) (sLst (yaa (sTup (yaa (sLit (.str "give")) (yaa (sVar 2) (yaa (sOp2 ya8 (sLit (.str "y")) (sLit (.int 10001))) sNil)))) sNil)))))
def ybw : Fn:=mkFn 1 3
  (sSeq (sSet 1 (sLst sNil))
  (sSeq (sFor (iVal (sLst (yaa (sLit (.str "")) (yaa (sLit (.str "A")) (yaa (sLit (.str "abcdefghi")) (yaa (sLit (.str "a1")) (yaa (sLit (.str "a b")) (yaa (sLit (.str "none")) (yaa (sLit (.str "nonesuch")) sNil))))))))) (.nm 2) ybm)
  (sSeq (sFor (iVal (sLst (yaa (sLit (.str "")) (yaa (sLit (.str "A")) (yaa (sLit (.str "abcdefghi")) (yaa (sLit (.str "a1")) (yaa (sLit .non) (yaa (sLit (.int 7)) (yaa (sLit (.int 0)) (yaa (sLit (.bl true)) (yaa (sLst (yaa (sLit (.str "a")) sNil)) (yaa (sTup (yaa (sLit (.str "a")) sNil)) (yaa (ycL false) (yaa (sLit (.str "a\n")) sNil)))))))))))))) (.nm 2) ybn)
  (sRet (sVar 1)))))
def ybg : SS :=
  (sSeq (sSet 4 (sOp2 fAdd (sVar 4) (sLst (yaa (sTup (yaa (sLit (.str "put_into")) (yaa (sVar 0) (yaa (sVar 5) (yaa (sVar 1) sNil))))) (yaa (sTup (yaa (sLit (.str "take_from")) (yaa (sVar 0) (yaa (sVar 5) (yaa (sVar 2) sNil))))) sNil)))))
  (sSet 4 (sOp2 fAdd (sVar 4) (sLst (yaa (sTup (yaa (sLit (.str "take_from")) (yaa (sVar 0) (yaa (sLit (.int 0)) (yaa (sVar 5) sNil))))) (yaa (sTup (yaa (sLit (.str "put_into")) (yaa (sVar 0) (yaa (sVar 5) (yaa (sLit (.str "huge")) sNil))))) (yaa (sTup (yaa (sLit (.str "take_from")) (yaa (sVar 0) (yaa (sVar 5) (yaa (sVar 5) sNil))))) sNil)))))))
def ybh : Fn:=mkFn 4 6
  (sSeq (sSet 4 (sLst sNil))
  (sSeq (sFor (iVal (sLst (yaa (sOp1 fNeg (sLit (.int 1))) (yaa (sOp2 fAdd (sVar 2) (sLit (.int 1))) (yaa (sOp2 fAdd (sOp2 fAdd (sVar 2) (sLit (.int 1))) (sVar 3)) (yaa (sOp2 fSub (sOp1 fNeg (sLit (.int 1))) (sVar 3)) sNil)))))) (.nm 5) ybg)
  (sSeq (sIf (yas (sOp2 fGt (sVar 2) (sLit (.int 0)))) (sSet 4 (sOp2 fAdd (sVar 4) (sLst (yaa (sTup (yaa (sLit (.str "take_from")) (yaa (sVar 0) (yaa (sVar 2) (yaa (sOp2 fSub (sVar 2) (sLit (.int 1))) sNil))))) (yaa (sTup (yaa (sLit (.str "take_from")) (yaa (sVar 0) (yaa (sLit (.int 1)) (yaa (sLit (.int 0)) sNil))))) sNil))))) yay)
  (sRet (sOp2 fAdd (sVar 4) (sLst (yaa (sTup (yaa (sLit (.str "repeat")) (yaa (sVar 0) (yaa (sOp1 fNeg (sLit (.int 1))) sNil)))) (yaa (sTup (yaa (sLit (.str "repeat")) (yaa (sVar 0) (yaa (sOp2 fSub (sOp1 fNeg (sLit (.int 1))) (sVar 3)) sNil)))) (yaa (sTup (yaa (sLit (.str "repeat")) (yaa (sLit (.str "huge")) (yaa (sOp1 fNeg (sLit (.int 1))) sNil)))) sNil)))))))))
def yd6 : SS :=
  (yan (yah 1 yaO (sVar 2) (yaa (sVar 5) (yaa (sVar 6) sNil))))
def yfx : Fn:=mkFn 1 10
  (sSeq (sSet 1 (yal ybO (yaa (sVar 0) (yaa (sLit (.int 0)) sNil))))
  (sSeq (sSet 2 (yeL 1 4 ycp sNil))
  (sSeq (sSet 3 (ybk [1] (ybS (sOp2 fAdd (sLit (.int 1)) (yal ya1 (yaa (sVar 1) (yaa (sLit (.int 3)) sNil))))) sYes (sOp2 fAdd (sLit (.str "x")) (yal yb4 (yaa (sVar 1) (yaa (sLit (.int 30)) sNil))))))
  (sSeq (sSet 4 (sCut (sLst (yaa (sLit (.str "a")) (yaa (sLit (.str "ab")) (yaa (sLit (.str "zz")) sNil)))) none (some (yal fLen (yaa (sVar 3) sNil)))))
  (sSeq (yfw (yfv (sVar 4) (sVar 3)) (.tup [5,6]) yd6)
  (sSeq (yan (yah 1 yaO (sVar 2) (yaa (sLit (.str "huge")) (yaa (sLit (.str "abcdefghij")) sNil))))
  (sSeq (yan (yah 1 yaR (sVar 2) (yaa (sLit (.str "huge")) (yaa (sOp2 fPow (sLit (.int 10)) (sLit (.int 17))) sNil))))
  (sSeq (yan (yah 1 yaL (sVar 2) (yaa (sLit (.str "a")) (yaa (sLit (.str "a")) sNil))))
  (sSeq (yan (yah 1 ycS (sVar 2) sNil))
  (sSeq (sSet 7 (sOp2 fMod (yal fSum (yaa (sVar 0) sNil)) (sOp2 fPow (sLit (.int 10)) (sLit (.int 28)))))
  (sSeq (sIf (sNot (ybt (yal yaZ (yaa (sVar 2) (yaa (yal ybw (yaa (sLit (.str "a")) sNil)) (yaa (sLit (.int 0)) sNil)))))) (sRet (sLit (.bl false))) yay)
  (sSeq (sSet 8 (ybk [] (iVal (sLst (yaa (sLit .non) (yaa (sLit (.int 7)) (yaa (sLit (.bl true)) (yaa (sLst (yaa (sLit (.str "a")) sNil)) (yaa (sTup (yaa (sLit (.str "a")) sNil)) (yaa (ycL false) (yaa (sLit (.str "\t")) (yaa (sLit (.str "a\tb")) (yaa (sOp2 ya8 (sLit (.str "\t")) (sLit (.int 10001))) sNil))))))))))) sYes (sTup (yaa (sLit (.str "give")) (yaa (sLit (.str "new")) (yaa (sVar 0) sNil))))))
  (sSeq (sIf (sNot (ybt (yal yaZ (yaa (sVar 2) (yaa (sOp2 fAdd (sVar 8) (sLst (yaa (sTup (yaa (sLit (.str "give")) (yaa (sLit (.str "a")) (yaa (sOp2 fAdd (sOp2 ya8 (sLit (.str "a")) (sLit (.int 10000))) (sLit (.str "\t"))) sNil)))) sNil))) (yaa (sLit (.int 1)) sNil)))))) (sRet (sLit (.bl false))) yay)
  (sSeq (sIf (sNot (ybt (yal yaZ (yaa (sVar 2) (yaa (yal ybh (yaa (sLit (.str "a")) (yaa (sOp2 fIx (sVar 4) (sOp1 fNeg (sLit (.int 1)))) (yaa (yal fLen (yaa (sOp2 fIx (sVar 3) (sLit (.int 0))) sNil)) (yaa (sVar 7) sNil))))) (yaa (sLit (.int 2)) sNil)))))) (sRet (sLit (.bl false))) yay)
  (sSeq (sSet 9 (sLst (yaa (sTup (yaa (sLit (.str "give")) (yaa (sLit (.str "new")) (yaa (sOp2 ya8 (sLit (.str "z")) (sLit (.int 10001))) sNil)))) (yaa (sTup (yaa (sLit (.str "give")) (yaa (sLit (.str "a")) (yaa (sOp2 ya8 (sLit (.str "z")) (sLit (.int 20000))) sNil)))) (yaa (sTup (yaa (sLit (.str "join_to")) (yaa (sLit (.str "huge")) (yaa (sLit (.str "a")) sNil)))) sNil)))))
  (sSeq (sSet 9 (sOp2 fAdd (sVar 9) (sLst (yaa (sTup (yaa (sLit (.str "join_to")) (yaa (sLit (.str "a")) (yaa (sLit (.str "huge")) sNil)))) (yaa (sTup (yaa (sLit (.str "put_into")) (yaa (sLit (.str "huge")) (yaa (sLit (.int 5)) (yaa (sLit (.str "a")) sNil))))) (yaa (sTup (yaa (sLit (.str "put_into")) (yaa (sLit (.str "a")) (yaa (sLit (.int 0)) (yaa (sLit (.str "huge")) sNil))))) sNil))))))
  (sSeq (sSet 9 (sOp2 fAdd (sVar 9) (sLst (yaa (sTup (yaa (sLit (.str "repeat")) (yaa (sLit (.str "huge")) (yaa (sLit (.int 2)) sNil)))) sNil))))
  (sSeq (sSet 9 (sOp2 fAdd (sVar 9) (sLst (yaa (sTup (yaa (sLit (.str "repeat")) (yaa (sLit (.str "a")) (yaa (sOp2 fPow (sLit (.int 10)) (sLit (.int 18))) sNil)))) (yaa (sTup (yaa (sLit (.str "repeat")) (yaa (sLit (.str "huge")) (yaa (sOp2 fAdd (sLit (.int 2)) (sVar 7)) sNil)))) sNil)))))
  (sSeq (sIf (sOr (sAnd (yas (sOp2 fNe (sOp2 fIx (sVar 3) (sLit (.int 0))) (sLit (.str "x")))) (sNot (ybt (yal yaZ (yaa (sVar 2) (yaa (sVar 9) (yaa (sLit (.int 3)) sNil))))))) (sNot (ybt (yal yaZ (yaa (sVar 2) (yaa (sCut (sVar 9) none (some (sLit (.int 7)))) (yaa (sLit (.int 3)) sNil))))))) (sRet (sLit (.bl false))) yay)
  (sSeq (yan (yah 1 ycg (sVar 2) sNil))
  (sSeq (yan (yah 1 yaO (sVar 2) (yaa (sLit (.str "full")) (yaa (sOp2 ya8 (sLit (.str "z")) (sLit (.int 10000))) sNil))))
  (sSeq (sIf (yas (sOp2 fNe (yah 0 yaB (yah 1 ya2 (sVar 2) sNil) (yaa (yah 1 yai (sVar 2) (yaa (sLit (.str "full")) sNil)) sNil)) (sLit (.int 10000)))) (sRet (sLit (.bl false))) yay)
  (sRet (yec (sOp2 fNe (yah 1 yai (sVar 2) (yaa (sLit (.str "a")) sNil)) (sLit (.int 0))) (sOp2 fEq (yah 0 yaB (yah 1 ya2 (sVar 2) sNil) (yaa (yah 1 yai (sVar 2) (yaa (sLit (.str "a")) sNil)) sNil)) (sOp2 fMul (sLit (.int 2)) (yal fLen (yaa (sOp2 fIx (sVar 3) (sLit (.int 0))) sNil))))))))))))))))))))))))))))
end Sk
set_option exponentiation.threshold 2000
namespace Sk
open PySem PySem.Spec L2 Sm
theorem zgl {w : Option Nat} {all : List AV} {t : Tg} {b : SS} (P : Nat -> En -> AH -> Prop) : ∀ (xs : List AV) (i : Nat) (en : En) (h : AH),P i en h ->
  (∀ i en h,P i en h -> ybV w all h = true) ->
  (∀ (j : Nat) (x : AV) (en : En) (h : AH),xs[j]? = some x -> P (i + j) en h -> ∃ e1 e2 h2,setT t x en = some e1 /\ (b e1 h = .nx e2 h2 \/ b e1 h = .ct e2 h2) /\ P (i + j + 1) e2 h2) ->
  ∃ e' h',ybM w all t b xs en h = .nx e' h' /\ P (i + xs.length) e' h'
 | [],i,en,h,p,lv,_=>⟨en,h,by unfold ybM; rw [if_pos (lv _ _ _ p)],p⟩
 | x :: xs,i,en,h,p,lv,s=>by
  obtain ⟨e1,e2,h2,q1,q2,q3⟩:=s 0 x en h rfl p
  obtain ⟨e',h',r1,r2⟩:=zgl P xs (i + 1) e2 h2 q3 lv λj y en h e q=>by
   have:=s (j + 1) y en h (by simpa using e) (by rw [show i + (j + 1) = i + 1 + j by lia]; exact q)
   rw [show i + (j + 1) + 1 = i + 1 + j + 1 by lia] at this
   exact this
  refine ⟨e',h',?_,by rw [List.length_cons,show i + (xs.length + 1) = i + 1 + xs.length by lia]; exact r2⟩
  unfold ybM
  rw [if_pos (lv _ _ _ p)]
  simp only [q1]
  rcases q2 with q2 | q2
  ·rw [q2]; exact r1
  ·rw [q2]; exact r1
theorem zcm {α : Type} {js : List Nat} {en : En} {w : Option Nat} {all : List AV} {c : SB} {e : SE} {g f : α -> AV} {p : α -> Bool} {h : AH} (lv : ybV w all h = true) : ∀ (cs : List α) (ys : List AV),(∀ x ∈ cs,c (some (g x) :: js.map λj=>(en[j]?).join) h = .ok (p x) h) -> (∀ x ∈ cs,p x = true -> e (some (g x) :: js.map λj=>(en[j]?).join) h = .ok (f x) h) -> ys.length + cs.length <= sizeLine ->
  ybj js en w all c e (cs.map g) ys h = .ok (ys++(cs.filter p).map f) h
 | [],ys,_,_,_=>by rw [List.map_nil]; unfold ybj; rw [if_pos lv]; simp
 | x :: xs,ys,hc,he,hl=>by
  have hl' : ys.length < sizeLine:=by simp at hl; lia
  rw [List.map_cons]
  unfold ybj
  rw [if_pos ⟨lv,hl'⟩,hc x (by simp)]
  cases hp : p x with
  | false =>
   dsimp only
   rw [zcm lv xs ys (λy hy=>hc y (by simp [hy])) (λy hy=>he y (by simp [hy])) (by simp at hl ⊢; lia)]
   simp [List.filter_cons,hp]
  | true =>
   dsimp only
   rw [he x (by simp) hp]
   dsimp only
   rw [zcm lv xs (ys++[f x]) (λy hy=>hc y (by simp [hy])) (λy hy=>he y (by simp [hy])) (by simp at hl ⊢; lia)]
   simp [List.filter_cons,hp]
variable {α:Type} {en:En} {h h1 h' h2 hh:AH}
theorem zc4 {js:List Nat} {w:Option Nat} {all:List AV} {e:SE} {g f:α -> AV} (lv : ybV w all h = true) (cs : List α) (ys : List AV) (he : ∀ x ∈ cs,e (some (g x) :: js.map λj=>(en[j]?).join) h = .ok (f x) h) (hl : ys.length + cs.length <= sizeLine) :
  ybj js en w all sYes e (cs.map g) ys h = .ok (ys++cs.map f) h:=by
 rw [zcm (p:=λ_=>true) lv cs ys (λ_ _=>rfl) (λx hx _=>he x hx) hl,List.filter_eq_self.mpr (λ_ _=>rfl)]
@[simp] def thn (o : OutS) (Q : En -> AH -> Prop) : Prop:=match o with
 | .nx e h=>Q e h
 | .ct e h=>Q e h
 | _=>False
theorem yhu {o : OutS} {Q : En -> AH -> Prop} (t : thn o Q) : ∃ e h,(o = .nx e h \/ o = .ct e h) /\ Q e h:=by
 cases o with
 | nx e h=>exact ⟨e,h,.inl rfl,t⟩
 | ct e h=>exact ⟨e,h,.inr rfl,t⟩
 | _=>exact t.elim
@[simp] def yhv (o : Option En) (Q : En -> Prop) : Prop:=match o with
 | some e=>Q e
 | none=>False
variable {xs:List AV}
theorem ydS {w:Option Nat} {all:List AV} {t:Tg} {b:SS} (P : Nat -> En -> AH -> Prop) (p0 : P 0 en h) (lv : ∀ i en h,P i en h -> ybV w all h = true) (st : ∀ (j : Nat) (x : AV) (en : En) (h : AH),xs[j]? = some x -> P j en h -> yhv (setT t x en) λe1=>thn (b e1 h) (P (j + 1))) :
  ∃ e' h',ybM w all t b xs en h = .nx e' h' /\ P xs.length e' h' := by
 have:=zgl (w:=w) (all:=all) (t:=t) (b:=b) P xs 0 en h p0 lv λj x en h hx hp=>by
  have q:=st j x en h hx (by simpa using hp)
  cases z : setT t x en with
  | none=>rw [z] at q; exact q.elim
  | some e1 =>
   rw [z] at q
   obtain ⟨e,h2,a,c⟩:=yhu q
   exact ⟨e1,e,h2,rfl,a,by simpa using c⟩
 simpa using this
@[simp] def ygk (o : Out AV) (Q : AV -> AH -> Prop) : Prop:=match o with
 | .ok v h=>Q v h
 | _=>False
theorem zgm {js : List Nat} {en : En} {all : List AV} {e : SE} (P : Nat -> List AV -> AH -> Prop) : ∀ (xs ys : List AV) (i : Nat) (h : AH),P i ys h ->
  (∀ j x ys h,xs[j]? = some x -> P (i + j) ys h -> ∃ v h2,e (some x :: js.map λj=>(en[j]?).join) h = .ok v h2 /\ P (i + j + 1) (ys++[v]) h2) -> ys.length + xs.length <= sizeLine ->
  ∃ zs h',ybj js en none all sYes e xs ys h = .ok zs h' /\ P (i + xs.length) zs h'
 | [],ys,i,h,p,_,_=>⟨ys,h,by simp [ybj],p⟩
 | x :: xs,ys,i,h,p,s,hl=>by
  obtain ⟨v,h2,q1,q2⟩:=s 0 x ys h rfl p
  obtain ⟨zs,h',r1,r2⟩:=zgm P xs (ys++[v]) (i + 1) h2 q2 (λj y ys h hy hp=>by
   have:=s (j + 1) y ys h (by simpa using hy) (by rw [show i + (j + 1) = i + 1 + j by lia]; exact hp)
   rw [show i + (j + 1) + 1 = i + 1 + j + 1 by lia] at this
   exact this) (by simp at hl ⊢; lia)
  refine ⟨zs,h',?_,by rw [List.length_cons,show i + (xs.length + 1) = i + 1 + xs.length by lia]; exact r2⟩
  unfold ybj
  rw [if_pos ⟨rfl,by simp at hl; lia⟩]
  simp only [sYes]
  rw [q1]
  exact r1
theorem yfV {js:List Nat} {all:List AV} {e:SE} (P : Nat -> List AV -> AH -> Prop) (p0 : P 0 [] h) (st : ∀ j x ys h,xs[j]? = some x -> P j ys h -> ygk (e (some x :: js.map λj=>(en[j]?).join) h) λv h2=>P (j + 1) (ys++[v]) h2) (hl : xs.length <= sizeLine) :
  ∃ zs h',ybj js en none all sYes e xs [] h = .ok zs h' /\ P xs.length zs h' := by
 have:=zgm (js:=js) (en:=en) (all:=all) (e:=e) P xs [] 0 h p0 (λj x ys h hx p=>by
  have q:=st j x ys h hx (by simpa using p)
  cases z : e (some x :: js.map λj=>(en[j]?).join) h with
  | ok v h2=>rw [z] at q; exact ⟨v,h2,rfl,by simpa using q⟩
  | ex _ _=>rw [z] at q; exact q.elim
  | bad=>rw [z] at q; exact q.elim) (by simpa using hl)
 simpa using this
theorem zeq : ∀ (n : Nat) (lo : Int) (i : Nat),(ybl lo n)[i]? = if i < n then some (.int (lo + i)) else none
 | 0,lo,i=>by simp [ybl]
 | n + 1,lo,0=>by simp [ybl]
 | n + 1,lo,i + 1=>by
  unfold ybl
  rw [List.getElem?_cons_succ,zeq n (lo + 1) i]
  by_cases q : i < n
  ·rw [if_pos q,if_pos (by lia)]; congr 2; lia
  ·rw [if_neg q,if_neg (by lia)]
theorem za1 : ∀ (n : Nat) (lo : Int),(ybl lo n).length = n
 | 0,_=>rfl
 | n + 1,lo=>by unfold ybl; rw [List.length_cons,za1 n]
variable {n e b a i j p d k1 n1 c hb D:Nat}
theorem zcn {a:SE} (e : a en h = .ok (.int n) h1) (hn : n <= 10000000) : ybS a en h = .ok (ybl 0 n,none) h1:=by
 have h1' : (n : Int).natAbs < 2 ^ 62:=by lia
 simp only [ybS,e,Out.bind]
 rw [if_pos h1']; rfl
theorem ydz {it:SI} {t:Tg} {b:SS} {w:Option Nat} (e : it en h = .ok (xs,w) h1) : sFor it t b en h = ybM w xs t b xs en h1:=by simp only [sFor,e]
theorem yfW {i j:Int} (hi : i.natAbs < 2 ^ 64) : fMul (.int i) (.int j) h = .ok (.int (i * j)) h:=if_pos (.inl (.inl hi))
theorem yfX {i j:Int} (hj : j.natAbs < 2 ^ 64) : fMul (.int i) (.int j) h = .ok (.int (i * j)) h:=if_pos (.inl (.inr hj))
theorem ziP {f:α -> AV} {l:List α} {q:α} (e : l[j]? = some q) : atI (l.map f) (j : Int) = some (f q):=zcC (by simp [e])
end Sk
set_option exponentiation.threshold 5000
namespace Sk
open PySem PySem.Spec L2 Sm
def yd7 (c : Nat) : Bool:=decide (c = 10) || (decide (32 <= c) && decide (c <= 126))
theorem lt1 (a b : Nat) : ([a] < [b]) ↔ a < b:=by
 simp [List.cons_lt_cons_iff]
theorem yfY : (Str.ofString "\n") = ⟨#[10]⟩:=by decide +kernel
theorem yhw : (Str.ofString " ") = ⟨#[32]⟩:=by decide +kernel
theorem yhx : (Str.ofString "~") = ⟨#[126]⟩:=by decide +kernel
theorem yhy (c : Nat) (h : AH) : ybY [.str ⟨#[c]⟩] h = .ok (.bl (yd7 c)) h:=by
 simp [ybY,yfY,yhw,yhx,lt1,yd7]
 by_cases h1 : c = 10
 ·simp [h1]
 ·by_cases h2 : c < 32
  ·have : ¬ 32 <= c:=by lia
   simp [h1,h2,this]
  ·have h3 : 32 <= c:=by lia
   by_cases h4 : c <= 126
   ·have : ¬ 126 < c:=by lia
    simp [h1,h2,h3,h4,this]
   ·have : 126 < c:=by lia
    simp [h1,h2,h3,h4,this]
theorem zc5 {α : Type} {js : List Nat} {en : En} {all : List AV} {e : SE} {g f : α -> AV} {h : AH} : ∀ (cs : List α) (ys : List AV),(∀ c ∈ cs,e (some (g c) :: js.map λj=>(en[j]?).join) h = .ok (f c) h) -> ys.length + cs.length <= sizeLine -> ybj js en none all sYes e (cs.map g) ys h = .ok (ys++cs.map f) h
 | [],ys,_,_=>by simp [ybj]
 | x :: xs,ys,he,hl=>by
  have hl' : ys.length < sizeLine:=by simp at hl; lia
  rw [List.map_cons]
  unfold ybj
  rw [if_pos ⟨rfl,hl'⟩]
  simp only [sYes]
  rw [he x (by simp)]
  dsimp only
  rw [zc5 xs (ys++[f x]) (λy hy=>he y (by simp [hy])) (by simp at hl ⊢; lia)]
  simp
theorem zco (f : Nat -> Bool) : ∀ cs : List Nat,yd3 (cs.map λc=>.bl (f c)) = some (cs.map f)
 | []=>rfl
 | c :: cs=>by simp [zco f cs]
def yaA (x : Str) : Bool:=x.cps.toList.all yd7
theorem zbL (x : Str) (h : AH) (hl : x.length <= sizeLine) : ybq [.str x] h = .ok (.bl (yaA x)) h:=by
 have e:=zc5 (js:=[]) (en:=[some (.str x)]) (all:=x.cps.toList.map λc=>AV.str ⟨#[c]⟩) (e:=yal ybY (yaa (sVar 0) sNil)) (g:=λc=>AV.str ⟨#[c]⟩) (f:=λc=>AV.bl (yd7 c)) (h:=h) x.cps.toList [] (by
  intro c hc
  simp [yhy]) (by simp; exact hl)
 simp only [List.nil_append] at e
 simp [ybq]
 rw [e]
 simp [zco,yaA]
def ybZ (x : Str) : Bool:=yaA x && (decide (1 <= x.length) && decide (x.length <= 8))
theorem zgn (x : Str) (h : AH) (hl : x.length <= sizeLine) : ydq [.str x] h = .ok (.bl (ybZ x)) h:=by
 simp [ydq,zbL x h hl,ybZ]
 by_cases h1 : yaA x = true
 ·by_cases h2 : 1 <= x.length
  ·have : (1 : Int) <= x.length:=by lia
   by_cases h3 : x.length <= 8
   ·have : (x.length : Int) <= 8:=by lia
    simp [*]
   ·have : ¬ (x.length : Int) <= 8:=by lia
    simp [*]
  ·have : ¬ (1 : Int) <= x.length:=by lia
   simp [*]
 ·simp [h1]
def ydr (x : Str) : Nat:=(Builtin.Str.occurrences x ⟨#[10]⟩ 0 x.length (x.length + 1)).length
theorem yhz (x : Str) (h : AH) : ydQ [.str x] h = .ok (.int (ydr x)) h:=by
 simp [ydQ,yfY,ydr]
theorem zjY (i : Int) (h : AH) : ydp [.int i] h = .ok (.bl true) h:=by
 simp [ydp]
inductive Pc where
 | leaf (x : Str)
 | fork (a b : Nat)
 deriving DecidableEq
def Pc.av : Pc -> AV
 | .leaf x=>.tup [.str "leaf",.str x]
 | .fork a b=>.tup [.str "fork",.int a,.int b]
theorem Pc.av_inj : ∀ {p q : Pc},p.av = q.av -> p = q
 | .leaf x,.leaf y,e=>by simp [Pc.av] at e; rw [e]
 | .leaf x,.fork a b,e=>by simp [Pc.av] at e
 | .fork a b,.leaf x,e=>by simp [Pc.av] at e
 | .fork a b,.fork c d,e=>by simp [Pc.av] at e; rw [Int.ofNat.inj e.1,Int.ofNat.inj e.2]
structure Ms where
 sg : Nat
 en : Nat
 lv : Nat
 ht : Int
 fl : Nat
 ll : Nat
def ms0 : Ms:=⟨0,0,0,-1,0,0⟩
def ycU (ms : List Ms) : Pc -> Ms
 | .leaf x=>⟨x.length,ydr x,1,0,ms.length,ms.length⟩
 | .fork a b=>⟨(ms.getD a ms0).sg + (ms.getD b ms0).sg,(ms.getD a ms0).en + (ms.getD b ms0).en,(ms.getD a ms0).lv + (ms.getD b ms0).lv,max (ms.getD a ms0).ht (ms.getD b ms0).ht + 1,(ms.getD a ms0).fl,(ms.getD b ms0).ll⟩
def meas (ps : List Pc) : List Ms:=ps.foldl (λms q=>ms++[ycU ms q]) [ms0]
theorem zcp (ps : List Pc) (q : Pc) : meas (ps++[q]) = meas ps++[ycU (meas ps) q]:=by simp [meas]
theorem zar : ∀ ps : List Pc,(meas ps).length = ps.length + 1:=by
 have all : ∀ (ps : List Pc) (ms : List Ms),(ps.foldl (λms q=>ms++[ycU ms q]) ms).length = ms.length + ps.length:=by
  intro ps
  induction ps with
  | nil=>intro ms; rfl
  | cons q r ih=>intro ms; rw [List.foldl_cons,ih]; simp; lia
 intro ps
 rw [meas,all]; simp; lia
def ybz (k : Nat) : List Pc -> List (AV × AV)
 | []=>[]
 | q :: r=>(q.av,.int k) :: ybz (k + 1) r
def tab (ps : List Pc) : List (AV × AV):=ybz 1 ps
theorem za2 (q : Pc) : ∀ (ps : List Pc) (k : Nat),ybz k (ps++[q]) = ybz k ps++[(q.av,.int ((k + ps.length : Nat) : Int))]
 | [],k=>by simp [ybz]
 | p :: r,k=>by
  simp only [List.cons_append,ybz,za2 q r (k + 1)]
  rw [show k + 1 + r.length = k + (p :: r).length by simp; lia]
theorem zgo : ∀ (ps : List Pc) (k : Nat),(ybz k ps).length = ps.length
 | [],_=>rfl
 | p :: r,k=>by simp [ybz,zgo r]
theorem zbZ {q : Pc} : ∀ {ps : List Pc} {k : Nat},q ∉ ps -> valA (ybz k ps) q.av = none
 | [],k,_=>rfl
 | p :: r,k,h=>by
  have h1 : ¬ p.av = q.av:=λe=>h (by rw [Pc.av_inj e]; simp)
  have h2:=zbZ (q:=q) (ps:=r) (k:=k + 1) λz=>h (by simp [z])
  unfold valA at h2 ⊢
  simp only [ybz,List.find?_cons,decide_eq_false h1]
  exact h2
theorem zc6 {q : Pc} : ∀ {ps : List Pc} {k i : Nat},ps.Nodup -> ps[i]? = some q -> valA (ybz k ps) q.av = some (.int ((k + i : Nat) : Int))
 | [],k,i,_,e=>by simp at e
 | p :: r,k,0,n,e=>by simp at e; subst e; simp [valA,ybz]
 | p :: r,k,i + 1,n,e=>by
  simp at e
  have h1 : ¬ p.av = q.av:=λz=>(List.nodup_cons.mp n).1 (by rw [Pc.av_inj z]; exact List.mem_of_getElem? e)
  have h2:=zc6 (q:=q) (k:=k + 1) (List.nodup_cons.mp n).2 e
  unfold valA at h2 ⊢
  simp only [ybz,List.find?_cons,decide_eq_false h1]
  rw [h2]
  congr 3
  lia
variable {q:Pc} {ps ps' ps1:List Pc}
theorem zjZ (h : q ∉ ps) : putA (tab ps) q.av (.int ((ps.length + 1 : Nat) : Int)) = tab (ps++[q]):=by
 unfold putA
 rw [zdR,tab,zbZ h,tab,za2]
 simp [Nat.add_comm]
structure ShelfAt (h : AH) (p : Nat) (ps : List Pc) : Prop where
 ob : h[p]? = some (.ins 0 [some (.ref (p + 1)),some (.ref (p + 2)),some (.ref (p + 3)),some (.ref (p + 4)),some (.ref (p + 5)),some (.ref (p + 6)),some (.ref (p + 7)),some (.ref (p + 8))])
 h1 : h[p + 1]? = some (.lst (ps.map Pc.av))
 h2 : h[p + 2]? = some (.dct true (tab ps))
 h3 : h[p + 3]? = some (.lst ((meas ps).map λm=>.int m.sg))
 h4 : h[p + 4]? = some (.lst ((meas ps).map λm=>.int m.en))
 h5 : h[p + 5]? = some (.lst ((meas ps).map λm=>.int m.lv))
 h6 : h[p + 6]? = some (.lst ((meas ps).map λm=>.int m.ht))
 h7 : h[p + 7]? = some (.lst ((meas ps).map λm=>.int m.fl))
 h8 : h[p + 8]? = some (.lst ((meas ps).map λm=>.int m.ll))
def ycl (h : AH) (p : Nat) (ps : List Pc) : AH :=
 (((((((h.set (p + 1) (.lst (ps.map Pc.av))).set (p + 2) (.dct true (tab ps))).set (p + 3) (.lst ((meas ps).map λm=>.int m.sg))).set (p + 4) (.lst ((meas ps).map λm=>.int m.en))).set (p + 5) (.lst ((meas ps).map λm=>.int m.lv))).set
  (p + 6) (.lst ((meas ps).map λm=>.int m.ht))).set (p + 7) (.lst ((meas ps).map λm=>.int m.fl))).set (p + 8) (.lst ((meas ps).map λm=>.int m.ll))
variable {h h1 h' h2 hh:AH} {i e b a n j p d k1 n1 c hb D:Nat}
theorem yb0 {o:AO} (e : h[i]? = some o) : i < h.length:=(List.getElem?_eq_some_iff.mp e).1
theorem zer (h : AH) (p : Nat) (ps : List Pc) : (ycl h p ps).length = h.length:=by simp [ycl]
theorem zff {q:Nat} (hq : q <= p \/ p + 8 < q) : (ycl h p ps)[q]? = h[q]? := by
 unfold ycl
 repeat rw [List.getElem?_set_ne (by lia)]
theorem zb0 (S : ShelfAt h p ps) : ShelfAt (ycl h p ps') p ps' := by
 have b:=yb0 S.h8
 have l1 : p + 1 < h.length:=Nat.lt_of_le_of_lt (Nat.add_le_add_left (by decide) p) b
 have l2 : p + 2 < h.length:=Nat.lt_of_le_of_lt (Nat.add_le_add_left (by decide) p) b
 have l3 : p + 3 < h.length:=Nat.lt_of_le_of_lt (Nat.add_le_add_left (by decide) p) b
 have l4 : p + 4 < h.length:=Nat.lt_of_le_of_lt (Nat.add_le_add_left (by decide) p) b
 have l5 : p + 5 < h.length:=Nat.lt_of_le_of_lt (Nat.add_le_add_left (by decide) p) b
 have l6 : p + 6 < h.length:=Nat.lt_of_le_of_lt (Nat.add_le_add_left (by decide) p) b
 have l7 : p + 7 < h.length:=Nat.lt_of_le_of_lt (Nat.add_le_add_left (by decide) p) b
 have ob:=S.ob
 constructor<;>simp [ycl,List.getElem?_set,l1,l2,l3,l4,l5,l6,l7,b,ob,-List.getElem?_eq_getElem]
variable {α:Type}
theorem lenA (l : List α) (f : α -> AV) : (l.map f).length = l.length:=by simp
theorem yhA (S : ShelfAt h p ps) : ycT [.ref p] h = .ok (.int ps.length) h:=by
 simp [ycT,S.ob,S.h1]
theorem yiB {i:Int} (S : ShelfAt h p ps) : yb6 [.ref p,.int i] h = .ok (.bl (decide (1 <= i /\ i <= ps.length))) h:=by
 simp [yb6,zjY,S.ob,S.h1]
 by_cases h1 : 1 <= i<;>simp [h1]
theorem zb1 {i:Int} (S : ShelfAt h p ps) (hi : 1 <= i /\ i <= ps.length) : yba [.ref p,.int i] h = .ok .non h:=by
 simp [yba,yiB S,S.ob,hi.1,hi.2]
theorem zaD {f:α -> AV} {l:List α} {q:α} (e : l[j]? = some q) : atI (l.map f) (j : Int) = some (f q):=zcC (by simp [e])
theorem zj0 (S : ShelfAt h p ps) (e : ps[j]? = some q) : yaH [.ref p,.int ((j : Int) + 1)] h = .ok q.av h:=by
 have hj:=(List.getElem?_eq_some_iff.mp e).1
 have h1:=zb1 S (i:=(j : Int) + 1) ⟨by lia,by lia⟩
 simp [yaH,h1,S.ob,S.h1,zaD e]
theorem ygl (S : ShelfAt h p ps) (hq : q ∉ ps) (hl : ps.length < 16000000) :
  ycD [.ref p,q.av] h = .ok (.int ((ps.length + 1 : Nat) : Int)) ((h.set (p + 1) (.lst ((ps++[q]).map Pc.av))).set (p + 2) (.dct true (tab (ps++[q])))):=by
 have b:=yb0 S.h8
 have hs : ps.length < sizeLine:=Nat.lt_trans hl (by decide)
 have ht : (tab ps).length < sizeLine:=by rw [tab,zgo]; exact hs
 have hk : ycc true q.av = true:=by cases q<;>simp [Pc.av]
 have e1 : (h.set (p + 1) (.lst (ps.map Pc.av++[q.av])))[p]? = h[p]? := List.getElem?_set_ne (by lia)
 have e2 : (h.set (p + 1) (.lst (ps.map Pc.av++[q.av])))[p + 1]? = some (.lst (ps.map Pc.av++[q.av])):=List.getElem?_set_self (by lia)
 have e3 : (h.set (p + 1) (.lst (ps.map Pc.av++[q.av])))[p + 2]? = h[p + 2]? := List.getElem?_set_ne (by lia)
 have tp:=zjZ hq
 simp [ycD,S.ob,S.h1,hs,e1,e2,e3,S.h2,hk,ht,-ycc]
 rw [show ((ps.length : Int) + 1) = ((ps.length + 1 : Nat) : Int) by simp,tp]
variable {x w y Y:Str}
theorem zhO (S : ShelfAt h p ps) (hq : Pc.leaf x ∉ ps) (hl : ps.length < 16000000) :
  ybQ [.ref p,(Pc.leaf x).av] h = .ok .non (ycl h p (ps++[.leaf x])):=by
 have b:=yb0 S.h8
 have hs : ps.length + 1 < sizeLine:=Nat.lt_of_lt_of_le (Nat.succ_lt_succ hl) (by decide)
 have hm : (meas ps).length < sizeLine:=by rw [zar]; exact hs
 have e:=ygl S hq hl
 have b2 : ((meas ps).length : Int) = (ps.length : Int) + 1:=by rw [zar]; simp
 have e2 : fIx (Pc.leaf x).av (.int 1) = λh=>Out.ok (.str x) h:=by funext h; rfl
 have l1 : p + 1 < h.length:=by lia
 have l2 : p + 2 < h.length:=by lia
 have l3 : p + 3 < h.length:=by lia
 have l4 : p + 4 < h.length:=by lia
 have l5 : p + 5 < h.length:=by lia
 have l6 : p + 6 < h.length:=by lia
 have l7 : p + 7 < h.length:=by lia
 simp [ybQ,e,S.ob,S.h3,S.h4,S.h5,S.h6,S.h7,S.h8,hm,yhz,List.getElem?_set,zcp,ycU,ycl,e2,zar,hs,-fIx,-List.getElem?_eq_getElem]
theorem zgp {l:List α} {d x:α} (e : l[i]? = some x) : l.getD i d = x:=by simp [List.getD,e]
variable {ma mb f l la fb fa lb mc md:Ms}
theorem zhP (S : ShelfAt h p ps) (hq : Pc.fork a b ∉ ps) (hl : ps.length < 16000000) (ha : (meas ps)[a]? = some ma) (hb : (meas ps)[b]? = some mb) :
  ybP [.ref p,(Pc.fork a b).av] h = .ok .non (ycl h p (ps++[.fork a b])):=by
 have bb:=yb0 S.h8
 have hs : ps.length + 1 < sizeLine:=Nat.lt_of_lt_of_le (Nat.succ_lt_succ hl) (by decide)
 have hm : (meas ps).length < sizeLine:=by rw [zar]; exact hs
 have e:=ygl S hq hl
 have e2 : fIx (Pc.fork a b).av (.int 1) = λh=>Out.ok (.int a) h:=by funext h; rfl
 have e3 : fIx (Pc.fork a b).av (.int 2) = λh=>Out.ok (.int b) h:=by funext h; rfl
 have l1 : p + 1 < h.length:=by lia
 have l2 : p + 2 < h.length:=by lia
 have l3 : p + 3 < h.length:=by lia
 have l4 : p + 4 < h.length:=by lia
 have l5 : p + 5 < h.length:=by lia
 have l6 : p + 6 < h.length:=by lia
 have l7 : p + 7 < h.length:=by lia
 have fx : ∀ (n : Nat) (g : Ms -> AV) (h' : AH),h'[n]? = some (.lst ((meas ps).map g)) -> fIx (.ref n) (.int a) h' = .ok (g ma) h' /\ fIx (.ref n) (.int b) h' = .ok (g mb) h' := λn g h' e=>by
  simp [fIx,e,zaD ha,zaD hb]
 have f3:=λ(h' : AH) (e : h'[p + 3]? = some (.lst ((meas ps).map λm=>.int m.sg)))=>fx _ _ h' e
 have f4:=λ(h' : AH) (e : h'[p + 4]? = some (.lst ((meas ps).map λm=>.int m.en)))=>fx _ _ h' e
 have f5:=λ(h' : AH) (e : h'[p + 5]? = some (.lst ((meas ps).map λm=>.int m.lv)))=>fx _ _ h' e
 have f6:=λ(h' : AH) (e : h'[p + 6]? = some (.lst ((meas ps).map λm=>.int m.ht)))=>fx _ _ h' e
 have f7:=λ(h' : AH) (e : h'[p + 7]? = some (.lst ((meas ps).map λm=>.int m.fl)))=>fx _ _ h' e
 have f8:=λ(h' : AH) (e : h'[p + 8]? = some (.lst ((meas ps).map λm=>.int m.ll)))=>fx _ _ h' e
 have hmax : ∀ i j : Int,(if j > i then j else i) = max i j:=λi j=>by split<;>lia
 simp [ybP,e,S.ob,S.h3,S.h4,S.h5,S.h6,S.h7,S.h8,hm,List.getElem?_set,zcp,ycU,ycl,e2,e3,zar,hs,zaD ha,zaD hb,zgp ha,zgp hb,-fIx,-List.getElem?_eq_getElem,-List.getD_eq_getElem?_getD,f3,f4,f5,f6,f7,f8,hmax]
theorem zb2 (S : ShelfAt h p ps) (nd : ps.Nodup) (hx : ybZ x = true) (hl : x.length <= sizeLine) (e : ps[i]? = some (.leaf x)) : yaX [.ref p,.str x] h = .ok (.int ((i + 1 : Nat) : Int)) h:=by
 have t:=zc6 (k:=1) nd e
 have t' : valA (tab ps) (.tup [.str "leaf",.str x]) = some (.int ((i + 1 : Nat) : Int)):=by rw [Nat.add_comm]; exact t
 simp [yaX,zgn x h hl,hx,S.ob,S.h2,t']
theorem zgZ (S : ShelfAt h p ps) (hx : ybZ x = true) (hl : x.length <= sizeLine) (hq : Pc.leaf x ∉ ps) (hz : ps.length < 16000000) : yaX [.ref p,.str x] h = .ok (.int ((ps.length + 1 : Nat) : Int)) (ycl h p (ps++[.leaf x])):=by
 have t : valA (tab ps) (.tup [.str "leaf",.str x]) = none:=zbZ (q:=.leaf x) (k:=1) hq
 have S2:=zb0 (ps' := ps++[.leaf x]) S
 have e:=zhO S hq hz
 have t2 : valA (tab (ps++[.leaf x])) (.tup [.str "leaf",.str x]) = some (.int ((ps.length + 1 : Nat) : Int)):=by
  unfold tab
  rw [za2]
  unfold valA at t ⊢
  rw [List.find?_append]
  have t3 : (ybz 1 ps).find? (λp=>decide (p.1 = .tup [.str "leaf",.str x])) = none:=by simpa [tab] using t
  rw [t3]
  simp [Pc.av,Nat.add_comm]
 have e' : ybQ [.ref p,.tup [.str "leaf",.str x]] h = .ok .non (ycl h p (ps++[.leaf x])):=e
 simp [yaX,zgn x h hl,hx,S.ob,S.h2,t,e',S2.ob,S2.h2,t2]
theorem zhQ (S : ShelfAt h p ps) (ha : (meas ps)[a]? = some ma) (hb : (meas ps)[b]? = some mb) (pa : 1 <= a) (pb : 1 <= b) (hla : (meas ps)[ma.ll]? = some la) (hfb : (meas ps)[mb.fl]? = some fb) (d1 : ¬ la.sg + fb.sg <= 8) (d2 : ¬ 1 < (ma.ht - mb.ht).natAbs) (d3 : ¬ 1000000000000000000 < ma.sg + mb.sg) :
  ybB [.ref p,.int a,.int b] h = .ok .non h:=by
 have la_:=(List.getElem?_eq_some_iff.mp ha).1
 have lb_:=(List.getElem?_eq_some_iff.mp hb).1
 rw [zar] at la_ lb_
 have c1:=zb1 S (i:=(a : Int)) ⟨by lia,by lia⟩
 have c2:=zb1 S (i:=(b : Int)) ⟨by lia,by lia⟩
 have d1' : ¬ ((la.sg : Int) + fb.sg) <= 8:=by lia
 have d2' : ¬ (1 : Int) < (if ma.ht - mb.ht < 0 then -(ma.ht - mb.ht) else ma.ht - mb.ht):=by split<;>lia
 have d3' : ¬ (1000000000000000000 : Int) < (ma.sg : Int) + mb.sg:=by lia
 simp [ybB,c1,c2,S.ob,S.h3,S.h5,S.h6,S.h7,S.h8,zaD ha,zaD hb,zaD hla,zaD hfb,d1',d2',d3',-Int.neg_sub]
structure ForkOk (ps : List Pc) (a b : Nat) : Prop where
 pa : 1 <= a
 pb : 1 <= b
 ex : ∃ ma mb la fb,(meas ps)[a]? = some ma /\ (meas ps)[b]? = some mb /\ (meas ps)[ma.ll]? = some la /\ (meas ps)[mb.fl]? = some fb /\ 8 < la.sg + fb.sg /\ (ma.ht - mb.ht).natAbs <= 1 /\ ma.sg + mb.sg <= 1000000000000000000
theorem zcV (S : ShelfAt h p ps) (F : ForkOk ps a b) : ybB [.ref p,.int a,.int b] h = .ok .non h:=by
 obtain ⟨ma,mb,la,fb,h1,h2,h3,h4,h5,h6,h7⟩:=F.ex
 exact zhQ S h1 h2 F.pa F.pb h3 h4 (by lia) (by lia) (by lia)
theorem zb3 (S : ShelfAt h p ps) (nd : ps.Nodup) (F : ForkOk ps a b) (e : ps[i]? = some (.fork a b)) : yaf [.ref p,.int a,.int b] h = .ok (.int ((i + 1 : Nat) : Int)) h:=by
 have t:=zc6 (k:=1) nd e
 have t' : valA (tab ps) (.tup [.str "fork",.int a,.int b]) = some (.int ((i + 1 : Nat) : Int)):=by rw [Nat.add_comm]; exact t
 simp [yaf,zcV S F,S.ob,S.h2,t']
theorem zg0 (S : ShelfAt h p ps) (F : ForkOk ps a b) (hq : Pc.fork a b ∉ ps) (hz : ps.length < 16000000) : yaf [.ref p,.int a,.int b] h = .ok (.int ((ps.length + 1 : Nat) : Int)) (ycl h p (ps++[.fork a b])):=by
 have t : valA (tab ps) (.tup [.str "fork",.int a,.int b]) = none:=zbZ (q:=.fork a b) (k:=1) hq
 have S2:=zb0 (ps' := ps++[.fork a b]) S
 obtain ⟨ma,mb,la,fb,h1,h2,_⟩:=F.ex
 have e:=zhP S hq hz h1 h2
 have t2 : valA (tab (ps++[.fork a b])) (.tup [.str "fork",.int a,.int b]) = some (.int ((ps.length + 1 : Nat) : Int)):=by
  unfold tab
  rw [za2]
  unfold valA at t ⊢
  rw [List.find?_append]
  have t3 : (ybz 1 ps).find? (λp=>decide (p.1 = .tup [.str "fork",.int a,.int b])) = none:=by simpa [tab] using t
  rw [t3]
  simp [Pc.av,Nat.add_comm]
 have e' : ybP [.ref p,.tup [.str "fork",.int a,.int b]] h = .ok .non (ycl h p (ps++[.fork a b])):=e
 simp [yaf,zcV S F,S.ob,S.h2,t,e',S2.ob,S2.h2,t2]
def yeh (n : Nat) : List AO:=[.ins 0 [some (.ref (n + 1)),some (.ref (n + 2)),some (.ref (n + 3)),some (.ref (n + 4)),some (.ref (n + 5)),some (.ref (n + 6)),some (.ref (n + 7)),some (.ref (n + 8))],.lst [],.dct true [],.lst [.int 0],.lst [.int 0],.lst [.int 0],.lst [.int (-1)],.lst [.int 0],.lst [.int 0]]
theorem zj1 {o o':AO} {r:AH} : (h++o :: r).set h.length o' = h++o' :: r:=by
 induction h with
 | nil=>rfl
 | cons x t ih=>simp [ih]
theorem yfZ {r:AH} {k:Nat} : (h++r)[h.length + k]? = r[k]? := by
 rw [List.getElem?_append_right (by lia)]; simp
theorem yhB (h r : AH) : ShelfAt (h++(yeh h.length++r)) h.length []:=by
 refine ⟨?_,?_,?_,?_,?_,?_,?_,?_,?_⟩
 ·rw [show h.length = h.length + 0 from rfl,yfZ]; rfl
 all_goals (rw [yfZ]; rfl)
theorem zgq (x : Str) (c i : Nat) (hi : i < x.length) : Builtin.Str.subAt x ⟨#[c]⟩ i = decide (x.cps.toList[i]? = some c):=by
 have hi' : i < x.cps.size:=hi
 unfold Builtin.Str.subAt
 have e : x.cps.extract i (i + 1) = #[x.cps[i]]:=by
  apply Array.ext
  ·simp; lia
  ·intro j h1 h2
   have : j = 0:=by simp at h2; lia
   subst this
   simp
 show (x.cps.extract i (i + 1) == #[c]) = _
 rw [e]
 have : x.cps.toList[i]? = some x.cps[i]:=by simp [hi']
 rw [this]
 by_cases q : x.cps[i] = c
 ·simp [q]
 ·simp [q]
theorem yeV (x : Str) (c : Nat) : ∀ (n i : Nat) (st : Array Nat × Nat),i + n = x.length + 1 -> st.2 <= i -> st.1.size <= i -> (forIn (List.range' i n) st (StrLaws.occBody x ⟨#[c]⟩ x.length (x.length + 1))).run.fst.size = st.1.size + (x.cps.toList.drop i).count c
 | 0,i,st,hn,_,_=>by
  rw [List.drop_of_length_le (by simp; simp only [Str.length] at hn; lia)]
  simp
 | n + 1,i,st,hn,h2,h3=>by
  rw [List.range'_succ,List.forIn_cons]
  unfold StrLaws.occBody
  by_cases hi : i < x.length
  ·have hi' : i < x.cps.size:=hi
   have hd : x.cps.toList.drop i = x.cps[i]'hi' :: x.cps.toList.drop (i + 1):=by
    rw [List.drop_eq_getElem_cons (show i < x.cps.toList.length by simpa using hi')]; simp
   have hg : x.cps.toList[i]? = some (x.cps[i]'hi'):=by
    simp [hi']
   by_cases q : x.cps[i]'hi' = c
   ·have hs : Builtin.Str.subAt x ⟨#[c]⟩ i = true:=by rw [zgq x c i hi,hg,q]; simp
    rw [if_pos ⟨⟨⟨by lia,h2⟩,hi⟩,hs⟩]
    show (forIn (List.range' (i + 1) n) (st.1.push i,i + 1) (StrLaws.occBody x ⟨#[c]⟩ x.length (x.length + 1))).run.fst.size = _
    rw [yeV x c n (i + 1) _ (by lia) (Nat.le_refl _) (by simp; lia),hd,q]
    simp; lia
   ·have hs : Builtin.Str.subAt x ⟨#[c]⟩ i = false:=by rw [zgq x c i hi,hg]; simp [q]
    rw [if_neg (by simp [hs])]
    show (forIn (List.range' (i + 1) n) (st.1,st.2) (StrLaws.occBody x ⟨#[c]⟩ x.length (x.length + 1))).run.fst.size = _
    rw [yeV x c n (i + 1) _ (by lia) (by show st.2 <= i + 1; lia) (by show st.1.size <= i + 1; lia),hd]
    simp [q]
  ·rw [if_neg (by rintro ⟨⟨_,z⟩,_⟩; exact hi z)]
   show (forIn (List.range' (i + 1) n) (st.1,st.2) (StrLaws.occBody x ⟨#[c]⟩ x.length (x.length + 1))).run.fst.size = _
   rw [yeV x c n (i + 1) _ (by lia) (by show st.2 <= i + 1; lia) (by show st.1.size <= i + 1; lia)]
   rw [List.drop_of_length_le (by simp; simp only [Str.length] at hi; lia),List.drop_of_length_le (by simp; simp only [Str.length] at hi; lia)]
theorem zhR (x : Str) (c : Nat) : (Builtin.Str.occurrences x ⟨#[c]⟩ 0 x.length (x.length + 1)).length = x.cps.toList.count c:=by
 rw [StrLaws.occ_eq,Array.length_toList]
 rw [show x.length + 1 - 0 = x.length + 1 from rfl,yeV x c (x.length + 1) 0 _ (by lia) (Nat.le_refl _) (by simp)]
 simp
theorem zb4 (x : Str) : ydr x = x.cps.toList.count 10:=zhR x 10
theorem zax (x y : Str) : (x++y).cps.toList = x.cps.toList++y.cps.toList:=by
 show (x.cps++y.cps).toList = _
 simp
theorem ziQ (x y : Str) : ydr (x++y) = ydr x + ydr y:=by
 rw [zb4,zb4,zb4,zax,List.count_append]
theorem zaC (x : Str) : x.length = x.cps.toList.length:=by simp [Str.length]
theorem zaj (x y : Str) : (x++y).length = x.length + y.length:=by
 rw [zaC,zaC,zaC,zax,List.length_append]
def yei (rs : List Str) : Pc -> Str
 | .leaf x=>x
 | .fork a b=>rs.getD a "" ++ rs.getD b ""
def reads (ps : List Pc) : List Str:=ps.foldl (λrs q=>rs++[yei rs q]) [""]
theorem zg1 (ps : List Pc) (q : Pc) : reads (ps++[q]) = reads ps++[yei (reads ps) q]:=by simp [reads]
theorem zbs {α β : Type} (g : List β -> α -> β) : ∀ (qs : List α) (ms : List β),∃ r,qs.foldl (λms q=>ms++[g ms q]) ms = ms++r /\ r.length = qs.length
 | [],ms=>⟨[],by simp,rfl⟩
 | q :: qs,ms=>by
  obtain ⟨r,e,l⟩:=zbs g qs (ms++[g ms q])
  exact ⟨g ms q :: r,by rw [List.foldl_cons,e]; simp,by simp [l]⟩
theorem zbx (ps : List Pc) : (reads ps).length = ps.length + 1:=by
 obtain ⟨r,e,l⟩:=zbs yei ps [""]
 rw [reads,e]; simp [l,Nat.add_comm]
theorem ziR (ps qs : List Pc) : ∃ r,meas (ps++qs) = meas ps++r:=by
 unfold meas
 rw [List.foldl_append]
 obtain ⟨r,e,_⟩:=zbs ycU qs (ps.foldl (λms q=>ms++[ycU ms q]) [ms0])
 exact ⟨r,e⟩
theorem zhS (ps qs : List Pc) : ∃ r,reads (ps++qs) = reads ps++r:=by
 unfold reads
 rw [List.foldl_append]
 obtain ⟨r,e,_⟩:=zbs yei qs (ps.foldl (λms q=>ms++[yei ms q]) [""])
 exact ⟨r,e⟩
theorem zac (h : ps <+: ps') {m:Ms} (e : (meas ps)[n]? = some m) : (meas ps')[n]? = some m:=by
 obtain ⟨qs,rfl⟩:=h
 obtain ⟨r,q⟩:=ziR ps qs
 rw [q,List.getElem?_append_left (List.getElem?_eq_some_iff.mp e).1]; exact e
theorem zby (h : ps <+: ps') {m:Str} (e : (reads ps)[n]? = some m) : (reads ps')[n]? = some m:=by
 obtain ⟨qs,rfl⟩:=h
 obtain ⟨r,q⟩:=zhS ps qs
 rw [q,List.getElem?_append_left (List.getElem?_eq_some_iff.mp e).1]; exact e
theorem zb5 (ps : List Pc) (i : Nat) : ps.take i <+: ps:=List.take_prefix i ps
theorem zc7 (e : ps[i]? = some q) : (ps.take i++[q]) <+: ps /\ (ps.take i).length = i:=by
 have hi:=(List.getElem?_eq_some_iff.mp e).1
 have : ps.take (i + 1) = ps.take i++[q]:=by
  rw [List.take_succ,e]; rfl
 exact ⟨this ▸ List.take_prefix _ _,by simp; lia⟩
theorem zgr (e : ps[i]? = some q) : (meas ps)[i + 1]? = some (ycU (meas (ps.take i)) q):=by
 obtain ⟨h,l⟩:=zc7 e
 refine zac h ?_
 rw [zcp,List.getElem?_append_right (by rw [zar,l]; lia),zar,l]
 simp
theorem zfg (e : ps[i]? = some q) : (reads ps)[i + 1]? = some (yei (reads (ps.take i)) q):=by
 obtain ⟨h,l⟩:=zc7 e
 refine zby h ?_
 rw [zg1,List.getElem?_append_right (by rw [zbx,l]; lia),zbx,l]
 simp
def PcOk (ps : List Pc) : Pc -> Prop
 | .leaf x=>ybZ x = true
 | .fork a b=>ForkOk ps a b
inductive Good : List Pc -> Prop
 | nil : Good []
 | snoc {ps : List Pc} {q : Pc} : Good ps -> q ∉ ps -> PcOk ps q -> Good (ps++[q])
theorem Good.nodup (g : Good ps) : ps.Nodup:=by
 induction g with
 | nil=>exact List.nodup_nil
 | snoc g n ok ih=>exact List.nodup_append.mpr ⟨ih,by simp,λa ha b hb=>by simp at hb; subst hb; exact λe=>n (e ▸ ha)⟩
theorem Good.get (g : Good ps) : ∀ {i : Nat} {q : Pc},ps[i]? = some q -> PcOk (ps.take i) q:=by
 induction g with
 | nil=>intro i q e; simp at e
 | @snoc ps q' g n ok ih =>
  intro i q e
  by_cases hi : i < ps.length
  ·rw [List.getElem?_append_left hi] at e
   rw [List.take_append_of_le_length (by lia)]
   exact ih e
  ·have hi2 : i = ps.length:=by
    have:=(List.getElem?_eq_some_iff.mp e).1
    simp at this; lia
   subst hi2
   simp at e
   subst e
   simpa using ok
theorem ForkOk.pre (F : ForkOk ps a b) (h : ps <+: ps') : ForkOk ps' a b:=by
 obtain ⟨ma,mb,la,fb,h1,h2,h3,h4,h5⟩:=F.ex
 exact ⟨F.pa,F.pb,ma,mb,la,fb,zac h h1,zac h h2,zac h h3,zac h h4,h5⟩
structure Ky (ps : List Pc) (m : Ms) (x : Str) (f l : Ms) : Prop where
 fl : (meas ps)[m.fl]? = some f
 ll : (meas ps)[m.ll]? = some l
 sg : m.sg = x.length
 en : m.en = ydr x
 f1 : 1 <= f.sg
 f8 : f.sg <= 8
 l1 : 1 <= l.sg
 l8 : l.sg <= 8
 lv : 1 <= m.lv
 ht : 0 <= m.ht
 most : m.sg <= 1000000000000000000
 cnt : ∃ k,(m.lv = 2 * k + 1 /\ 9 * k + f.sg <= m.sg /\ 9 * k + l.sg <= m.sg) \/ (m.lv = 2 * k + 2 /\ 9 * k + 9 <= m.sg /\ 9 * k + f.sg + l.sg <= m.sg)
 pl : yaA x = true
structure Tx (ps : List Pc) (n : Nat) (m : Ms) (x : Str) (f l : Ms) : Prop where
 n1 : 1 <= n
 ms : (meas ps)[n]? = some m
 rd : (reads ps)[n]? = some x
 ky : Ky ps m x f l
theorem Ky.pre {m:Ms} (k : Ky ps m x f l) (h : ps <+: ps') : Ky ps' m x f l :=
 { k with fl:=zac h k.fl,ll:=zac h k.ll }
theorem Tx.pre {ps ps' : List Pc} {n : Nat} {m : Ms} {x : Str} {f l : Ms} (k : Tx ps n m x f l) (h : ps <+: ps') : Tx ps' n m x f l :=
 ⟨k.n1,zac h k.ms,zby h k.rd,k.ky.pre h⟩
theorem Tx.le {m:Ms} (k : Tx ps n m x f l) : n <= ps.length:=by
 have:=(List.getElem?_eq_some_iff.mp k.ms).1
 rw [zar] at this; lia
def ydA (ma mb : Ms) : Ms:=⟨ma.sg + mb.sg,ma.en + mb.en,ma.lv + mb.lv,max ma.ht mb.ht + 1,ma.fl,mb.ll⟩
theorem zaI (x y : Str) : yaA (x++y) = (yaA x && yaA y):=by unfold yaA; rw [zax,List.all_append]
theorem kf1 {n' s s' f l f' l':Nat} (a : ∃ k,(n = 2 * k + 1 /\ 9 * k + f <= s /\ 9 * k + l <= s) \/ (n = 2 * k + 2 /\ 9 * k + 9 <= s /\ 9 * k + f + l <= s)) (b : ∃ k,(n' = 2 * k + 1 /\ 9 * k + f' <= s' /\ 9 * k + l' <= s') \/ (n' = 2 * k + 2 /\ 9 * k + 9 <= s' /\ 9 * k + f' + l' <= s')) (hs : 8 < l + f') :
  ∃ k,(n + n' = 2 * k + 1 /\ 9 * k + f <= s + s' /\ 9 * k + l' <= s + s') \/ (n + n' = 2 * k + 2 /\ 9 * k + 9 <= s + s' /\ 9 * k + f + l' <= s + s'):=by
 obtain ⟨k,⟨rfl,a1,a2⟩ | ⟨rfl,a1,a2⟩⟩:=a<;>obtain ⟨k',⟨rfl,b1,b2⟩ | ⟨rfl,b1,b2⟩⟩:=b
 ·exact ⟨k + k',.inr ⟨by lia,by lia,by lia⟩⟩
 ·exact ⟨k + k' + 1,.inl ⟨by lia,by lia,by lia⟩⟩
 ·exact ⟨k + k' + 1,.inl ⟨by lia,by lia,by lia⟩⟩
 ·exact ⟨k + k' + 1,.inr ⟨by lia,by lia,by lia⟩⟩
theorem Ky.fork (A : Ky ps ma x fa la) (B : Ky ps mb y fb lb) (hs : 8 < la.sg + fb.sg) (hm : ma.sg + mb.sg <= 1000000000000000000) : Ky ps (ydA ma mb) (x++y) fa lb:=by
 have k:=kf1 A.cnt B.cnt hs
 refine ⟨A.fl,B.ll,?_,?_,A.f1,A.f8,B.l1,B.l8,Nat.le_trans A.lv (Nat.le_add_right _ _),?_,hm,k,?_⟩
 ·show ma.sg + mb.sg = _; rw [zaj,A.sg,B.sg]
 ·show ma.en + mb.en = _; rw [ziQ,A.en,B.en]
 ·have a4:=A.ht
  show 0 <= max ma.ht mb.ht + 1
  clear k hs hm; lia
 ·rw [zaI,A.pl,B.pl]; rfl
theorem zcq (h : ybZ x = true) : 1 <= x.length /\ x.length <= 8 /\ yaA x = true:=by
 simp [ybZ] at h; exact ⟨h.2.1,h.2.2,h.1⟩
theorem zbf {l:List α} {d x:α} (e : l[i]? = some x) : l.getD i d = x:=by simp [List.getD,e]
def lfMs (x : Str) (n : Nat) : Ms:=⟨x.length,ydr x,1,0,n,n⟩
theorem zbM (g : Good ps) (e : ps[i]? = some (.leaf x)) : Tx ps (i + 1) (lfMs x (i + 1)) x (lfMs x (i + 1)) (lfMs x (i + 1)):=by
 have hi:=(List.getElem?_eq_some_iff.mp e).1
 have ok : ybZ x = true:=g.get e
 obtain ⟨s1,s2,s3⟩:=zcq ok
 have li : (ps.take i).length = i:=by simp; lia
 have ml : (meas (ps.take i)).length = i + 1:=by rw [zar,li]
 have e1' : (meas ps)[i + 1]? = some (lfMs x (i + 1)):=by rw [zgr e]; simp only [ycU,lfMs]; rw [ml]
 exact ⟨by lia,e1',zfg e,⟨e1',e1',rfl,rfl,s1,s2,s1,s2,Nat.le_refl 1,Int.le_refl 0,by show x.length <= _; lia,⟨0,.inl ⟨rfl,Nat.le_of_eq (Nat.zero_add _),Nat.le_of_eq (Nat.zero_add _)⟩⟩,s3⟩⟩
theorem zbN (g : Good ps) (e : ps[i]? = some (.fork a b)) (A : Tx ps a ma x fa la) (B : Tx ps b mb y fb lb) : Tx ps (i + 1) (ydA ma mb) (x++y) fa lb:=by
 have hi:=(List.getElem?_eq_some_iff.mp e).1
 have ok' : ForkOk (ps.take i) a b:=g.get e
 have li : (ps.take i).length = i:=by simp; lia
 have tp:=zb5 ps i
 obtain ⟨ma',mb',la',fb',q1,q2,q3,q4,q5,q6,q7⟩:=ok'.ex
 have ba:=(List.getElem?_eq_some_iff.mp q1).1
 have bb:=(List.getElem?_eq_some_iff.mp q2).1
 rw [zar,li] at ba bb
 have z1:=A.ms.symm.trans (zac tp q1); cases z1
 have z2:=B.ms.symm.trans (zac tp q2); cases z2
 have z3:=A.ky.ll.symm.trans (zac tp q3); cases z3
 have z4:=B.ky.fl.symm.trans (zac tp q4); cases z4
 have r1 : (reads (ps.take i))[a]? = some x:=by
  obtain ⟨w,ew⟩ : ∃ w,(reads (ps.take i))[a]? = some w:=⟨(reads (ps.take i))[a]'(by rw [zbx,li]; lia),by simp⟩
  have:=(zby tp ew).symm.trans A.rd; cases this; exact ew
 have r2 : (reads (ps.take i))[b]? = some y:=by
  obtain ⟨w,ew⟩ : ∃ w,(reads (ps.take i))[b]? = some w:=⟨(reads (ps.take i))[b]'(by rw [zbx,li]; lia),by simp⟩
  have:=(zby tp ew).symm.trans B.rd; cases this; exact ew
 refine ⟨by lia,?_,?_,A.ky.fork B.ky q5 q7⟩
 ·rw [zgr e]; simp only [ycU,zbf q1,zbf q2]; rfl
 ·rw [zfg e]; simp only [yei,zbf r1,zbf r2]
theorem Good.tx (g : Good ps) : ∀ n,1 <= n -> n <= ps.length -> ∃ m x f l,Tx ps n m x f l:=by
 intro n
 induction n using Nat.strongRecOn with
 | ind n ih =>
  intro h1 h2
  obtain ⟨i,rfl⟩ : ∃ i,n = i + 1:=⟨n - 1,(Nat.sub_add_cancel h1).symm⟩
  obtain ⟨q,eq⟩ : ∃ q,ps[i]? = some q:=⟨ps[i],by simp⟩
  have ok:=g.get eq
  have li : (ps.take i).length = i:=(zc7 eq).2
  cases q with
  | leaf x=>exact ⟨_,_,_,_,zbM g eq⟩
  | fork a b =>
   have ok' : ForkOk (ps.take i) a b:=ok
   obtain ⟨ma,mb,la,fb,q1,q2,_⟩:=ok'.ex
   have ba:=(List.getElem?_eq_some_iff.mp q1).1
   have bb:=(List.getElem?_eq_some_iff.mp q2).1
   rw [zar,li] at ba bb
   obtain ⟨_,_,_,_,A⟩:=ih a ba ok'.pa (Nat.le_trans (Nat.le_of_lt ba) h2)
   obtain ⟨_,_,_,_,B⟩:=ih b bb ok'.pb (Nat.le_trans (Nat.le_of_lt bb) h2)
   exact ⟨_,_,_,_,zbN g eq A B⟩
structure Dd (p : Nat) (h h' : AH) (ps ps' : List Pc) (k : Nat) : Prop where
 sh : ShelfAt h' p ps'
 gd : Good ps'
 pre : ps <+: ps'
 len : ps'.length <= ps.length + k
 fr : ∀ i,i <= p \/ p + 8 < i -> h'[i]? = h[i]?
 hl : h'.length = h.length
theorem ShelfAt.keep (S : ShelfAt h p ps) (e : ∀ i,p <= i -> i <= p + 8 -> h'[i]? = h[i]?) : ShelfAt h' p ps:=by
 have k : ∀ j,j <= 8 -> h'[p + j]? = h[p + j]? := λj hj=>e _ (Nat.le_add_right p j) (Nat.add_le_add_left hj p)
 exact ⟨(k 0 (by decide)).trans S.ob,(k 1 (by decide)).trans S.h1,(k 2 (by decide)).trans S.h2,(k 3 (by decide)).trans S.h3,(k 4 (by decide)).trans S.h4,(k 5 (by decide)).trans S.h5,(k 6 (by decide)).trans S.h6,(k 7 (by decide)).trans S.h7,(k 8 (by decide)).trans S.h8⟩
theorem ShelfAt.app (S : ShelfAt h p ps) (r : AH) : ShelfAt (h++r) p ps:=by
 have:=yb0 S.h8
 exact S.keep λi _ b=>List.getElem?_append_left (Nat.lt_of_le_of_lt b this)
theorem zb6 (S : ShelfAt h p ps) (hi : i <= ps.length) : ya5 [.ref p,.int i] h = .ok .non h:=by
 by_cases z : i = 0
 ·subst z; simp [ya5]
 ·have c:=zb1 S (i:=(i : Int)) ⟨by lia,by lia⟩
  simp [ya5,z,S.ob,c]
theorem zal {m:Ms} (S : ShelfAt h p ps) (e : (meas ps)[i]? = some m) : yaB [.ref p,.int i] h = .ok (.int m.sg) h:=by
 have hi:=(List.getElem?_eq_some_iff.mp e).1
 rw [zar] at hi
 simp [yaB,zb6 S (show i <= ps.length by lia),S.ob,S.h3,zaD e]
theorem zad {m:Ms} (S : ShelfAt h p ps) (e : (meas ps)[i]? = some m) : yaQ [.ref p,.int i] h = .ok (.int m.ht) h:=by
 have hi:=(List.getElem?_eq_some_iff.mp e).1
 rw [zar] at hi
 simp [yaQ,zb6 S (show i <= ps.length by lia),S.ob,S.h6,zaD e]
theorem zgs {m:Ms} (S : ShelfAt h p ps) (e : (meas ps)[i]? = some m) : ybC [.ref p,.int i] h = .ok (.int m.fl) h:=by
 have hi:=(List.getElem?_eq_some_iff.mp e).1
 rw [zar] at hi
 simp [ybC,zb6 S (show i <= ps.length by lia),S.ob,S.h7,zaD e]
theorem yf0 {m:Ms} (S : ShelfAt h p ps) (e : (meas ps)[i]? = some m) : ybH [.ref p,.int i] h = .ok (.int m.ll) h:=by
 have hi:=(List.getElem?_eq_some_iff.mp e).1
 rw [zar] at hi
 simp [ybH,zb6 S (show i <= ps.length by lia),S.ob,S.h8,zaD e]
def lp : Nat -> Nat × Nat
 | 0=>(1,2)
 | n + 1=>((lp n).2,(lp n).1 + (lp n).2)
def ll (n : Nat) : Nat:=(lp n).1
def ls (n : Nat) : Nat:=9 * (ll n / 2) + ll n % 2
theorem ll_2 (n : Nat) : ll (n + 2) = ll n + ll (n + 1):=rfl
theorem zfh : ∀ n,ll n <= ll (n + 1)
 | 0=>by decide
 | n + 1=>by rw [show n + 1 + 1 = n + 2 from rfl,ll_2]; lia
theorem zj2 (h : a <= b) : ll a <= ll b:=by
 induction h with
 | refl=>exact Nat.le_refl _
 | step h ih=>exact Nat.le_trans ih (zfh _)
theorem zj3 (h : a <= b) : ls a <= ls b:=by
 have:=zj2 h
 unfold ls; lia
theorem yhC (h1 : i <= j + 1) (h2 : j <= i + 1) (u1 : ll i <= a) (u2 : ll j <= b) : ll (max i j + 1) <= a + b:=by
 rcases Nat.lt_trichotomy i j with c | c | c
 ·have e' : j = i + 1:=Nat.le_antisymm h2 c
  subst e'
  rw [Nat.max_eq_right (Nat.le_succ i),ll_2]; exact Nat.add_le_add u1 u2
 ·subst c
  rw [Nat.max_self]
  refine Nat.le_trans ?_ (Nat.add_le_add u1 u2)
  cases i with
  | zero=>exact Nat.le_refl 2
  | succ k=>rw [show k + 1 + 1 = k + 2 from rfl,ll_2]; exact Nat.add_le_add_right (zfh k) _
 ·have e' : i = j + 1:=Nat.le_antisymm h1 c
  subst e'
  rw [Nat.max_eq_left (Nat.le_succ j),ll_2,Nat.add_comm]; exact Nat.add_le_add u1 u2
theorem yhD {x y:Int} (hx : 0 <= x) (hy : 0 <= y) (q : (x - y).natAbs <= 1) (u1 : ll x.toNat <= a) (u2 : ll y.toNat <= b) : ll (max x y + 1).toNat <= a + b:=by
 obtain ⟨i,rfl⟩:=Int.eq_ofNat_of_zero_le hx
 obtain ⟨j,rfl⟩:=Int.eq_ofNat_of_zero_le hy
 have e : (max (i : Int) j + 1).toNat = max i j + 1:=by clear u1 u2 q; lia
 rw [e]
 exact yhC (by clear u1 u2 e; lia) (by clear u1 u2 e; lia) u1 u2
theorem Good.lv {ps : List Pc} (g : Good ps) : ∀ n m x f l,Tx ps n m x f l -> ll m.ht.toNat <= m.lv:=by
 intro n
 induction n using Nat.strongRecOn with
 | ind n ih =>
  intro m x f l T
  have hn:=T.n1
  have hle:=T.le
  obtain ⟨i,rfl⟩ : ∃ i,n = i + 1:=⟨n - 1,by lia⟩
  obtain ⟨q,eq⟩ : ∃ q,ps[i]? = some q:=⟨ps[i],by simp⟩
  cases q with
  | leaf y =>
   have z:=(zbM g eq).ms.symm.trans T.ms; cases z
   exact Nat.le_refl 1
  | fork a b =>
   have ok' : ForkOk (ps.take i) a b:=g.get eq
   have li : (ps.take i).length = i:=by simp; lia
   obtain ⟨ma,mb,la,fb,q1,q2,q3,q4,q5,q6,q7⟩:=ok'.ex
   have ba:=(List.getElem?_eq_some_iff.mp q1).1
   have bb:=(List.getElem?_eq_some_iff.mp q2).1
   rw [zar,li] at ba bb
   obtain ⟨ma',x1,fa,la',A⟩:=g.tx a ok'.pa (by lia)
   obtain ⟨mb',y1,fb',lb,B⟩:=g.tx b ok'.pb (by lia)
   have tp:=zb5 ps i
   have z1:=A.ms.symm.trans (zac tp q1); cases z1
   have z2:=B.ms.symm.trans (zac tp q2); cases z2
   have u1:=ih a (by lia) _ _ _ _ A
   have u2:=ih b (by lia) _ _ _ _ B
   have z:=(zbN g eq A B).ms.symm.trans T.ms; cases z
   exact yhD A.ky.ht B.ky.ht q6 u1 u2
theorem Tx.ls {ps : List Pc} (g : Good ps) {n : Nat} {m : Ms} {x : Str} {f l : Ms} (T : Tx ps n m x f l) : Sk.ls m.ht.toNat <= m.sg:=by
 have u:=g.lv _ _ _ _ _ T
 have f1:=T.ky.f1
 unfold Sk.ls
 obtain ⟨k,⟨e,a,_⟩ | ⟨e,a,_⟩⟩:=T.ky.cnt
 ·rw [e] at u; generalize ll m.ht.toNat = q at *; clear e; lia
 ·rw [e] at u; generalize ll m.ht.toNat = q at *; clear e; lia
theorem Good.kind (g : Good ps) {m:Ms} (T : Tx ps n m x f l) :
  (ps[n - 1]? = some (.leaf x) /\ m.ht = 0 /\ m = lfMs x n /\ 1 <= x.length /\ x.length <= 8) \/ ∃ a b ma mb y z fa la fb lb,ps[n - 1]? = some (.fork a b) /\ a < n /\ b < n /\ Tx ps a ma y fa la /\ Tx ps b mb z fb lb /\ x = y++z /\ m = ydA ma mb /\ (ma.ht - mb.ht).natAbs <= 1:=by
 have hn:=T.n1
 have hle:=T.le
 obtain ⟨i,rfl⟩ : ∃ i,n = i + 1:=⟨n - 1,by lia⟩
 obtain ⟨q,eq⟩ : ∃ q,ps[i]? = some q:=⟨ps[i],by simp⟩
 cases q with
 | leaf y =>
  have L:=zbM g eq
  have z:=L.ms.symm.trans T.ms; cases z
  have z2:=L.rd.symm.trans T.rd; cases z2
  have ok : ybZ x = true:=g.get eq
  obtain ⟨s1,s2,s3⟩:=zcq ok
  exact .inl ⟨eq,rfl,rfl,s1,s2⟩
 | fork a b =>
  have ok' : ForkOk (ps.take i) a b:=g.get eq
  have li : (ps.take i).length = i:=by simp; lia
  obtain ⟨ma,mb,la,fb,q1,q2,q3,q4,q5,q6,q7⟩:=ok'.ex
  have ba:=(List.getElem?_eq_some_iff.mp q1).1
  have bb:=(List.getElem?_eq_some_iff.mp q2).1
  rw [zar,li] at ba bb
  obtain ⟨ma',y,fa,la',A⟩:=g.tx a ok'.pa (by lia)
  obtain ⟨mb',z,fb',lb,B⟩:=g.tx b ok'.pb (by lia)
  have tp:=zb5 ps i
  have z1:=A.ms.symm.trans (zac tp q1); cases z1
  have z2:=B.ms.symm.trans (zac tp q2); cases z2
  have F:=zbN g eq A B
  have z3:=F.ms.symm.trans T.ms; cases z3
  have z4:=F.rd.symm.trans T.rd; cases z4
  exact .inr ⟨a,b,ma,mb,y,z,fa,la',fb',lb,eq,by lia,by lia,A,B,rfl,rfl,q6⟩
theorem zfi (S : ShelfAt h p ps) (n1 : 1 <= n) (e : ps[n - 1]? = some q) : yaH [.ref p,.int n] h = .ok q.av h:=by
 have:=zj0 S e
 rw [show ((n - 1 : Nat) : Int) + 1 = (n : Int) by lia] at this
 exact this
theorem zas (e : x.cps.toList = y.cps.toList) : x = y:=by
 cases x; cases y
 simpa using e
theorem zah (x y z : Str) : (x++y)++z = x++(y++z):=zas (by simp only [zax,List.append_assoc])
theorem ls83 : 1000000000000000000 < ls 83:=by decide +kernel
theorem ht82 (g : Good ps) {m:Ms} (T : Tx ps n m x f l) : m.ht <= 82:=by
 have h1:=T.ls g
 have h2:=T.ky.most
 have h3:=T.ky.ht
 apply Classical.byContradiction
 intro h4
 have:=zj3 (show 83 <= m.ht.toNat by lia)
 have:=ls83
 lia
theorem Good.cut (g : Good ps) {m:Ms} (T : Tx ps n m x f l) (hh : 0 < m.ht) :
  ∃ a b ma mb y z la fb,ps[n - 1]? = some (.fork a b) /\ Tx ps a ma y f la /\ Tx ps b mb z fb l /\ x = y++z /\ m = ydA ma mb /\ -1 <= ma.ht - mb.ht /\ ma.ht - mb.ht <= 1 /\ 8 < la.sg + fb.sg:=by
 rcases g.kind T with ⟨_,e,_⟩ | ⟨a,b,ma,mb,y,z,fa,la,fb,lb,e1,e2,e3,A,B,e4,e5,e6⟩
 ·lia
 ·have ok : ForkOk (ps.take (n - 1)) a b:=g.get e1
  obtain ⟨ma',mb',la',fb',q1,q2,q3,q4,q5,_⟩:=(ok.pre (zb5 ps _)).ex
  have z1:=A.ms.symm.trans q1; cases z1
  have z2:=B.ms.symm.trans q2; cases z2
  have z3:=A.ky.ll.symm.trans q3; cases z3
  have z4:=B.ky.fl.symm.trans q4; cases z4
  have f1:=T.ky.fl
  have l1:=T.ky.ll
  rw [e5] at f1 l1
  have z5:=f1.symm.trans A.ky.fl; cases z5
  have z6:=l1.symm.trans B.ky.ll; cases z6
  exact ⟨a,b,ma,mb,y,z,la,fb,e1,A,B,e4,e5,by lia,by lia,q5⟩
structure Dn (F : AH -> Out AV) (p : Nat) (h h' : AH) (ps ps' : List Pc) (k n : Nat) : Prop where
 ev : F h = .ok (.int n) h'
 dd : Dd p h h' ps ps' k
 re : ∀ h2 ps2,ShelfAt h2 p ps2 -> Good ps2 -> ps' <+: ps2 -> F h2 = .ok (.int n) h2
theorem Dd.trans {p : Nat} {h h' h'' : AH} {ps ps' ps'' : List Pc} {k k' k2 : Nat} (a : Dd p h h' ps ps' k) (b : Dd p h' h'' ps' ps'' k') (hk : k + k' <= k2) : Dd p h h'' ps ps'' k2 :=
 ⟨b.sh,b.gd,a.pre.trans b.pre,by have:=a.len; have:=b.len; lia,λi hi=>(b.fr i hi).trans (a.fr i hi),b.hl.trans a.hl⟩
theorem Dd.refl (S : ShelfAt h p ps) (g : Good ps) : Dd p h h ps ps 0:=⟨S,g,List.prefix_refl _,by lia,λ_ _=>rfl,rfl⟩
variable {F:AH -> Out AV}
theorem Dn.seq {F1:AH -> Out AV} {F2:AV -> AH -> Out AV} {ps2:List Pc} {k2 k n2:Nat} (S : ShelfAt h p ps) (g : Good ps) (d1 : Dn F1 p h h1 ps ps1 k1 n1) (d2 : Dn (F2 (.int n1)) p h1 h2 ps1 ps2 k2 n2) (eq : ∀ hh pp,ShelfAt hh p pp -> Good pp -> ps <+: pp -> F hh = (F1 hh).bind F2) (hk : k1 + k2 <= k) : Dn F p h h2 ps ps2 k n2:=by
 refine ⟨?_,d1.dd.trans d2.dd hk,λh3 ps3 S3 g3 p3=>?_⟩
 ·rw [eq h ps S g (List.prefix_refl _),d1.ev]; exact d2.ev
 ·rw [eq h3 ps3 S3 g3 (d1.dd.pre.trans (d2.dd.pre.trans p3)),d1.re h3 ps3 S3 g3 (d2.dd.pre.trans p3)]
  exact d2.re h3 ps3 S3 g3 p3
theorem Dn.as {F1:AH -> Out AV} {k:Nat} (S : ShelfAt h p ps) (g : Good ps) (d1 : Dn F1 p h h1 ps ps1 k1 n1) (eq : ∀ hh pp,ShelfAt hh p pp -> Good pp -> ps <+: pp -> F hh = F1 hh) (hk : k1 <= k) : Dn F p h h1 ps ps1 k n1:=by
 refine ⟨?_,{ d1.dd with len:=Nat.le_trans d1.dd.len (Nat.add_le_add_left hk _) },λh3 ps3 S3 g3 p3=>?_⟩
 ·rw [eq h ps S g (List.prefix_refl _)]; exact d1.ev
 ·rw [eq h3 ps3 S3 g3 (d1.dd.pre.trans p3)]; exact d1.re h3 ps3 S3 g3 p3
theorem Dn.val (S : ShelfAt h p ps) (g : Good ps) (eq : ∀ hh pp,ShelfAt hh p pp -> Good pp -> ps <+: pp -> F hh = .ok (.int n) hh) : Dn F p h h ps ps 0 n :=
 ⟨eq h ps S g (List.prefix_refl _),Dd.refl S g,λh3 ps3 S3 g3 p3=>eq h3 ps3 S3 g3 p3⟩
theorem ybp (h : ps <+: ps') (e : ps[i]? = some q) : ps'[i]? = some q:=by
 obtain ⟨r,rfl⟩:=h
 rw [List.getElem?_append_left (List.getElem?_eq_some_iff.mp e).1]; exact e
theorem zgt (S : ShelfAt h p ps) (g : Good ps) (hx : ybZ x = true) (hz : ps.length < 16000000) :
  ∃ (n : Nat) (ps' : List Pc) (h' : AH),Dn (yaX [.ref p,.str x]) p h h' ps ps' 1 n /\ Tx ps' n (lfMs x n) x (lfMs x n) (lfMs x n):=by
 obtain ⟨s1,s2,s3⟩:=zcq hx
 have hs : x.length <= sizeLine:=Nat.le_trans s2 (by decide)
 by_cases hq : Pc.leaf x ∈ ps
 ·obtain ⟨i,hi,e⟩:=List.getElem_of_mem hq
  have e' : ps[i]? = some (.leaf x):=by rw [List.getElem?_eq_getElem hi,e]
  exact ⟨i + 1,ps,h,⟨zb2 S g.nodup hx hs e',⟨S,g,List.prefix_refl _,by lia,λ_ _=>rfl,rfl⟩,λh2 ps2 S2 g2 p2=>zb2 S2 g2.nodup hx hs (ybp p2 e')⟩,zbM g e'⟩
 ·have g' : Good (ps++[.leaf x]):=.snoc g hq hx
  have e' : (ps++[Pc.leaf x])[ps.length]? = some (.leaf x):=by simp
  exact ⟨ps.length + 1,_,_,⟨zgZ S hx hs hq hz,⟨zb0 S,g',List.prefix_append _ _,by simp,λi hi=>zff hi,zer _ _ _⟩,λh2 ps2 S2 g2 p2=>zb2 S2 g2.nodup hx hs (ybp p2 e')⟩,zbM g' e'⟩
theorem zaA (S : ShelfAt h p ps) (g : Good ps) (A : Tx ps a ma x fa la) (B : Tx ps b mb y fb lb) (hc : 8 < la.sg + fb.sg) (v1 : -1 <= ma.ht - mb.ht) (v2 : ma.ht - mb.ht <= 1) (hm : ma.sg + mb.sg <= 1000000000000000000) (hz : ps.length < 16000000) :
  ∃ (n : Nat) (ps' : List Pc) (h' : AH),Dn (yaf [.ref p,.int a,.int b]) p h h' ps ps' 1 n /\ Tx ps' n (ydA ma mb) (x++y) fa lb:=by
 have F : ForkOk ps a b:=⟨A.n1,B.n1,ma,mb,la,fb,A.ms,B.ms,A.ky.ll,B.ky.fl,hc,by lia,hm⟩
 by_cases hq : Pc.fork a b ∈ ps
 ·obtain ⟨i,hi,e⟩:=List.getElem_of_mem hq
  have e' : ps[i]? = some (.fork a b):=by rw [List.getElem?_eq_getElem hi,e]
  exact ⟨i + 1,ps,h,⟨zb3 S g.nodup F e',⟨S,g,List.prefix_refl _,by lia,λ_ _=>rfl,rfl⟩,λh2 ps2 S2 g2 p2=>zb3 S2 g2.nodup (F.pre p2) (ybp p2 e')⟩,zbN g e' A B⟩
 ·have g' : Good (ps++[.fork a b]):=.snoc g hq F
  have e' : (ps++[Pc.fork a b])[ps.length]? = some (.fork a b):=by simp
  have pr : ps <+: ps++[Pc.fork a b]:=List.prefix_append _ _
  exact ⟨ps.length + 1,_,_,⟨zg0 S F hq hz,⟨zb0 S,g',pr,by simp,λi hi=>zff hi,zer _ _ _⟩,λh2 ps2 S2 g2 p2=>zb3 S2 g2.nodup (F.pre (pr.trans p2)) (ybp p2 e')⟩,zbN g' e' (A.pre pr) (B.pre pr)⟩
theorem fmS (ma mb : Ms) : (ydA ma mb).sg = ma.sg + mb.sg:=rfl
theorem fmH (ma mb : Ms) : (ydA ma mb).ht = max ma.ht mb.ht + 1:=rfl
theorem i1 (s : Str) (a b : Int) (h : AH) : fIx (.tup [.str s,.int a,.int b]) (.int 1) h = .ok (.int a) h:=rfl
theorem i2 (s : Str) (a b : Int) (h : AH) : fIx (.tup [.str s,.int a,.int b]) (.int 2) h = .ok (.int b) h:=rfl
theorem zaM (S : ShelfAt h p ps) (n1 : 1 <= n) (e : ps[n - 1]? = some (.fork a b)) : yaH [.ref p,.int n] h = .ok (.tup [.str "fork",.int a,.int b]) h:=zfi S n1 e
theorem tl_1 (S : ShelfAt h p ps) (ea : (meas ps)[a]? = some ma) (eb : (meas ps)[b]? = some mb) (hd : mb.ht - ma.ht < 2) :
  yaS [.ref p,.int a,.int b] h = yaf [.ref p,.int a,.int b] h:=by
 have f1:=zad S ea
 have f2:=zad S eb
 generalize hF : yaf [.ref p,.int a,.int b] h = R
 simp [yaS,S.ob,f1,f2,hd,hF]
 cases R<;>rfl
theorem tl_2 (S : ShelfAt h p ps) (b1 : 1 <= b) (ea : (meas ps)[a]? = some ma) (eb : (meas ps)[b]? = some mb) (e : ps[b - 1]? = some (.fork c d)) (ec : (meas ps)[c]? = some mc) (ed : (meas ps)[d]? = some md) (hd : ¬ mb.ht - ma.ht < 2) (hh : mc.ht <= md.ht) :
  yaS [.ref p,.int a,.int b] h = (yaf [.ref p,.int a,.int c] h).bind λv h1=>yaf [.ref p,v,.int d] h1:=by
 have f1:=zad S ea
 have f2:=zad S eb
 have f3:=zaM S b1 e
 have f4:=zad S ec
 have f5:=zad S ed
 generalize hF : yaf [.ref p,.int a,.int c] h = R
 simp [yaS,S.ob,f1,f2,hd,f3,i1,i2,f4,f5,hh,hF,-fIx]
 cases R with
 | ok v h1=>dsimp only; cases yaf [.ref p,v,.int d] h1<;>rfl
 | ex c h1=>rfl
 | bad=>rfl
def onSh (p : Nat) (F : AH -> Out AV) (h : AH) : Out AV:=match h[p]? with
 | some (.ins c' _)=>if c' = 0 then F h else .bad
 | _=>.bad
theorem zgu (S : ShelfAt h p ps) (F : AH -> Out AV) : onSh p F h = F h:=by simp [onSh,S.ob]
theorem tl_3 (S : ShelfAt h p ps) (b1 : 1 <= b) (c1 : 1 <= c) (ea : (meas ps)[a]? = some ma) (eb : (meas ps)[b]? = some mb) (e : ps[b - 1]? = some (.fork c d)) (ec : (meas ps)[c]? = some mc) (ed : (meas ps)[d]? = some md) (e2 : ps[c - 1]? = some (.fork i j)) (hd : ¬ mb.ht - ma.ht < 2) (hh : ¬ mc.ht <= md.ht) :
  yaS [.ref p,.int a,.int b] h = (yaf [.ref p,.int a,.int i] h).bind λv h1=>(onSh p (yaf [.ref p,.int j,.int d]) h1).bind λw h2=>yaf [.ref p,v,w] h2:=by
 have f1:=zad S ea
 have f2:=zad S eb
 have f3:=zaM S b1 e
 have f4:=zad S ec
 have f5:=zad S ed
 have f6:=zaM S c1 e2
 generalize hF : yaf [.ref p,.int a,.int i] h = R
 simp [yaS,S.ob,f1,f2,hd,f3,i1,i2,f4,f5,hh,f6,hF,-fIx]
 cases R with
 | ok v h1 =>
  unfold onSh
  dsimp only
  cases hx : h1[p]? with
  | none=>rfl
  | some o =>
   cases o with
   | lst l=>rfl
   | dct q l=>rfl
   | dcx l=>rfl
   | ins c' l =>
    dsimp only
    by_cases z : c' = 0
    ·rw [if_pos z]
     cases yaf [.ref p,.int j,.int d] h1 with
     | ok w h2=>dsimp only; cases yaf [.ref p,v,w] h2<;>rfl
     | ex c h2=>rfl
     | bad=>rfl
    ·rw [if_neg z]
 | ex c h1=>rfl
 | bad=>rfl
theorem tlh1 {a b m : Int} (h1 : -1 <= b - a) (h2 : b - a < 2) (e : m = max a b + 1) : max a b <= m /\ m <= max a b + 1 /\ (b - a <= 1 -> m = max a b + 1):=by lia
theorem lA8 {a b c d i j : Int} (ht : b = max c d + 1) (ht2 : c = max i j + 1) (w1 : -1 <= c - d) (w2 : c - d <= 1) (v2 : b - a <= 2) (q : ¬ b - a < 2) (r : ¬ c <= d) : max a b <= max (max a i + 1) (max j d + 1) + 1 /\ max (max a i + 1) (max j d + 1) + 1 <= max a b + 1 /\ (b - a <= 1 -> max (max a i + 1) (max j d + 1) + 1 = max a b + 1):=by
 have hi:=Int.le_max_left i j
 have hj:=Int.le_max_right i j
 generalize max i j = k at *
 rw [Int.max_eq_left (show d <= c by lia)] at ht
 rw [Int.max_eq_left (show i <= a by lia),Int.max_eq_right (show j <= d by lia),Int.max_eq_right (show a <= b by lia),Int.max_eq_left (show d + 1 <= a + 1 by lia)]
 lia
theorem lB8 {a b c d i j : Int} (ht : a = max c d + 1) (ht2 : d = max i j + 1) (w1 : -1 <= c - d) (w2 : c - d <= 1) (v2 : a - b <= 2) (q : ¬ a - b < 2) (r : ¬ d <= c) : max a b <= max (max c i + 1) (max j b + 1) + 1 /\ max (max c i + 1) (max j b + 1) + 1 <= max a b + 1 /\ (a - b <= 1 -> max (max c i + 1) (max j b + 1) + 1 = max a b + 1):=by
 have hi:=Int.le_max_left i j
 have hj:=Int.le_max_right i j
 generalize max i j = k at *
 rw [Int.max_eq_right (show c <= d by lia)] at ht
 rw [Int.max_eq_left (show i <= c by lia),Int.max_eq_right (show j <= b by lia),Int.max_eq_left (show b <= a by lia),Int.max_eq_left (show b + 1 <= c + 1 by lia)]
 lia
theorem zgv (S : ShelfAt h p ps) (g : Good ps) (A : Tx ps a ma x fa la) (B : Tx ps b mb y fb lb) (hc : 8 < la.sg + fb.sg) (v1 : -1 <= mb.ht - ma.ht) (v2 : mb.ht - ma.ht <= 2) (hm : ma.sg + mb.sg <= 1000000000000000000) (hz : ps.length + 3 < 16000000) :
  ∃ (n : Nat) (ps' : List Pc) (h' : AH) (m : Ms),Dn (yaS [.ref p,.int a,.int b]) p h h' ps ps' 3 n /\ Tx ps' n m (x++y) fa lb /\ max ma.ht mb.ht <= m.ht /\ m.ht <= max ma.ht mb.ht + 1 /\ (mb.ht - ma.ht <= 1 -> m.ht = max ma.ht mb.ht + 1):=by
 by_cases q : mb.ht - ma.ht < 2
 ·obtain ⟨n,ps',h',d,T⟩:=zaA S g A B hc (by lia) (by lia) hm (by lia)
  exact ⟨n,ps',h',_,d.as S g (λhh pp S' _ pr=>tl_1 S' (zac pr A.ms) (zac pr B.ms) q) (by lia),T,tlh1 v1 q (fmH ma mb)⟩
 ·obtain ⟨c,d,mc,md,y1,y2,lc,fd,e,C,D,rfl,em,w1,w2,w3⟩:=g.cut B (by have:=A.ky.ht; lia)
  have sg:=congrArg Ms.sg em
  have ht:=congrArg Ms.ht em
  rw [fmS] at sg
  rw [fmH] at ht
  by_cases r : mc.ht <= md.ht
  ·obtain ⟨n1,ps1,h1,d1,T1⟩:=zaA S g A C hc (by lia) (by lia) (by lia) (by lia)
   obtain ⟨n2,ps2,h2,d2,T2⟩:=zaA d1.dd.sh d1.dd.gd T1 (D.pre d1.dd.pre) w3 (by rw [fmH]; lia) (by rw [fmH]; lia) (by rw [fmS]; lia) (by have:=d1.dd.len; lia)
   rw [zah] at T2
   refine ⟨n2,ps2,h2,_,Dn.seq S g d1 d2 (λhh pp S' _ pr=>tl_2 S' B.n1 (zac pr A.ms) (zac pr B.ms) (ybp pr e) (zac pr C.ms) (zac pr D.ms) q r) (by lia),T2,?_⟩
   rw [fmH,fmH]; lia
  ·obtain ⟨i,j,mi,mj,z1,z2,li,fj,e2,I,J,rfl,em2,u1,u2,u3⟩:=g.cut C (by have:=D.ky.ht; lia)
   have sg2:=congrArg Ms.sg em2
   have ht2:=congrArg Ms.ht em2
   rw [fmS] at sg2
   rw [fmH] at ht2
   obtain ⟨n1,ps1,h1,d1,T1⟩:=zaA S g A I hc (by lia) (by lia) (by lia) (by lia)
   obtain ⟨n2,ps2,h2,d2,T2⟩:=zaA d1.dd.sh d1.dd.gd (J.pre d1.dd.pre) (D.pre d1.dd.pre) w3 (by lia) (by lia) (by lia) (by have:=d1.dd.len; lia)
   obtain ⟨n3,ps3,h3,d3,T3⟩:=zaA d2.dd.sh d2.dd.gd (T1.pre d2.dd.pre) T2 u3 (by rw [fmH,fmH]; lia) (by rw [fmH,fmH]; lia) (by rw [fmS,fmS]; lia) (by have:=d1.dd.len; have:=d2.dd.len; lia)
   have d2' : Dn (onSh p (yaf [.ref p,.int j,.int d])) p h1 h2 ps1 ps2 1 n2:=d2.as d1.dd.sh d1.dd.gd (λhh pp S' _ _=>zgu S' _) (Nat.le_refl _)
   have d23:=Dn.seq (F:=λh1=>(onSh p (yaf [.ref p,.int j,.int d]) h1).bind λw h2=>yaf [.ref p,.int n1,w] h2) (F2:=λw h2=>yaf [.ref p,.int n1,w] h2) d1.dd.sh d1.dd.gd d2' d3 (λ_ _ _ _ _=>rfl) (k:=2) (by lia)
   have ea : (x++z1)++(z2++y2) = x++(z1++z2++y2):=by rw [zah,zah]
   rw [ea] at T3
   refine ⟨n3,ps3,h3,_,Dn.seq (F2:=λv h1=>(onSh p (yaf [.ref p,.int j,.int d]) h1).bind λw h2=>yaf [.ref p,v,w] h2) S g d1 d23 (λhh pp S' _ pr=>tl_3 S' B.n1 C.n1 (zac pr A.ms) (zac pr B.ms) (ybp pr e) (zac pr C.ms) (zac pr D.ms) (ybp pr e2) q r) (by lia),T3,?_⟩
   rw [fmH,fmH,fmH]; exact lA8 ht ht2 w1 w2 v2 q r
theorem tr_1 (S : ShelfAt h p ps) (ea : (meas ps)[a]? = some ma) (eb : (meas ps)[b]? = some mb) (hd : ma.ht - mb.ht < 2) :
  ya3 [.ref p,.int a,.int b] h = yaf [.ref p,.int a,.int b] h:=by
 have f1:=zad S ea
 have f2:=zad S eb
 generalize hF : yaf [.ref p,.int a,.int b] h = R
 simp [ya3,S.ob,f1,f2,hd,hF]
 cases R<;>rfl
theorem tr_2 (S : ShelfAt h p ps) (a1 : 1 <= a) (ea : (meas ps)[a]? = some ma) (eb : (meas ps)[b]? = some mb) (e : ps[a - 1]? = some (.fork c d)) (ec : (meas ps)[c]? = some mc) (ed : (meas ps)[d]? = some md) (hd : ¬ ma.ht - mb.ht < 2) (hh : md.ht <= mc.ht) :
  ya3 [.ref p,.int a,.int b] h = (yaf [.ref p,.int d,.int b] h).bind λv h1=>yaf [.ref p,.int c,v] h1:=by
 have f1:=zad S ea
 have f2:=zad S eb
 have f3:=zaM S a1 e
 have f4:=zad S ec
 have f5:=zad S ed
 generalize hF : yaf [.ref p,.int d,.int b] h = R
 simp [ya3,S.ob,f1,f2,hd,f3,i1,i2,f4,f5,hh,hF,-fIx]
 cases R with
 | ok v h1=>dsimp only; cases yaf [.ref p,.int c,v] h1<;>rfl
 | ex c h1=>rfl
 | bad=>rfl
theorem tr_3 (S : ShelfAt h p ps) (a1 : 1 <= a) (d1 : 1 <= d) (ea : (meas ps)[a]? = some ma) (eb : (meas ps)[b]? = some mb) (e : ps[a - 1]? = some (.fork c d)) (ec : (meas ps)[c]? = some mc) (ed : (meas ps)[d]? = some md) (e2 : ps[d - 1]? = some (.fork i j)) (hd : ¬ ma.ht - mb.ht < 2) (hh : ¬ md.ht <= mc.ht) :
  ya3 [.ref p,.int a,.int b] h = (yaf [.ref p,.int c,.int i] h).bind λv h1=>(onSh p (yaf [.ref p,.int j,.int b]) h1).bind λw h2=>yaf [.ref p,v,w] h2:=by
 have f1:=zad S ea
 have f2:=zad S eb
 have f3:=zaM S a1 e
 have f4:=zad S ec
 have f5:=zad S ed
 have f6:=zaM S d1 e2
 generalize hF : yaf [.ref p,.int c,.int i] h = R
 simp [ya3,S.ob,f1,f2,hd,f3,i1,i2,f4,f5,hh,f6,hF,-fIx]
 cases R with
 | ok v h1 =>
  unfold onSh
  dsimp only
  cases hx : h1[p]? with
  | none=>rfl
  | some o =>
   cases o with
   | lst l=>rfl
   | dct q l=>rfl
   | dcx l=>rfl
   | ins c' l =>
    dsimp only
    by_cases z : c' = 0
    ·rw [if_pos z]
     cases yaf [.ref p,.int j,.int b] h1 with
     | ok w h2=>dsimp only; cases yaf [.ref p,v,w] h2<;>rfl
     | ex c h2=>rfl
     | bad=>rfl
    ·rw [if_neg z]
 | ex c h1=>rfl
 | bad=>rfl
theorem ziS (S : ShelfAt h p ps) (g : Good ps) (A : Tx ps a ma x fa la) (B : Tx ps b mb y fb lb) (hc : 8 < la.sg + fb.sg) (v1 : -1 <= ma.ht - mb.ht) (v2 : ma.ht - mb.ht <= 2) (hm : ma.sg + mb.sg <= 1000000000000000000) (hz : ps.length + 3 < 16000000) :
  ∃ (n : Nat) (ps' : List Pc) (h' : AH) (m : Ms),Dn (ya3 [.ref p,.int a,.int b]) p h h' ps ps' 3 n /\ Tx ps' n m (x++y) fa lb /\ max ma.ht mb.ht <= m.ht /\ m.ht <= max ma.ht mb.ht + 1 /\ (ma.ht - mb.ht <= 1 -> m.ht = max ma.ht mb.ht + 1):=by
 by_cases q : ma.ht - mb.ht < 2
 ·obtain ⟨n,ps',h',d,T⟩:=zaA S g A B hc (by lia) (by lia) hm (by lia)
  refine ⟨n,ps',h',_,d.as S g (λhh pp S' _ pr=>tr_1 S' (zac pr A.ms) (zac pr B.ms) q) (by lia),T,?_⟩
  rw [fmH]; lia
 ·obtain ⟨c,d,mc,md,y1,y2,lc,fd,e,C,D,rfl,em,w1,w2,w3⟩:=g.cut A (by have:=B.ky.ht; lia)
  have sg:=congrArg Ms.sg em
  have ht:=congrArg Ms.ht em
  rw [fmS] at sg
  rw [fmH] at ht
  by_cases r : md.ht <= mc.ht
  ·obtain ⟨n1,ps1,h1,d1,T1⟩:=zaA S g D B hc (by lia) (by lia) (by lia) (by lia)
   obtain ⟨n2,ps2,h2,d2,T2⟩:=zaA d1.dd.sh d1.dd.gd (C.pre d1.dd.pre) T1 w3 (by rw [fmH]; lia) (by rw [fmH]; lia) (by rw [fmS]; lia) (by have:=d1.dd.len; lia)
   rw [<- zah] at T2
   refine ⟨n2,ps2,h2,_,Dn.seq (F2:=λv h1=>yaf [.ref p,.int c,v] h1) S g d1 d2 (λhh pp S' _ pr=>tr_2 S' A.n1 (zac pr A.ms) (zac pr B.ms) (ybp pr e) (zac pr C.ms) (zac pr D.ms) q r) (by lia),T2,?_⟩
   rw [fmH,fmH]; lia
  ·obtain ⟨i,j,mi,mj,z1,z2,li,fj,e2,I,J,rfl,em2,u1,u2,u3⟩:=g.cut D (by have:=C.ky.ht; lia)
   have sg2:=congrArg Ms.sg em2
   have ht2:=congrArg Ms.ht em2
   rw [fmS] at sg2
   rw [fmH] at ht2
   obtain ⟨n1,ps1,h1,d1,T1⟩:=zaA S g C I w3 (by lia) (by lia) (by lia) (by lia)
   obtain ⟨n2,ps2,h2,d2,T2⟩:=zaA d1.dd.sh d1.dd.gd (J.pre d1.dd.pre) (B.pre d1.dd.pre) hc (by lia) (by lia) (by lia) (by have:=d1.dd.len; lia)
   obtain ⟨n3,ps3,h3,d3,T3⟩:=zaA d2.dd.sh d2.dd.gd (T1.pre d2.dd.pre) T2 u3 (by rw [fmH,fmH]; lia) (by rw [fmH,fmH]; lia) (by rw [fmS,fmS]; lia) (by have:=d1.dd.len; have:=d2.dd.len; lia)
   have d2' : Dn (onSh p (yaf [.ref p,.int j,.int b])) p h1 h2 ps1 ps2 1 n2:=d2.as d1.dd.sh d1.dd.gd (λhh pp S' _ _=>zgu S' _) (Nat.le_refl _)
   have d23:=Dn.seq (F:=λh1=>(onSh p (yaf [.ref p,.int j,.int b]) h1).bind λw h2=>yaf [.ref p,.int n1,w] h2) (F2:=λw h2=>yaf [.ref p,.int n1,w] h2) d1.dd.sh d1.dd.gd d2' d3 (λ_ _ _ _ _=>rfl) (k:=2) (by lia)
   have ea : (y1++z1)++(z2++y) = y1++(z1++z2)++y:=by rw [zah,zah,zah]
   rw [ea] at T3
   refine ⟨n3,ps3,h3,_,Dn.seq (F2:=λv h1=>(onSh p (yaf [.ref p,.int j,.int b]) h1).bind λw h2=>yaf [.ref p,v,w] h2) S g d1 d23 (λhh pp S' _ pr=>tr_3 S' A.n1 D.n1 (zac pr A.ms) (zac pr B.ms) (ybp pr e) (zac pr C.ms) (zac pr D.ms) (ybp pr e2) q r) (by lia),T3,?_⟩
   rw [fmH,fmH,fmH]; exact lB8 ht ht2 w1 w2 v2 q r
theorem Dn.seq' {F1 F2:AH -> Out AV} {ps2:List Pc} {k2 k n2:Nat} (S : ShelfAt h p ps) (g : Good ps) (d1 : Dn F1 p h h1 ps ps1 k1 n1) (d2 : Dn F2 p h1 h2 ps1 ps2 k2 n2) (eq : ∀ hh hh1 pp,ShelfAt hh p pp -> Good pp -> ps <+: pp -> F1 hh = .ok (.int n1) hh1 -> F hh = F2 hh1) (hk : k1 + k2 <= k) : Dn F p h h2 ps ps2 k n2:=by
 refine ⟨?_,d1.dd.trans d2.dd hk,λh3 ps3 S3 g3 p3=>?_⟩
 ·rw [eq h h1 ps S g (List.prefix_refl _) d1.ev]; exact d2.ev
 ·rw [eq h3 h3 ps3 S3 g3 (d1.dd.pre.trans (d2.dd.pre.trans p3)) (d1.re h3 ps3 S3 g3 (d2.dd.pre.trans p3))]
  exact d2.re h3 ps3 S3 g3 p3
theorem lk_1 (S : ShelfAt h p ps) (ea : (meas ps)[a]? = some ma) (eb : (meas ps)[b]? = some mb) (h1 : ma.ht - mb.ht <= 1) (h2 : -1 <= ma.ht - mb.ht) :
  ybb (d + 1) [.ref p,.int a,.int b] h = yaf [.ref p,.int a,.int b] h:=by
 have f1:=zad S ea
 have f2:=zad S eb
 have c1 : ¬ 1 < ma.ht - mb.ht:=by lia
 have c2 : ¬ ma.ht - mb.ht < -1:=by lia
 generalize hF : yaf [.ref p,.int a,.int b] h = R
 simp [ybb,yeg,S.ob,f1,f2,c1,c2,hF]
 cases R<;>rfl
theorem lk_2 {v:Int} (S : ShelfAt h p ps) (a1 : 1 <= a) (ea : (meas ps)[a]? = some ma) (eb : (meas ps)[b]? = some mb) (ep : ps[a - 1]? = some (.fork c e)) (hd : 1 < ma.ht - mb.ht) (ev : ybb d [.ref p,.int e,.int b] h = .ok (.int v) h1) :
  ybb (d + 1) [.ref p,.int a,.int b] h = yaS [.ref p,.int c,.int v] h1:=by
 have f1:=zad S ea
 have f2:=zad S eb
 have f3:=zaM S a1 ep
 generalize hF : yaS [.ref p,.int c,.int v] h1 = R
 simp [ybb,yeg,S.ob,f1,f2,hd,f3,i1,i2,ev,hF,-fIx]
 cases R<;>rfl
theorem lk_3 {v:Int} (S : ShelfAt h p ps) (b1 : 1 <= b) (ea : (meas ps)[a]? = some ma) (eb : (meas ps)[b]? = some mb) (ep : ps[b - 1]? = some (.fork c e)) (hd : ma.ht - mb.ht < -1) (ev : ybb d [.ref p,.int a,.int c] h = .ok (.int v) h1) :
  ybb (d + 1) [.ref p,.int a,.int b] h = ya3 [.ref p,.int v,.int e] h1:=by
 have f1:=zad S ea
 have f2:=zad S eb
 have f3:=zaM S b1 ep
 have c1 : ¬ 1 < ma.ht - mb.ht:=by lia
 generalize hF : ya3 [.ref p,.int v,.int e] h1 = R
 simp [ybb,yeg,S.ob,f1,f2,c1,hd,f3,i1,i2,ev,hF,-fIx]
 cases R<;>rfl
theorem mxe (a b : Int) : a <= max a b /\ b <= max a b /\ (max a b = a \/ max a b = b):=by lia
theorem lC8 {a b c e m n : Int} (hh : a = max c e + 1) (w1 : -1 <= c - e) (w2 : c - e <= 1) (q : 1 < a - b) (u1 : max e b <= m) (u2 : m <= max e b + 1) (u3 : max c m <= n) (u4 : n <= max c m + 1) (u5 : m - c <= 1 -> n = max c m + 1) : max a b <= n /\ n <= max a b + 1:=by
 obtain ⟨x1,x2,x3⟩:=mxe c e
 obtain ⟨y1,y2,y3⟩:=mxe c m
 generalize max c e = k at *
 generalize max c m = l at *
 rw [Int.max_eq_left (show b <= e by lia)] at u1 u2
 rw [Int.max_eq_left (show b <= a by lia)]
 lia
theorem lD8 {a b c e m n : Int} (hh : b = max c e + 1) (w1 : -1 <= c - e) (w2 : c - e <= 1) (q : a - b < -1) (u1 : max a c <= m) (u2 : m <= max a c + 1) (u3 : max m e <= n) (u4 : n <= max m e + 1) (u5 : m - e <= 1 -> n = max m e + 1) : max a b <= n /\ n <= max a b + 1:=by
 obtain ⟨x1,x2,x3⟩:=mxe c e
 obtain ⟨y1,y2,y3⟩:=mxe m e
 generalize max c e = k at *
 generalize max m e = l at *
 rw [Int.max_eq_right (show a <= c by lia)] at u1 u2
 rw [Int.max_eq_right (show a <= b by lia)]
 lia
theorem zb7 {p : Nat} : ∀ (d t : Nat) {h : AH} {ps : List Pc} {a b : Nat} {ma mb fa la fb lb : Ms} {x y : Str} (S : ShelfAt h p ps) (g : Good ps) (A : Tx ps a ma x fa la) (B : Tx ps b mb y fb lb) (hc : 8 < la.sg + fb.sg) (hm : ma.sg + mb.sg <= 1000000000000000000)
  (ht : (ma.ht - mb.ht).natAbs <= t) (hd : t < d) (hz : ps.length + 3 * t + 4 < 16000000),
  ∃ (n : Nat) (ps' : List Pc) (h' : AH) (m : Ms),Dn (ybb d [.ref p,.int a,.int b]) p h h' ps ps' (3 * t + 1) n /\ Tx ps' n m (x++y) fa lb /\ max ma.ht mb.ht <= m.ht /\ m.ht <= max ma.ht mb.ht + 1
 | 0,t,h,ps,a,b,ma,mb,fa,la,fb,lb,x,y,S,g,A,B,hc,hm,ht,hd,hz=>absurd hd (Nat.not_lt_zero t)
 | d + 1,t,h,ps,a,b,ma,mb,fa,la,fb,lb,x,y,S,g,A,B,hc,hm,ht,hd,hz=>by
  by_cases q1 : 1 < ma.ht - mb.ht
  ·obtain ⟨c,e,mc,me,y1,y2,lc,fe,ep,C,E,rfl,em,w1,w2,w3⟩:=g.cut A (by have:=B.ky.ht; lia)
   have sg:=congrArg Ms.sg em
   have hh:=congrArg Ms.ht em
   rw [fmS] at sg
   rw [fmH] at hh
   obtain ⟨n1,ps1,h1,m1,d1,T1,u1,u2⟩:=zb7 d (t - 1) S g E B hc (by lia) (by lia) (by lia) (by lia)
   have s1 : m1.sg = me.sg + mb.sg:=by rw [T1.ky.sg,zaj,<- E.ky.sg,<- B.ky.sg]
   obtain ⟨n2,ps2,h2,m2,d2,T2,u3,u4,u5⟩:=zgv d1.dd.sh d1.dd.gd (C.pre d1.dd.pre) T1 w3 (by lia) (by lia) (by lia) (by have:=d1.dd.len; lia)
   rw [<- zah] at T2
   exact ⟨n2,ps2,h2,m2,Dn.seq' S g d1 d2 (λhh hh1 pp S' _ pr ev=>lk_2 S' A.n1 (zac pr A.ms) (zac pr B.ms) (ybp pr ep) q1 ev) (by lia),T2,lC8 hh w1 w2 q1 u1 u2 u3 u4 u5⟩
  ·by_cases q2 : ma.ht - mb.ht < -1
   ·obtain ⟨c,e,mc,me,y1,y2,lc,fe,ep,C,E,rfl,em,w1,w2,w3⟩:=g.cut B (by have:=A.ky.ht; lia)
    have sg:=congrArg Ms.sg em
    have hh:=congrArg Ms.ht em
    rw [fmS] at sg
    rw [fmH] at hh
    obtain ⟨n1,ps1,h1,m1,d1,T1,u1,u2⟩:=zb7 d (t - 1) S g A C hc (by lia) (by lia) (by lia) (by lia)
    have s1 : m1.sg = ma.sg + mc.sg:=by rw [T1.ky.sg,zaj,<- A.ky.sg,<- C.ky.sg]
    obtain ⟨n2,ps2,h2,m2,d2,T2,u3,u4,u5⟩:=ziS d1.dd.sh d1.dd.gd T1 (E.pre d1.dd.pre) w3 (by lia) (by lia) (by lia) (by have:=d1.dd.len; lia)
    rw [zah] at T2
    exact ⟨n2,ps2,h2,m2,Dn.seq' S g d1 d2 (λhh hh1 pp S' _ pr ev=>lk_3 S' B.n1 (zac pr A.ms) (zac pr B.ms) (ybp pr ep) q2 ev) (by lia),T2,lD8 hh w1 w2 q2 u1 u2 u3 u4 u5⟩
   ·obtain ⟨n,ps',h',dn,T⟩:=zaA S g A B hc (by lia) (by lia) hm (by lia)
    exact ⟨n,ps',h',_,dn.as S g (λhh pp S' _ pr=>lk_1 S' (zac pr A.ms) (zac pr B.ms) (by lia) (by lia)) (by lia),T,by rw [fmH]; lia,by rw [fmH]; lia⟩
theorem zcE (S : ShelfAt h p ps) (n1 : 1 <= n) (e : ps[n - 1]? = some (.leaf x)) : yaH [.ref p,.int n] h = .ok (.tup [.str "leaf",.str x]) h:=zfi S n1 e
theorem i0L (x : Str) (h : AH) : fIx (.tup [.str "leaf",.str x]) (.int 0) h = .ok (.str "leaf") h:=rfl
theorem i0F (a b : Int) (h : AH) : fIx (.tup [.str "fork",.int a,.int b]) (.int 0) h = .ok (.str "fork") h:=rfl
theorem i1L (x : Str) (h : AH) : fIx (.tup [.str "leaf",.str x]) (.int 1) h = .ok (.str x) h:=rfl
theorem eqL (h : AH) : fEq (.str "leaf") (.str "leaf") h = .ok (.bl true) h:=by simp
theorem eqF (h : AH) : fEq (.str "fork") (.str "leaf") h = .ok (.bl false) h:=by
 have : ¬ (Str.ofString "fork" = Str.ofString "leaf"):=by decide +kernel
 simp [this]
variable {L N:Int}
theorem wl_1 (S : ShelfAt h p ps) (a1 : 1 <= a) (ep : ps[a - 1]? = some (.leaf x)) : ybi (d + 1) [.ref p,.int a,.int L] h = .ok (.int L) h:=by
 simp [ybi,ydV,S.ob,zcE S a1 ep,i0L,eqL,-fIx,-fEq]
theorem wl_2 {v:Int} (S : ShelfAt h p ps) (a1 : 1 <= a) (ep : ps[a - 1]? = some (.fork c e)) (ev : ybi d [.ref p,.int e,.int L] h = .ok (.int v) h1) :
  ybi (d + 1) [.ref p,.int a,.int L] h = yaf [.ref p,.int c,.int v] h1:=by
 generalize hF : yaf [.ref p,.int c,.int v] h1 = R
 simp [ybi,ydV,S.ob,zaM S a1 ep,i0F,i1,i2,eqF,ev,hF,-fIx,-fEq]
 cases R<;>rfl
theorem zcF {m:Ms} (T : Tx ps n m x f l) (e : m = lfMs x n) : f = m /\ l = m:=by
 have h1:=T.ky.fl
 have h2:=T.ky.ll
 have h3:=T.ms
 rw [e] at h1 h2
 exact ⟨Option.some.inj (h1.symm.trans h3),Option.some.inj (h2.symm.trans h3)⟩
theorem zgw {p : Nat} : ∀ (d : Nat) {h : AH} {ps : List Pc} {a L : Nat} {m f l : Ms} {x w : Str} (S : ShelfAt h p ps) (g : Good ps) (T : Tx ps a m x f l) (N : Tx ps L (lfMs w L) w (lfMs w L) (lfMs w L)) (hw : l.sg <= w.length) (hm : m.sg + w.length <= 1000000000000000000 + l.sg) (hd : m.ht.toNat < d) (hz : ps.length + m.ht.toNat < 16000000),
  ∃ (n : Nat) (ps' : List Pc) (h' : AH) (m' f' : Ms) (u v : Str),Dn (ybi d [.ref p,.int a,.int L]) p h h' ps ps' m.ht.toNat n /\ x = u++v /\ v.length = l.sg /\ Tx ps' n m' (u++w) f' (lfMs w L) /\ m'.ht = m.ht /\ f.sg <= f'.sg
 | 0,h,ps,a,L,m,f,l,x,w,S,g,T,N,hw,hm,hd,hz=>absurd hd (Nat.not_lt_zero _)
 | d + 1,h,ps,a,L,m,f,l,x,w,S,g,T,N,hw,hm,hd,hz=>by
  by_cases q : 0 < m.ht
  ·obtain ⟨c,e,mc,me,y1,y2,lc,fe,ep,C,E,rfl,em,w1,w2,w3⟩:=g.cut T q
   have sg:=congrArg Ms.sg em
   have hh:=congrArg Ms.ht em
   rw [fmS] at sg
   rw [fmH] at hh
   have c0:=C.ky.ht
   have e0:=E.ky.ht
   obtain ⟨n1,ps1,h1,m1,f1,u,v,d1,rfl,lv,T1,k1,k2⟩:=zgw d S g E N hw (by lia) (by lia) (by lia)
   have s1 : m1.sg + l.sg = me.sg + w.length:=by rw [T1.ky.sg,E.ky.sg,zaj,zaj]; lia
   obtain ⟨n2,ps2,h2,d2,T2⟩:=zaA d1.dd.sh d1.dd.gd (C.pre d1.dd.pre) T1 (by lia) (by lia) (by lia) (by lia) (by have:=d1.dd.len; lia)
   rw [<- zah] at T2
   exact ⟨n2,ps2,h2,_,f,y1++u,v,Dn.seq' S g d1 d2 (λhh hh1 pp S' _ pr ev=>wl_2 S' T.n1 (ybp pr ep) ev) (by lia),by rw [zah],lv,T2,by rw [fmH,k1,hh],Nat.le_refl _⟩
  ·rcases g.kind T with ⟨e1,e2,e3,e4,e5⟩ | ⟨c,e,mc,me,y1,y2,fc,lc,fe,le,e1,e2,e3,C,E,e4,e5,e6⟩
   ·obtain ⟨z1,z2⟩:=zcF T e3
    subst z1 z2
    have em : ("" : Str)++x = x:=zas (by rw [zax]; rfl)
    have em2 : ("" : Str)++w = w:=zas (by rw [zax]; rfl)
    have dv : Dn (ybi (d + 1) [.ref p,.int a,.int L]) p h h ps ps 0 L:=Dn.val S g λhh pp S' _ pr=>wl_1 S' T.n1 (ybp pr e1)
    refine ⟨L,ps,h,_,_, "",x,dv.as S g (λ_ _ _ _ _=>rfl) (Nat.zero_le _),em.symm,T.ky.sg.symm,by rw [em2]; exact N,e2.symm,hw⟩
   ·have:=congrArg Ms.ht e5
    rw [fmH] at this
    have c0:=C.ky.ht
    lia
theorem wf_1 (S : ShelfAt h p ps) (a1 : 1 <= a) (ep : ps[a - 1]? = some (.leaf x)) : yaD (d + 1) [.ref p,.int a] h = .ok (.int (0 : Nat)) h:=by
 simp [yaD,yck,S.ob,zcE S a1 ep,i0L,eqL,-fIx,-fEq]
theorem wf_2 (S : ShelfAt h p ps) (a1 : 1 <= a) (ep : ps[a - 1]? = some (.fork c e)) (ev : yaD d [.ref p,.int c] h = .ok (.int (0 : Nat)) h1) :
  yaD (d + 1) [.ref p,.int a] h = .ok (.int e) h1:=by
 have z : fEq (.int 0) (.int 0) h1 = .ok (.bl true) h1:=by simp
 simp [yaD,yck,S.ob,zaM S a1 ep,i0F,i1,i2,eqF,ev,z,-fIx,-fEq]
theorem wf_3 {v:Nat} (S : ShelfAt h p ps) (a1 : 1 <= a) (ep : ps[a - 1]? = some (.fork c e)) (v1 : 1 <= v) (ev : yaD d [.ref p,.int c] h = .ok (.int v) h1) :
  yaD (d + 1) [.ref p,.int a] h = yaS [.ref p,.int v,.int e] h1:=by
 have z : fEq (.int (v : Int)) (.int 0) h1 = .ok (.bl false) h1:=by
  have : ¬ (v = 0):=by lia
  simp [this]
 generalize hF : yaS [.ref p,.int v,.int e] h1 = R
 simp [yaD,yck,S.ob,zaM S a1 ep,i0F,i1,i2,eqF,ev,z,hF,-fIx,-fEq]
 cases R<;>rfl
theorem zfj {p : Nat} : ∀ (d : Nat) {h : AH} {ps : List Pc} {a : Nat} {m f l : Ms} {x : Str} (S : ShelfAt h p ps) (g : Good ps) (T : Tx ps a m x f l) (hd : m.ht.toNat < d) (hz : ps.length + 3 * m.ht.toNat < 16000000),
  (m.ht = 0 /\ f.sg = x.length /\ Dn (yaD d [.ref p,.int a]) p h h ps ps 0 0) \/
  (0 < m.ht /\ ∃ (n : Nat) (ps' : List Pc) (h' : AH) (m' f2 : Ms) (u v : Str),Dn (yaD d [.ref p,.int a]) p h h' ps ps' (3 * m.ht.toNat) n /\ x = u++v /\ u.length = f.sg /\ Tx ps' n m' v f2 l /\ m.ht - 1 <= m'.ht /\ m'.ht <= m.ht /\ 8 < f.sg + f2.sg)
 | 0,h,ps,a,m,f,l,x,S,g,T,hd,hz=>absurd hd (Nat.not_lt_zero _)
 | d + 1,h,ps,a,m,f,l,x,S,g,T,hd,hz=>by
  by_cases q : 0 < m.ht
  ·obtain ⟨c,e,mc,me,y1,y2,lc,fe,ep,C,E,rfl,em,w1,w2,w3⟩:=g.cut T q
   have sg:=congrArg Ms.sg em
   have hh:=congrArg Ms.ht em
   rw [fmS] at sg
   rw [fmH] at hh
   have c0:=C.ky.ht
   have e0:=E.ky.ht
   have most:=T.ky.most
   refine .inr ⟨q,?_⟩
   rcases zfj d S g C (by lia) (by lia) with ⟨k1,k2,d1⟩ | ⟨k1,n1,ps1,h1,m1,f2,u,v,d1,rfl,lu,T1,r1,r2,r3⟩
   ·rcases g.kind C with ⟨e1,e2,e3,e4,e5⟩ | ⟨_,_,mx,my,_,_,_,_,_,_,_,_,_,X,Y,_,e5,_⟩
    ·obtain ⟨z1,z2⟩:=zcF C e3
     have dv : Dn (yaD (d + 1) [.ref p,.int a]) p h h ps ps 0 e:=by
      refine ⟨wf_2 S T.n1 ep d1.ev,Dd.refl S g,λh3 ps3 S3 g3 p3=>wf_2 S3 T.n1 (ybp p3 ep) (d1.re h3 ps3 S3 g3 p3)⟩
     exact ⟨e,ps,h,me,fe,y1,y2,dv.as S g (λ_ _ _ _ _=>rfl) (Nat.zero_le _),rfl,k2.symm,E,by lia,by lia,by rw [z1]; rw [z2] at w3; exact w3⟩
    ·have:=congrArg Ms.ht e5
     rw [fmH] at this
     have:=X.ky.ht
     lia
   ·have s1 : m1.sg + f.sg = mc.sg:=by rw [T1.ky.sg,C.ky.sg,zaj]; lia
    obtain ⟨n2,ps2,h2,m2,d2,T2,u3,u4,u5⟩:=zgv d1.dd.sh d1.dd.gd T1 (E.pre d1.dd.pre) w3 (by lia) (by lia) (by lia) (by have:=d1.dd.len; lia)
    refine ⟨n2,ps2,h2,m2,f2,u,v++y2,Dn.seq' S g d1 d2 (λhh hh1 pp S' _ pr ev=>wf_3 S' T.n1 (ybp pr ep) T1.n1 ev) (by lia),by rw [zah],lu,T2,?_,?_,r3⟩
    ·lia
    ·lia
  ·rcases g.kind T with ⟨e1,e2,e3,e4,e5⟩ | ⟨_,_,mx,my,_,_,_,_,_,_,_,_,_,X,Y,_,e5,_⟩
   ·obtain ⟨z1,z2⟩:=zcF T e3
    exact .inl ⟨e2,by rw [z1]; exact T.ky.sg,Dn.val S g λhh pp S' _ pr=>wf_1 S' T.n1 (ybp pr e1)⟩
   ·have:=congrArg Ms.ht e5
    rw [fmH] at this
    have:=X.ky.ht
    lia
theorem Good.ends {ps : List Pc} (g : Good ps) : ∀ (k n : Nat) {m f l : Ms} {x : Str},n <= k -> Tx ps n m x f l ->
  (∃ w u : Str,1 <= m.fl /\ ps[m.fl - 1]? = some (.leaf w) /\ x = w++u /\ w.length = f.sg) /\ (∃ w u : Str,1 <= m.ll /\ ps[m.ll - 1]? = some (.leaf w) /\ x = u++w /\ w.length = l.sg)
 | 0,n,m,f,l,x,hn,T=>absurd T.n1 (by lia)
 | k + 1,n,m,f,l,x,hn,T=>by
  rcases g.kind T with ⟨e1,e2,e3,e4,e5⟩ | ⟨a,b,ma,mb,y,z,fa,la,fb,lb,e1,e2,e3,A,B,rfl,e5,e6⟩
  ·obtain ⟨z1,z2⟩:=zcF T e3
   have em : ("" : Str)++x = x:=zas (by rw [zax]; rfl)
   have em2 : x++("" : Str) = x:=zas (by rw [zax]; simp; rfl)
   have hf : m.fl = n:=by rw [e3]; rfl
   have hl : m.ll = n:=by rw [e3]; rfl
   have hx:=T.ky.sg
   refine ⟨⟨x, "",by rw [hf]; exact T.n1,by rw [hf]; exact e1,em2.symm,by rw [z1]; exact hx.symm⟩,⟨x, "",by rw [hl]; exact T.n1,by rw [hl]; exact e1,em.symm,by rw [z2]; exact hx.symm⟩⟩
  ·have q1:=g.ends k a (by lia) A
   have q2:=g.ends k b (by lia) B
   obtain ⟨⟨w,u,a1,a2,rfl,a4⟩,_⟩:=q1
   obtain ⟨_,⟨w2,u2,b1,b2,rfl,b4⟩⟩:=q2
   have f1:=T.ky.fl
   have l1:=T.ky.ll
   have hf : m.fl = ma.fl:=by rw [e5]; rfl
   have hl : m.ll = mb.ll:=by rw [e5]; rfl
   rw [hf] at f1
   rw [hl] at l1
   have z5:=f1.symm.trans A.ky.fl; cases z5
   have z6:=l1.symm.trans B.ky.ll; cases z6
   rw [hf,hl]
   exact ⟨⟨w,u++(u2++w2),a1,a2,by rw [zah],a4⟩,⟨w2,w++u++u2,b1,b2,by rw [zah (w++u)],b4⟩⟩
theorem zgx {a b c d : Str} (e : a++b = c++d) (h : a.length = c.length) : a = c /\ b = d:=by
 have:=congrArg (λz : Str=>z.cps.toList) e
 simp only [zax] at this
 obtain ⟨h1,h2⟩:=List.append_inj this (by rw [<- zaC,<- zaC]; exact h)
 exact ⟨zas h1,zas h2⟩
theorem ziT {a b c d : Str} (e : a++b = c++d) (h : b.length = d.length) : a = c /\ b = d:=by
 refine zgx e ?_
 have:=congrArg Str.length e
 rw [zaj,zaj] at this
 lia
theorem zj4 (S : ShelfAt h p ps) (ea : (meas ps)[a]? = some ma) (eb : (meas ps)[b]? = some mb) (el : (meas ps)[ma.ll]? = some la) (ef : (meas ps)[mb.fl]? = some fb) :
  ycE [.ref p,.int a,.int b] h = .ok (.bl (decide (8 < la.sg + fb.sg))) h:=by
 have e1:=yf0 S ea
 have e2:=zgs S eb
 have e3:=zal S el
 have e4:=zal S ef
 have : decide ((8 : Int) < (la.sg : Int) + fb.sg) = decide (8 < la.sg + fb.sg):=by apply decide_eq_decide.mpr; lia
 simp [ycE,S.ob,e1,e2,e3,e4,this]
theorem ziU {v:Str} (hw : w.length + v.length <= 100) (h : AH) : fAdd (.str w) (.str v) h = .ok (.str (w++v)) h:=by
 have : w.length + v.length <= sizeLine:=Nat.le_trans hw (by decide)
 simp [fAdd,this]
theorem wd_1 {h3:AH} {n k:Int} {v:Str} (S : ShelfAt h p ps) (ea : (meas ps)[a]? = some ma) (eb : (meas ps)[b]? = some mb) (l1 : 1 <= ma.ll) (f1 : 1 <= mb.fl) (el : ps[ma.ll - 1]? = some (.leaf w)) (ef : ps[mb.fl - 1]? = some (.leaf v)) (hw : w.length + v.length <= 100) (e1 : yaX [.ref p,.str (w++v)] h = .ok (.int L) h1) (e2 : ybi 90 [.ref p,.int a,.int L] h1 = .ok (.int n) h2) (e3 : yaD 90 [.ref p,.int b] h2 = .ok (.int k) h3) :
  ycq [.ref p,.int a,.int b] h = if k = 0 then .ok (.int n) h3 else ybb 90 [.ref p,.int n,.int k] h3:=by
 have q1:=yf0 S ea
 have q2:=zgs S eb
 have q3:=zcE S l1 el
 have q4:=zcE S f1 ef
 have ad:=ziU hw h
 unfold ycq
 generalize ybi 90 = WL at *
 generalize yaD 90 = WF at *
 generalize hF : ybb 90 = LK at *
 by_cases z : k = 0
 ·subst z
  have zz : fEq (.int 0) (.int 0) h3 = .ok (.bl true) h3:=by simp
  simp [S.ob,q1,q2,q3,q4,i1L,ad,e1,e2,e3,zz,-fIx,-fEq,-fAdd]
 ·have zz : fEq (.int k) (.int 0) h3 = .ok (.bl false) h3:=by simp [z]
  rw [if_neg z]
  generalize hR : LK [.ref p,.int n,.int k] h3 = R
  simp [S.ob,q1,q2,q3,q4,i1L,ad,e1,e2,e3,zz,hR,-fIx,-fEq,-fAdd]
  cases R<;>rfl
theorem zhT {v:Str} (h1 : 1 <= w.length) (h2 : w.length + v.length <= 8) (pw : yaA w = true) (pv : yaA v = true) : ybZ (w++v) = true:=by
 unfold ybZ
 rw [zaI,zaj,pw,pv]
 simp; lia
theorem ziV (S : ShelfAt h p ps) (g : Good ps) (A : Tx ps a ma x fa la) (B : Tx ps b mb y fb lb) (hc : ¬ 8 < la.sg + fb.sg) (hm : ma.sg + mb.sg <= 1000000000000000000) (hz : ps.length < 15000000) :
  ∃ (n : Nat) (ps' : List Pc) (h' : AH) (m f l : Ms),Dn (ycq [.ref p,.int a,.int b]) p h h' ps ps' (7 * (max ma.ht mb.ht).toNat + 2) n /\ Tx ps' n m (x++y) f l /\ m.ht <= max ma.ht mb.ht + 1:=by
 obtain ⟨_,w,u,l1,el,ex,lw⟩:=g.ends a a (Nat.le_refl _) A
 obtain ⟨⟨v,t,f1,ef,ey,lv⟩,_⟩:=g.ends b b (Nat.le_refl _) B
 have a0:=A.ky.ht
 have b0:=B.ky.ht
 have ha:=ht82 g A
 have hb:=ht82 g B
 have px : yaA x = true:=A.ky.pl
 have py : yaA y = true:=B.ky.pl
 have pw : yaA w = true:=by rw [ex,zaI,Bool.and_eq_true] at px; exact px.2
 have pv : yaA v = true:=by rw [ey,zaI,Bool.and_eq_true] at py; exact py.1
 have la1:=A.ky.l1
 have fb1:=B.ky.f1
 have sx:=A.ky.sg
 have sy:=B.ky.sg
 have lx : x.length = u.length + w.length:=by rw [ex,zaj]
 have ly : y.length = v.length + t.length:=by rw [ey,zaj]
 have lwv : (w++v).length = w.length + v.length:=zaj w v
 obtain ⟨L,ps1,h1,d1,N⟩:=zgt S g (zhT (w:=w) (v:=v) (by lia) (by lia) pw pv) (by lia)
 have z1:=d1.dd.len
 obtain ⟨n2,ps2,h2,m2,f2,u2,v2,d2,ex2,lv2,T2,k1,k2⟩:=zgw 90 d1.dd.sh d1.dd.gd (A.pre d1.dd.pre) N (by lia) (by lia) (by lia) (by lia)
 have z2:=d2.dd.len
 obtain ⟨rfl,rfl⟩ : u = u2 /\ w = v2:=ziT (ex.symm.trans ex2) (by lia)
 have s2 : m2.sg = u.length + (w.length + v.length):=by rw [T2.ky.sg,zaj,zaj]
 have p12:=d1.dd.pre.trans d2.dd.pre
 have lm : (lfMs (w++v) L).sg = w.length + v.length:=zaj w v
 have tb : ∀ q : Int,0 <= q -> q <= max ma.ht mb.ht -> q.toNat <= (max ma.ht mb.ht).toNat:=λq _ _=>by lia
 rcases zfj 90 d2.dd.sh d2.dd.gd (B.pre p12) (by lia) (by lia) with ⟨r1,r2,d3⟩ | ⟨r1,n3,ps3,h3,m3,f3,u3,v3,d3,ey3,lu3,T3,r2,r3,r4⟩
 ·have t0 : t.length = 0:=by lia
  have te : t = "" := zas (by rw [zaC] at t0; rw [List.length_eq_zero_iff.mp t0]; rfl)
  have rd : u++(w++v) = x++y:=by
   rw [ex,ey,te,zah]
   congr 2
  rw [rd] at T2
  refine ⟨n2,ps2,h2,m2,f2,_,⟨?_,d1.dd.trans d2.dd (by lia),λh4 ps4 S4 g4 p4=>?_⟩,T2,by lia⟩
  ·rw [wd_1 S A.ms B.ms l1 f1 el ef (by lia) d1.ev d2.ev d3.ev]; rfl
  ·have q1:=d1.re h4 ps4 S4 g4 (d2.dd.pre.trans p4)
   have q2:=d2.re h4 ps4 S4 g4 p4
   have q3:=d3.re h4 ps4 S4 g4 p4
   rw [wd_1 S4 (zac (p12.trans p4) A.ms) (zac (p12.trans p4) B.ms) l1 f1 (ybp (p12.trans p4) el) (ybp (p12.trans p4) ef) (by lia) q1 q2 q3]; rfl
 ·obtain ⟨rfl,rfl⟩ : v = u3 /\ t = v3:=zgx (ey.symm.trans ey3) (by lia)
  have z3:=d3.dd.len
  have s3 : m3.sg = t.length:=T3.ky.sg
  have m30:=T3.ky.ht
  obtain ⟨n4,ps4,h4,m4,d4,T4,r5,r6⟩:=zb7 90 (max ma.ht mb.ht).toNat d3.dd.sh d3.dd.gd (T2.pre d3.dd.pre) T3 (by lia) (by lia) (by lia) (by lia) (by lia)
  have rd : (u++(w++v))++t = x++y:=by rw [ex,ey,zah,zah,zah]
  rw [rd] at T4
  have n3z : ¬ (n3 : Int) = 0:=by have:=T3.n1; lia
  have p123:=p12.trans d3.dd.pre
  refine ⟨n4,ps4,h4,m4,f2,lb,⟨?_,((d1.dd.trans d2.dd (Nat.le_refl _)).trans d3.dd (Nat.le_refl _)).trans d4.dd (by lia),λh5 ps5 S5 g5 p5=>?_⟩,T4,by lia⟩
  ·rw [wd_1 S A.ms B.ms l1 f1 el ef (by lia) d1.ev d2.ev d3.ev,if_neg n3z]; exact d4.ev
  ·have p45:=d4.dd.pre.trans p5
   have q1:=d1.re h5 ps5 S5 g5 (d2.dd.pre.trans (d3.dd.pre.trans p45))
   have q2:=d2.re h5 ps5 S5 g5 (d3.dd.pre.trans p45)
   have q3:=d3.re h5 ps5 S5 g5 p45
   have q4:=d4.re h5 ps5 S5 g5 p5
   have pa:=p123.trans p45
   rw [wd_1 S5 (zac pa A.ms) (zac pa B.ms) l1 f1 (ybp pa el) (ybp pa ef) (by lia) q1 q2 q3,if_neg n3z]; exact q4
def TxZ (ps : List Pc) (n : Nat) (y : Str) : Prop:=(n = 0 /\ y = "") \/ ∃ m f l,Tx ps n m y f l
theorem TxZ.pre {ps ps' : List Pc} {n : Nat} {y : Str} (t : TxZ ps n y) (h : ps <+: ps') : TxZ ps' n y:=by
 rcases t with t | ⟨m,f,l,t⟩
 ·exact .inl t
 ·exact .inr ⟨m,f,l,t.pre h⟩
theorem zbz (ps : List Pc) : (meas ps)[0]? = some ms0:=by
 obtain ⟨r,e,_⟩:=zbs ycU ps [ms0]
 rw [meas,e]; rfl
def htOf (ps : List Pc) (n : Nat) : Int:=((meas ps).getD n ms0).ht
theorem yfb {m:Ms} (e : (meas ps)[n]? = some m) : htOf ps n = m.ht:=by unfold htOf; rw [zbf e]
theorem zj5 (ps : List Pc) : htOf ps 0 = -1:=yfb (zbz ps)
theorem zbm {i : Int} (hi : i <= 1000000000000000000) (h : AH) : yaP [.int i] h = .ok .non h:=by
 have : ¬ (1000000000000000000 : Int) < i:=by lia
 simp [yaP,this]
theorem jn_0 (S : ShelfAt h p ps) (eb : (meas ps)[b]? = some mb) (hm : mb.sg <= 1000000000000000000) : yaF [.ref p,.int (0 : Nat),.int b] h = .ok (.int b) h:=by
 have e1:=zal S (zbz ps)
 have e2:=zal S eb
 have z : ms0.sg = 0:=rfl
 rw [z] at e1
 have e1' : yaB [.ref p,.int 0] h = .ok (.int 0) h:=e1
 have ck:=zbm (i:=(0 : Int) + mb.sg) (by lia) h
 have zz : fEq (.int 0) (.int 0) h = .ok (.bl true) h:=by simp
 have ad : fAdd (.int 0) (.int mb.sg) h = .ok (.int (0 + mb.sg)) h:=rfl
 simp [yaF,S.ob,e1',e2,ad,ck,zz,-fEq,-fAdd,-Int.zero_add]
theorem jn_1 (S : ShelfAt h p ps) (a1 : 1 <= a) (ea : (meas ps)[a]? = some ma) (hm : ma.sg <= 1000000000000000000) : yaF [.ref p,.int a,.int (0 : Nat)] h = .ok (.int a) h:=by
 have e1:=zal S (zbz ps)
 have e2:=zal S ea
 have z : ms0.sg = 0:=rfl
 rw [z] at e1
 have e1' : yaB [.ref p,.int 0] h = .ok (.int 0) h:=e1
 have ck:=zbm (i:=(ma.sg : Int) + 0) (by lia) h
 have zz : fEq (.int 0) (.int 0) h = .ok (.bl true) h:=by simp
 have z2 : fEq (.int a) (.int 0) h = .ok (.bl false) h:=by
  have : ¬ a = 0:=by lia
  simp [this]
 have ad : fAdd (.int ma.sg) (.int 0) h = .ok (.int (ma.sg + 0)) h:=rfl
 simp [yaF,S.ob,e1',e2,ad,ck,zz,z2,-fEq,-fAdd,-Int.add_zero]
theorem jn_2 (S : ShelfAt h p ps) (a1 : 1 <= a) (b1 : 1 <= b) (ea : (meas ps)[a]? = some ma) (eb : (meas ps)[b]? = some mb) (el : (meas ps)[ma.ll]? = some la) (ef : (meas ps)[mb.fl]? = some fb) (hm : ma.sg + mb.sg <= 1000000000000000000) :
  yaF [.ref p,.int a,.int b] h = if 8 < la.sg + fb.sg then ybb 90 [.ref p,.int a,.int b] h else ycq [.ref p,.int a,.int b] h:=by
 have e1:=zal S ea
 have e2:=zal S eb
 have cl:=zj4 S ea eb el ef
 have ck:=zbm (i:=(ma.sg : Int) + mb.sg) (by lia) h
 have z1 : fEq (.int a) (.int 0) h = .ok (.bl false) h:=by
  have : ¬ a = 0:=by lia
  simp [this]
 have z2 : fEq (.int b) (.int 0) h = .ok (.bl false) h:=by
  have : ¬ b = 0:=by lia
  simp [this]
 have ad : fAdd (.int ma.sg) (.int mb.sg) h = .ok (.int (ma.sg + mb.sg)) h:=rfl
 unfold yaF
 generalize ybb 90 = LK at *
 by_cases q : 8 < la.sg + fb.sg
 ·rw [if_pos q]
  generalize hR : LK [.ref p,.int a,.int b] h = R
  simp [S.ob,e1,e2,ad,ck,z1,z2,cl,q,hR,-fEq,-fAdd]
  cases R<;>rfl
 ·rw [if_neg q]
  generalize hR : ycq [.ref p,.int a,.int b] h = R
  simp [S.ob,e1,e2,ad,ck,z1,z2,cl,q,hR,-fEq,-fAdd]
  cases R<;>rfl
theorem TxZ.meas {ps : List Pc} {n : Nat} {y : Str} (t : TxZ ps n y) : ∃ m,(meas ps)[n]? = some m /\ m.sg = y.length:=by
 rcases t with ⟨rfl,rfl⟩ | ⟨m,f,l,T⟩
 ·exact ⟨ms0,zbz ps,rfl⟩
 ·exact ⟨m,T.ms,T.ky.sg⟩
theorem zc8 (S : ShelfAt h p ps) (g : Good ps) (A : TxZ ps a x) (B : TxZ ps b y) (hm : x.length + y.length <= 1000000000000000000) (hz : ps.length < 15000000) :
  ∃ (n : Nat) (ps' : List Pc) (h' : AH),Dn (yaF [.ref p,.int a,.int b]) p h h' ps ps' (16 * (max (htOf ps a) (htOf ps b) + 1).toNat) n /\ TxZ ps' n (x++y):=by
 rcases A with ⟨rfl,rfl⟩ | ⟨ma,fa,la,A⟩
 ·obtain ⟨mb,eb,sb⟩:=B.meas
  have em : ("" : Str)++y = y:=zas (by rw [zax]; rfl)
  have dv : Dn (yaF [.ref p,.int (0 : Nat),.int b]) p h h ps ps 0 b:=Dn.val S g λhh pp S' _ pr=>jn_0 S' (zac pr eb) (by rw [sb]; lia)
  exact ⟨b,ps,h,dv.as S g (λ_ _ _ _ _=>rfl) (Nat.zero_le _),by rw [em]; exact B⟩
 ·rcases B with ⟨rfl,rfl⟩ | ⟨mb,fb,lb,B⟩
  ·have em : x++("" : Str) = x:=zas (by rw [zax]; simp; rfl)
   have dv : Dn (yaF [.ref p,.int a,.int (0 : Nat)]) p h h ps ps 0 a:=Dn.val S g λhh pp S' _ pr=>jn_1 S' A.n1 (zac pr A.ms) A.ky.most
   exact ⟨a,ps,h,dv.as S g (λ_ _ _ _ _=>rfl) (Nat.zero_le _),by rw [em]; exact .inr ⟨_,_,_,A⟩⟩
  ·have sa:=A.ky.sg
   have sb:=B.ky.sg
   have a0:=A.ky.ht
   have b0:=B.ky.ht
   have ha:=ht82 g A
   have hb:=ht82 g B
   rw [yfb A.ms,yfb B.ms]
   by_cases q : 8 < la.sg + fb.sg
   ·obtain ⟨n,ps',h',m,d,T,_⟩:=zb7 90 (max ma.ht mb.ht).toNat S g A B q (by lia) (by lia) (by lia) (by lia)
    exact ⟨n,ps',h',d.as S g (λhh pp S' _ pr=>by rw [jn_2 S' A.n1 B.n1 (zac pr A.ms) (zac pr B.ms) (zac pr A.ky.ll) (zac pr B.ky.fl) (by lia),if_pos q]) (by lia),.inr ⟨_,_,_,T⟩⟩
   ·obtain ⟨n,ps',h',m,f,l,d,T,_⟩:=ziV S g A B q (by lia) hz
    exact ⟨n,ps',h',d.as S g (λhh pp S' _ pr=>by rw [jn_2 S' A.n1 B.n1 (zac pr A.ms) (zac pr B.ms) (zac pr A.ky.ll) (zac pr B.ky.fl) (by lia),if_neg q]) (by lia),.inr ⟨_,_,_,T⟩⟩
theorem zj6 (be : b <= e) : (cutS y (some (b : Int)) (some (e : Int))).cps.toList = (y.cps.toList.drop b).take (e - b):=by
 unfold cutS
 rw [HT.sIx_nat,HT.sIx_nat]
 generalize y.cps.toList = l
 show (l.drop (min b l.length)).take (min e l.length - min b l.length) = _
 apply List.ext_getElem?
 intro i
 rw [List.getElem?_take,List.getElem?_take,List.getElem?_drop,List.getElem?_drop]
 by_cases q : b <= l.length
 ·rw [Nat.min_eq_left q]
  by_cases c1 : i < e - b
  ·rw [if_pos c1]
   by_cases c2 : i < min e l.length - b
   ·rw [if_pos c2]
   ·rw [if_neg c2,List.getElem?_eq_none (by lia)]
  ·rw [if_neg c1,if_neg (by lia)]
 ·rw [if_neg (by lia),List.getElem?_eq_none (l:=l) (i:=b + i) (by lia)]
  split<;>rfl
def cat : List Str -> Str
 | [] => ""
 | w :: ws=>w++cat ws
theorem zdW : ∀ as bs : List Str,cat (as++bs) = cat as++cat bs
 | [],bs=>(zas (by rw [zax]; rfl) : cat bs = ("" : Str)++cat bs)
 | w :: as,bs=>by
  show w++cat (as++bs) = (w++cat as)++cat bs
  rw [zdW as bs,zah]
theorem zgy (w : Str) : cat [w] = w:=zas (by show (w++("" : Str)).cps.toList = _; rw [zax]; simp; rfl)
def LS (ps : List Pc) (ns : List Nat) (ws : List Str) : Prop:=ns.length = ws.length /\ ∀ (i n : Nat) (w : Str),ns[i]? = some n -> ws[i]? = some w -> Tx ps n (lfMs w n) w (lfMs w n) (lfMs w n)
theorem LS.pre {ps ps' : List Pc} {ns : List Nat} {ws : List Str} (s : LS ps ns ws) (h : ps <+: ps') : LS ps' ns ws:=⟨s.1,λi n w a b=>(s.2 i n w a b).pre h⟩
theorem LS.take {ps : List Pc} {ns : List Nat} {ws : List Str} (s : LS ps ns ws) (k : Nat) : LS ps (ns.take k) (ws.take k):=by
 refine ⟨by simp [s.1],λi n w a b=>?_⟩
 rw [List.getElem?_take] at a b
 by_cases q : i < k
 ·rw [if_pos q] at a b; exact s.2 i n w a b
 ·rw [if_neg q] at a; cases a
theorem LS.drop {ps : List Pc} {ns : List Nat} {ws : List Str} (s : LS ps ns ws) (k : Nat) : LS ps (ns.drop k) (ws.drop k):=by
 refine ⟨by simp [s.1],λi n w a b=>?_⟩
 rw [List.getElem?_drop] at a b
 exact s.2 _ n w a b
abbrev ivs (ns : List Nat) : List AV:=ns.map λn : Nat=>AV.int (n : Int)
theorem hv_1 : yby (d + 1) [.ref p,.fl (ivs [n])] h = .ok (.int n) h:=by
 have ix : fIx (.fl [.int (n : Int)]) (.int 0) h = .ok (.int n) h:=rfl
 simp [yby,yeD,ix,-fIx]
theorem zhU (l : List α) {k:Nat} (hk : k <= l.length) : cutA l none (some (k : Int)) = l.take k:=by
 unfold cutA
 rw [HT.sIx_nat,HT.sIx_none,Nat.min_eq_left hk]; simp
theorem zhV (l : List α) {k:Nat} (hk : k <= l.length) : cutA l (some (k : Int)) none = l.drop k:=by
 unfold cutA
 rw [HT.sIx_nat,HT.sIx_none,Nat.min_eq_left hk,List.take_of_length_le (by simp)]
theorem hv_2 {ns:List Nat} {v1 v2:Int} (S : ShelfAt h p ps) (hl : 2 <= ns.length) (e1 : yby d [.ref p,.fl (ivs (ns.take (ns.length / 2)))] h = .ok (.int v1) h1) (e2 : yby d [.ref p,.fl (ivs (ns.drop (ns.length / 2)))] h1 = .ok (.int v2) h2) :
  yby (d + 1) [.ref p,.fl (ivs ns)] h = yaf [.ref p,.int v1,.int v2] h2:=by
 have hh : ns.length / 2 <= ns.length:=Nat.div_le_self _ _
 have ln : fLen [.fl (ivs ns)] h = .ok (.int ns.length) h:=by simp [fLen]
 have q : fEq (.int ns.length) (.int 1) h = .ok (.bl false) h:=by
  have : ¬ (ns.length : Int) = 1:=by lia
  simp [this]
 have dv : fDiv (.int ns.length) (.int 2) h = .ok (.int (ns.length / 2 : Nat)) h:=rfl
 have c1 : ydo (.fl (ivs ns)) none (some (ns.length / 2 : Nat)) h = .ok (.fl (ivs (ns.take (ns.length / 2)))) h:=by
  have:=zhU (ivs ns) (k:=ns.length / 2) (by simpa using hh)
  simp only [ydo,this,ivs,List.map_take]
 have c2 : ∀ h,ydo (.fl (ivs ns)) (some (ns.length / 2 : Nat)) none h = .ok (.fl (ivs (ns.drop (ns.length / 2)))) h:=λh=>by
  have:=zhV (ivs ns) (k:=ns.length / 2) (by simpa using hh)
  simp only [ydo,this,ivs,List.map_drop]
 generalize hF : yaf [.ref p,.int v1,.int v2] h2 = R
 unfold yby yeD
 generalize ivs ns = Z at *
 generalize ivs (ns.take (ns.length / 2)) = Z1 at *
 generalize ivs (ns.drop (ns.length / 2)) = Z2 at *
 generalize ((ns.length / 2 : Nat) : Int) = M at *
 generalize (ns.length : Int) = K at *
 simp [S.ob,ln,q,dv,c1,c2,e1,e2,hF,-fLen,-fEq,-fDiv,-ydo]
 cases R<;>rfl
theorem pw1 {ha:Nat} (ab : b <= a + 1) (h1 : a <= 2 ^ ha) (h2 : hb = 0 \/ 2 ^ (hb - 1) < b) : hb <= ha + 1:=by
 rcases h2 with h2 | h2
 ·lia
 ·have : 2 ^ (hb - 1) <= 2 ^ ha:=by lia
  have:=(Nat.pow_le_pow_iff_right (a:=2) (by decide)).mp this
  lia
theorem pw2 {ha:Nat} (ab : a <= b) (h1 : b <= 2 ^ hb) (h2 : ha = 0 \/ 2 ^ (ha - 1) < a) : ha <= hb:=by
 rcases h2 with h2 | h2
 ·lia
 ·have : 2 ^ (ha - 1) < 2 ^ hb:=by lia
  have:=(Nat.pow_lt_pow_iff_right (a:=2) (by decide)).mp this
  lia
theorem pw3 {k:Nat} (h1 : k <= 2 * b) (h2 : 2 * b <= k + 1) (h3 : 2 <= k) (h4 : b <= 2 ^ hb) (h5 : hb = 0 \/ 2 ^ (hb - 1) < b) : k <= 2 ^ (hb + 1) /\ 2 ^ (hb + 1 - 1) < k:=by
 rw [Nat.pow_succ,Nat.add_sub_cancel]
 refine ⟨by lia,?_⟩
 rcases h5 with h5 | h5
 ·subst h5; simp; lia
 ·cases hb with
  | zero=>simp; lia
  | succ n =>
   rw [Nat.add_sub_cancel] at h5
   rw [Nat.pow_succ]; lia
theorem pw4 {k:Nat} (h : k <= 2 ^ (e + 1)) : k / 2 <= 2 ^ e /\ k - k / 2 <= 2 ^ e:=by rw [Nat.pow_succ] at h; lia
theorem zc9 {p : Nat} : ∀ (d e : Nat) {h : AH} {ps : List Pc} {ns : List Nat} {ws : List Str},ShelfAt h p ps -> Good ps -> LS ps ns ws -> 1 <= ns.length -> ns.length <= 2 ^ e -> e < d -> (∀ (i : Nat) (w : Str),ws[i]? = some w -> i + 1 < ws.length -> w.length = 8) -> ps.length + ns.length < 16000000 -> ns.length <= 10000 ->
  ∃ (n : Nat) (ps' : List Pc) (h' : AH) (m f l : Ms) (H : Nat),yby d [.ref p,.fl (ivs ns)] h = .ok (.int n) h' /\ Dd p h h' ps ps' (ns.length - 1) /\ Tx ps' n m (cat ws) f l /\ m.ht = H /\ ns.length <= 2 ^ H /\ (H = 0 \/ 2 ^ (H - 1) < ns.length) /\ ((∀ w ∈ ws,w.length = 8) -> l.sg = 8) /\ m.sg <= 8 * ns.length
 | 0,e,h,ps,ns,ws,S,g,LL,h1,h2,h3,h4,h5,h6=>absurd h3 (Nat.not_lt_zero _)
 | d + 1,e,h,ps,ns,ws,S,g,LL,h1,h2,h3,h4,h5,h6=>by
  by_cases q : ns.length = 1
  ·obtain ⟨n,rfl⟩ : ∃ n,ns = [n]:=List.length_eq_one_iff.mp q
   obtain ⟨w,rfl⟩ : ∃ w,ws = [w]:=List.length_eq_one_iff.mp (LL.1.symm.trans q)
   have T:=LL.2 0 n w rfl rfl
   refine ⟨n,ps,h,_,_,_,0,hv_1,{ Dd.refl S g with len:=by lia },by rw [zgy]; exact T,rfl,by simp,.inl rfl,λhw=>hw w (by simp),?_⟩
   have:=T.ky.f8
   simpa using this
  ·have hh : 2 <= ns.length:=by lia
   obtain ⟨e',rfl⟩ : ∃ e',e = e' + 1:=by
    cases e with
    | zero=>simp at h2; lia
    | succ e' => exact ⟨e',rfl⟩
   obtain ⟨w1,w2⟩:=pw4 h2
   have lt : (ns.take (ns.length / 2)).length = ns.length / 2:=by rw [List.length_take]; lia
   have ld : (ns.drop (ns.length / 2)).length = ns.length - ns.length / 2:=List.length_drop ..
   have lw:=LL.1
   obtain ⟨n1,ps1,hh1,m1,f1,l1,H1,a1,a2,a3,a4,a5,a6,a7,a8⟩:=zc9 d e' S g (LL.take (ns.length / 2)) (by lia) (by lia) (by lia) (λi w ew hi=>by
    rw [List.getElem?_take] at ew
    split at ew
    ·rw [List.length_take] at hi; exact h4 i w ew (by lia)
    ·cases ew) (by lia) (by lia)
   have z1:=a2.len
   obtain ⟨n2,ps2,hh2,m2,f2,l2,H2,b1,b2,b3,b4,b5,b6,b7,b8⟩:=zc9 d e' a2.sh a2.gd ((LL.drop (ns.length / 2)).pre a2.pre) (by lia) (by lia) (by lia) (λi w ew hi=>by
    rw [List.getElem?_drop] at ew
    rw [List.length_drop] at hi
    exact h4 _ w ew (by lia)) (by lia) (by lia)
   have z2:=b2.len
   rw [lt] at a5 a6 a8
   rw [ld] at b5 b6 b8
   have g1:=pw1 (a:=ns.length / 2) (b:=ns.length - ns.length / 2) (by lia) a5 b6
   have g2:=pw2 (a:=ns.length / 2) (b:=ns.length - ns.length / 2) (by lia) b5 a6
   have l8 : l1.sg = 8:=a7 λw hw=>by
    obtain ⟨i,hi,ei⟩:=List.getElem_of_mem hw
    have hi' := hi
    rw [List.length_take] at hi'
    have : (ws.take (ns.length / 2))[i]? = some w:=by rw [List.getElem?_eq_getElem hi,ei]
    rw [List.getElem?_take] at this
    split at this
    ·exact h4 i w this (by lia)
    ·cases this
   have f1' := b3.ky.f1
   obtain ⟨n3,ps3,hh3,d3,T3⟩:=zaA b2.sh b2.gd (a3.pre b2.pre) b3 (by lia) (by lia) (by lia) (by lia) (by lia)
   have rd : cat (ws.take (ns.length / 2))++cat (ws.drop (ns.length / 2)) = cat ws:=by rw [<- zdW,List.take_append_drop]
   rw [rd] at T3
   have hv:=hv_2 S hh a1 b1
   obtain ⟨y1,y2⟩:=pw3 (k:=ns.length) (b:=ns.length - ns.length / 2) (by lia) (by lia) hh b5 b6
   refine ⟨n3,ps3,hh3,_,f1,l2,H2 + 1,hv.trans d3.ev,(a2.trans b2 (Nat.le_refl _)).trans d3.dd (by lia),T3,by rw [fmH,a4,b4]; lia,y1,.inr y2,λhw=>b7 λw hm=>hw w (List.mem_of_mem_drop hm),by rw [fmS]; lia⟩
def ycV (x : Str) (k : Nat) : Str:=cutS x (some ((8 * k : Nat) : Int)) (some ((8 * k + 8 : Nat) : Int))
theorem zcr (x : Str) (k : Nat) : (ycV x k).cps.toList = (x.cps.toList.drop (8 * k)).take 8:=by
 unfold ycV
 rw [zj6 (by lia),show 8 * k + 8 - 8 * k = 8 by lia]
theorem zes (x : Str) (k : Nat) : (ycV x k).length = min 8 (x.length - 8 * k):=by
 rw [zaC,zcr,List.length_take,List.length_drop,<- zaC]
theorem zfJ (px : yaA x = true) (k : Nat) : yaA (ycV x k) = true:=by
 unfold yaA at *
 rw [zcr,List.all_eq_true]
 rw [List.all_eq_true] at px
 exact λc hc=>px c (List.mem_of_mem_drop (List.mem_of_mem_take hc))
theorem zdw (x : Str) : ∀ j,(cat ((List.range j).map (ycV x))).cps.toList = x.cps.toList.take (8 * j)
 | 0=>rfl
 | j + 1=>by
  rw [List.range_succ,List.map_append,zdW,zax,zdw x j]
  show _++(cat [ycV x j]).cps.toList = _
  rw [zgy,zcr,show 8 * (j + 1) = 8 * j + 8 by lia,List.take_add]
theorem zet {f:Nat -> α} {N:Nat} {w:α} (e : ((List.range N).map f)[i]? = some w) : i < N /\ w = f i:=by
 rw [List.getElem?_map] at e
 obtain ⟨j,ej,ew⟩:=Option.map_eq_some_iff.mp e
 have h1:=(List.getElem?_eq_some_iff.mp ej).1
 rw [List.length_range] at h1
 rw [List.getElem?_range h1] at ej
 cases ej
 exact ⟨h1,ew.symm⟩
theorem LS.snoc {ns:List Nat} {ws:List Str} (s : LS ps ns ws) (h : ps <+: ps') (T : Tx ps' n (lfMs w n) w (lfMs w n) (lfMs w n)) : LS ps' (ns++[n]) (ws++[w]):=by
 have l:=s.1
 refine ⟨by simp [s.1],λi a b ea eb=>?_⟩
 by_cases q : i < ns.length
 ·rw [List.getElem?_append_left q] at ea
  rw [List.getElem?_append_left (by lia)] at eb
  exact (s.2 i a b ea eb).pre h
 ·have h1:=(List.getElem?_eq_some_iff.mp ea).1
  have hi : i = ns.length:=by simp at h1; lia
  subst hi
  rw [List.getElem?_append_right (by lia)] at ea eb
  simp at ea
  rw [show ns.length - ws.length = 0 by lia] at eb
  simp at eb
  subst ea eb
  exact T
theorem zfK (S : ShelfAt h p ps) (g : Good ps) (px : yaA x = true) (N : Nat) (hN : 8 * N < x.length + 8) (hx : x.length <= 10000) (hz : ps.length + N < 16000000) (all : List AV) (js : List Nat) (en : En) (hj : js.map (λj=>(en[j]?).join) = [some (.ref p),some (.str x)]) :
  ∃ (ns : List Nat) (ps' : List Pc) (h' : AH),ybj js en none all sYes (yah 0 yaX (sVar 1) (yaa (sCut (sVar 2) (some (sVar 0)) (some (sOp2 fAdd (sVar 0) (sLit (.int 8))))) sNil)) ((List.range N).map λm : Nat=>AV.int (0 + (m : Int) * 8)) [] h = .ok (ivs ns) h' /\ Dd p h h' ps ps' N /\ LS ps' ns ((List.range N).map (ycV x)):=by
 obtain ⟨zs,h',c1,ns,ps',e1,D,LL⟩:=yfV (js:=js) (en:=en) (all:=all) (e:=yah 0 yaX (sVar 1) (yaa (sCut (sVar 2) (some (sVar 0)) (some (sOp2 fAdd (sVar 0) (sLit (.int 8))))) sNil)) (xs:=(List.range N).map λm : Nat=>AV.int (0 + (m : Int) * 8)) (h:=h)
  (λj ys h' => ∃ (ns : List Nat) (ps' : List Pc),ys = ivs ns /\ Dd p h h' ps ps' j /\ LS ps' ns ((List.range j).map (ycV x))) ⟨[],ps,rfl,Dd.refl S g,rfl,λi n w a _=>by simp at a⟩ (by
   rintro j v ys h' hv ⟨ns,ps',rfl,D,LL⟩
   obtain ⟨jN,rfl⟩:=zet hv
   have z:=D.len
   have lc:=zes x j
   have sc : ybZ (ycV x j) = true:=by
    unfold ybZ
    rw [zfJ px j,lc]
    simp; lia
   obtain ⟨n,ps2,h2,d2,T⟩:=zgt D.sh D.gd sc (by lia)
   have i1 : (0 : Int) + (j : Int) * 8 = ((8 * j : Nat) : Int):=by lia
   have i2 : ((8 * j : Nat) : Int) + 8 = ((8 * j + 8 : Nat) : Int):=by lia
   have ct : ydo (.str x) (some ((8 * j : Nat) : Int)) (some ((8 * j + 8 : Nat) : Int)) h' = .ok (.str (ycV x j)) h' := rfl
   have ev:=d2.ev
   rw [hj]
   have e : yah 0 yaX (sVar 1) (yaa (sCut (sVar 2) (some (sVar 0)) (some (sOp2 fAdd (sVar 0) (sLit (.int 8))))) sNil) [some (.int (0 + (j : Int) * 8)),some (.ref p),some (.str x)] h' = .ok (.int n) h2:=by
    rw [i1]
    have ad : fAdd (.int ((8 * j : Nat) : Int)) (.int 8) h' = .ok (.int ((8 * j + 8 : Nat) : Int)) h' := by rw [<- i2]; rfl
    generalize ((8 * j : Nat) : Int) = B1 at *
    generalize ((8 * j + 8 : Nat) : Int) = B2 at *
    simp [D.sh.ob,ad,ct,ev,-fAdd,-ydo]
   rw [e]
   refine ⟨ns++[n],ps2,by simp [ivs],D.trans d2.dd (by lia),?_⟩
   rw [List.range_succ,List.map_append]
   exact LL.snoc d2.dd.pre T) (by simp; exact Nat.le_trans (show N <= 10000 by lia) (by decide))
 rw [List.length_map,List.length_range] at D LL
 exact ⟨ns,ps',h',by rw [c1,e1],D,LL⟩
theorem zj7 (S : ShelfAt h p ps) (g : Good ps) (px : yaA x = true) (hx : x.length <= 10000) (hz : ps.length + 2 * x.length < 16000000) :
  ∃ (n : Nat) (ps' : List Pc) (h' : AH),ybL [.ref p,.str x] h = .ok (.int n) h' /\ Dd p h h' ps ps' (2 * x.length) /\ TxZ ps' n x:=by
 have sl : x.length <= sizeLine:=Nat.le_trans hx (by decide)
 have fp:=zbL x h sl
 rw [px] at fp
 have c1 : ¬ (10000 : Int) < x.length:=by lia
 by_cases q : x.length = 0
 ·have xe : x = "" := zas (by rw [zaC] at q; rw [List.length_eq_zero_iff.mp q]; rfl)
  subst xe
  refine ⟨0,ps,h,?_,{ Dd.refl S g with len:=by lia },.inl ⟨rfl,rfl⟩⟩
  simp [ybL,fp,c1]
 ·obtain ⟨N,eN⟩ : ∃ N,N = (x.length - 1) / 8 + 1:=⟨_,rfl⟩
  obtain ⟨ns,ps1,h1,e1,D1,LL⟩:=zfK S g px N (by lia) hx (by lia) ((List.range N).map λm : Nat=>AV.int (0 + (m : Int) * 8)) [0,1] [some (.ref p),some (.str x),none] rfl
  have z1:=D1.len
  have ln : ns.length = N:=by rw [LL.1]; simp
  obtain ⟨n,ps2,h2,m,f,l,H,b1,b2,b3,_⟩:=zc9 (p:=p) 20 11 D1.sh D1.gd LL (by lia) (by rw [ln]; have : (2 : Nat) ^ 11 = 2048:=rfl; lia) (by decide) (λi w ew hi=>by
   obtain ⟨iN,rfl⟩:=zet ew
   rw [List.length_map,List.length_range] at hi
   rw [zes]; lia) (by lia) (by lia)
  have rd : cat ((List.range N).map (ycV x)) = x:=zas (by rw [zdw,List.take_of_length_le (by rw [<- zaC]; lia)])
  rw [rd] at b3
  have ir : ycw (sLit (.int 0)) (yal fLen (yaa (sVar 1) sNil)) (sLit (.int 8)) [some (.ref p),some (.str x),none] h = .ok ((List.range N).map (λm : Nat=>AV.int (0 + (m : Int) * 8)),none) h:=by
   have r1 : ((if (0 : Int) < x.length then ((x.length : Int) - 0 - 1) / 8 + 1 else 0 : Int)).toNat = N:=by
    rw [if_pos (by lia)]; lia
   have r2 : (0 : Int).natAbs < 2 ^ 40 /\ (x.length : Int).natAbs < 2 ^ 40 /\ (0 : Int) < 8 /\ (8 : Int) < 2 ^ 20:=⟨by decide,by lia,by decide,by decide⟩
   show (if _ then _ else _) = _
   rw [if_pos r2,r1]
  have cp : ybk [0,1] (ycw (sLit (.int 0)) (yal fLen (yaa (sVar 1) sNil)) (sLit (.int 8))) sYes (yah 0 yaX (sVar 1) (yaa (sCut (sVar 2) (some (sVar 0)) (some (sOp2 fAdd (sVar 0) (sLit (.int 8))))) sNil)) [some (.ref p),some (.str x),none] h = .ok (.fl (ivs ns)) h1:=by
   simp only [ybk,ir,e1]
  have ne : fEq (.str x) (.str "") h = .ok (.bl false) h:=by
   have : ¬ x = Str.ofString "" := λz=>q (by rw [z]; rfl)
   simp [this]
  refine ⟨n,ps2,h2,?_,D1.trans b2 (by lia),.inr ⟨_,_,_,b3⟩⟩
  unfold ybL
  generalize ybk [0,1] (ycw (sLit (.int 0)) (yal fLen (yaa (sVar 1) sNil)) (sLit (.int 8))) sYes (yah 0 yaX (sVar 1) (yaa (sCut (sVar 2) (some (sVar 0)) (some (sOp2 fAdd (sVar 0) (sLit (.int 8))))) sNil)) = CP at *
  generalize yby 20 = HV at *
  simp [fp,c1,ne,cp,b1,-fEq]
def tkS (x : Str) (a : Nat) : Str:=⟨(x.cps.toList.take a).toArray⟩
def dpS (x : Str) (a : Nat) : Str:=⟨(x.cps.toList.drop a).toArray⟩
def cst (z : Int) : Nat:=8 * ((z + 1).toNat * (z + 2).toNat)
theorem zj8 {st:Nat} {n:Int} (m : Nat) (e : h[st]? = some (.lst [.int n])) (hm : 0 < m) (hm2 : m <= 10 ^ 50) : ∃ v : Nat,v < m /\ ya1 [.ref st,.int m] h = .ok (.int v) (h.set st (.lst [.int (n / m)])):=by
 have a0 : atI [AV.int n] 0 = some (.int n):=rfl
 have i0 : ixN 1 0 = some 0:=rfl
 have hm0 : (0 : Int) < m:=Int.ofNat_lt.mpr hm
 have hm3 : m < 1606938044258990275541962092341162602522202993782792835301376:=Nat.lt_of_le_of_lt hm2 (by decide)
 refine ⟨(n % m).toNat,?_,?_⟩
 ·have:=Int.emod_lt_of_pos n hm0; have:=Int.emod_nonneg n (show (m : Int) ≠ 0 by lia); lia
 ·rw [Int.toNat_of_nonneg (Int.emod_nonneg n (show (m : Int) ≠ 0 by lia))]
  simp [ya1,e,a0,hm0,hm,hm3,i0]
def yiC : Str := "abcdefghijklmnopqrstuvwxyzABCDEFGHIJKLMNOPQRSTUVWXYZ0123456789 !#$&'()*+,-./:;<=>?\x40[]^_{|}~"
def sg6 : List Str:=["ab", "ab" ++ "\n",(((yiC ++ "\n") ++ "\\") ++ "\"") ++ "`", "a"]
theorem zcG (z : Str) (n : Nat) : (repS z n).cps.toList = (List.replicate n z.cps.toList).flatten:=rfl
theorem zbq (z : Str) (a b : Nat) : repS z a++repS z b = repS z (a + b):=zas (by rw [zax,zcG,zcG,zcG,<- List.flatten_append,List.replicate_append_replicate])
theorem zbO (z : Str) : repS z 1 = z:=zas (by rw [zcG]; simp)
theorem zb8 (z : Str) : repS z 0 = "" := zas rfl
theorem zaU (z : Str) : ∀ n,(repS z n).length = z.length * n
 | 0=>by rw [zb8]; rfl
 | n + 1=>by rw [<- zbq,zaj,zaU z n,zbO,Nat.mul_succ]
theorem zgz : ∀ n,repS "" n = ""
 | 0=>zb8 _
 | n + 1=>by
  rw [<- zbq,zgz n,zbO]
  exact zas (by rw [zax]; rfl)
theorem db_0 : yaY (d + 1) [.ref p,.int n,.int (0 : Nat)] h = .ok (.int (0 : Nat)) h:=by
 have z : fEq (.int 0) (.int 0) h = .ok (.bl true) h:=by simp
 simp [yaY,ydR,z,-fEq]
theorem db_1 {k:Nat} {a:Int} (hk : ¬ k = 0) (hp : k % 2 = 0) (e1 : yaY d [.ref p,.int n,.int (k / 2 : Nat)] h = .ok (.int a) h1) : yaY (d + 1) [.ref p,.int n,.int k] h = yaF [.ref p,.int a,.int a] h1:=by
 have z : fEq (.int k) (.int 0) h = .ok (.bl false) h:=by simp [hk]
 have dv : fDiv (.int k) (.int 2) h = .ok (.int (k / 2 : Nat)) h:=rfl
 have md : ∀ h,fMod (.int k) (.int 2) h = .ok (.int 0) h:=λh=>by
  have : (k : Int) % 2 = 0:=by lia
  show Out.ok (AV.int ((k : Int) % 2)) h = _
  rw [this]
 have z2 : ∀ h,fEq (.int 0) (.int 0) h = .ok (.bl true) h:=λh=>by simp
 unfold yaY ydR
 generalize hF : yaF [.ref p,.int a,.int a] h1 = R
 generalize ((k / 2 : Nat) : Int) = K2 at *
 generalize yaY d = G at *
 simp [z,dv,e1,hF,-fEq,-fDiv,-fMod]
 cases R with
 | ok v h2=>simp [md,z2,-fEq,-fMod]
 | ex c h2=>rfl
 | bad=>rfl
theorem db_2 {k:Nat} {a:Int} (hk : ¬ k = 0) (hp : ¬ k % 2 = 0) (e1 : yaY d [.ref p,.int n,.int (k / 2 : Nat)] h = .ok (.int a) h1) : yaY (d + 1) [.ref p,.int n,.int k] h = (yaF [.ref p,.int a,.int a] h1).bind λv h2=>yaF [.ref p,v,.int n] h2:=by
 have z : fEq (.int k) (.int 0) h = .ok (.bl false) h:=by simp [hk]
 have dv : fDiv (.int k) (.int 2) h = .ok (.int (k / 2 : Nat)) h:=rfl
 have md : ∀ h,fMod (.int k) (.int 2) h = .ok (.int 1) h:=λh=>by
  have : (k : Int) % 2 = 1:=by lia
  show Out.ok (AV.int ((k : Int) % 2)) h = _
  rw [this]
 have z2 : ∀ h,fEq (.int 1) (.int 0) h = .ok (.bl false) h:=λh=>by simp
 unfold yaY ydR
 generalize hF : yaF [.ref p,.int a,.int a] h1 = R
 generalize ((k / 2 : Nat) : Int) = K2 at *
 generalize yaY d = G at *
 simp [z,dv,e1,hF,-fEq,-fDiv,-fMod]
 cases R with
 | ok v h2 =>
  simp [md,z2,-fEq,-fMod]
  cases yaF [.ref p,v,.int n] h2<;>rfl
 | ex c h2=>rfl
 | bad=>rfl
theorem zda (g : Good ps) (A : TxZ ps a x) (B : TxZ ps b y) : 16 * (max (htOf ps a) (htOf ps b) + 1).toNat <= 1400:=by
 have key : ∀ {n : Nat} {y : Str},TxZ ps n y -> htOf ps n <= 82:=λ{n y} t=>by
  rcases t with ⟨rfl,rfl⟩ | ⟨m,f,l,T⟩
  ·rw [zj5]; lia
  ·rw [yfb T.ms]; exact ht82 g T
 have:=key A
 have:=key B
 lia
theorem zeu {p : Nat} : ∀ (d e : Nat) {h : AH} {ps : List Pc} {n k : Nat} {x : Str},ShelfAt h p ps -> Good ps -> TxZ ps n x -> k < 2 ^ e -> e < d -> x.length * k <= 1000000000000000000 -> ps.length + 2800 * e < 15000000 ->
  ∃ (m : Nat) (ps' : List Pc) (h' : AH),Dn (yaY d [.ref p,.int n,.int k]) p h h' ps ps' (2800 * e) m /\ TxZ ps' m (repS x k)
 | 0,e,h,ps,n,k,x,S,g,T,hk,hd,hm,hz=>absurd hd (Nat.not_lt_zero _)
 | d + 1,e,h,ps,n,k,x,S,g,T,hk,hd,hm,hz=>by
  by_cases k0 : k = 0
  ·subst k0
   have dv : Dn (yaY (d + 1) [.ref p,.int n,.int (0 : Nat)]) p h h ps ps 0 0:=Dn.val S g λhh pp S' _ pr=>db_0
   exact ⟨0,ps,h,dv.as S g (λ_ _ _ _ _=>rfl) (Nat.zero_le _),.inl ⟨rfl,zb8 x⟩⟩
  ·obtain ⟨e',rfl⟩ : ∃ e',e = e' + 1:=by
    cases e with
    | zero=>simp at hk; lia
    | succ e' => exact ⟨e',rfl⟩
   rw [Nat.pow_succ] at hk
   have kk : x.length * (k / 2) + x.length * (k / 2) + x.length * (k % 2) = x.length * k:=by
    rw [<- Nat.mul_add,<- Nat.mul_add]
    congr 1
    lia
   obtain ⟨a,ps1,h1,d1,T1⟩:=zeu d e' (k:=k / 2) S g T (by lia) (by lia) (by lia) (by lia)
   have z1:=d1.dd.len
   have l1:=zaU x (k / 2)
   obtain ⟨b,ps2,h2,d2,T2⟩:=zc8 d1.dd.sh d1.dd.gd T1 T1 (by lia) (by lia)
   have w2:=zda d1.dd.gd T1 T1
   have z2:=d2.dd.len
   rw [zbq] at T2
   by_cases hp : k % 2 = 0
   ·have ek : k / 2 + k / 2 = k:=by lia
    rw [ek] at T2
    exact ⟨b,ps2,h2,Dn.seq' S g d1 d2 (λhh hh1 pp S' _ pr ev=>db_1 k0 hp ev) (by lia),T2⟩
   ·have l2:=zaU x (k / 2 + k / 2)
    rw [Nat.mul_add] at l2
    have km : x.length * (k % 2) = x.length:=by rw [show k % 2 = 1 by lia,Nat.mul_one]
    have p12:=d1.dd.pre.trans d2.dd.pre
    obtain ⟨c,ps3,h3,d3,T3⟩:=zc8 d2.dd.sh d2.dd.gd T2 (T.pre p12) (by lia) (by lia)
    have w3:=zda d2.dd.gd T2 (T.pre p12)
    have ek : repS x (k / 2 + k / 2)++x = repS x k:=by
     conv=>lhs; rhs; rw [<- zbO x]
     rw [zbq]
     congr 1
     lia
    rw [ek] at T3
    have d23:=Dn.seq (F:=λhh=>(yaF [.ref p,.int a,.int a] hh).bind λv h2=>yaF [.ref p,v,.int n] h2) (F2:=λv h2=>yaF [.ref p,v,.int n] h2) d1.dd.sh d1.dd.gd d2 d3 (λ_ _ _ _ _=>rfl) (k:=2800) (by lia)
    exact ⟨c,ps3,h3,Dn.seq' S g d1 d23 (λhh hh1 pp S' _ pr ev=>db_2 k0 hp ev) (by lia),T3⟩
theorem ygm {k:Nat} {m:Ms} (S : ShelfAt h p ps) (em : (meas ps)[n]? = some m) (hk : k < 2 ^ 63) (hm : m.sg * k <= 1000000000000000000) : ybd [.ref p,.int n,.int k] h = if n = 0 then .ok (.int (0 : Nat)) h else yaY 64 [.ref p,.int n,.int k] h:=by
 have fs:=zal S em
 have lt : fLt (.int k) (.int 0) h = .ok (.bl false) h:=by
  have : ¬ (k : Int) < 0:=by lia
  simp only [fLt,this,decide_false]
 have ml : fMul (.int m.sg) (.int k) h = .ok (.int ((m.sg * k : Nat) : Int)) h:=by
  have h2 : (k : Int).natAbs < 2 ^ 64:=by
   have : (2 : Nat) ^ 63 < 2 ^ 64:=by decide
   lia
  rw [yfX h2]; congr 2
 have ck:=zbm (i:=((m.sg * k : Nat) : Int)) (by lia) h
 unfold ybd
 generalize yaY 64 = G at *
 generalize ((m.sg * k : Nat) : Int) = MK at *
 by_cases z : n = 0
 ·subst z
  have z0 : fEq (.int 0) (.int 0) h = .ok (.bl true) h:=by simp
  have fs' : yaB [.ref p,.int 0] h = .ok (.int m.sg) h:=fs
  simp [S.ob,fs',lt,ml,ck,z0,-fLt,-fMul,-fEq]
 ·have z0 : fEq (.int n) (.int 0) h = .ok (.bl false) h:=by simp [z]
  rw [if_neg z]
  generalize hR : G [.ref p,.int n,.int k] h = R
  simp [S.ob,fs,lt,ml,ck,z0,hR,-fLt,-fMul,-fEq]
  cases R<;>rfl
theorem zg2 {k:Nat} (S : ShelfAt h p ps) (g : Good ps) (T : TxZ ps n x) (hk : k < 2 ^ e) (he : e < 62) (hm : x.length * k <= 1000000000000000000) (hz : ps.length + 2800 * e < 15000000) :
  ∃ (m : Nat) (ps' : List Pc) (h' : AH),Dn (ybd [.ref p,.int n,.int k]) p h h' ps ps' (2800 * e) m /\ TxZ ps' m (repS x k):=by
 obtain ⟨m,em,sm⟩:=T.meas
 have k63 : k < 2 ^ 63:=Nat.lt_of_lt_of_le hk (Nat.pow_le_pow_right (by decide) (by lia))
 by_cases z : n = 0
 ·rcases T with ⟨_,rfl⟩ | ⟨_,_,_,T⟩
  ·have dv : Dn (ybd [.ref p,.int n,.int k]) p h h ps ps 0 0:=Dn.val S g λhh pp S' _ pr=>by rw [ygm S' (zac pr em) k63 (by rw [sm]; exact hm),if_pos z]
   exact ⟨0,ps,h,dv.as S g (λ_ _ _ _ _=>rfl) (Nat.zero_le _),.inl ⟨rfl,zgz k⟩⟩
  ·exact absurd T.n1 (by lia)
 ·obtain ⟨c,ps',h',d,T'⟩:=zeu 64 e S g T hk (by lia) hm hz
  exact ⟨c,ps',h',d.as S g (λhh pp S' _ pr=>by rw [ygm S' (zac pr em) k63 (by rw [sm]; exact hm),if_neg z]) (Nat.le_refl _),T'⟩
def ydB (c : Nat) : Bool:=decide (97 <= c) && decide (c <= 122)
theorem yiD : (Str.ofString "a") = ⟨#[97]⟩:=by decide +kernel
theorem yiE : (Str.ofString "z") = ⟨#[122]⟩:=by decide +kernel
theorem yhE (c : Nat) (en : En) (h : AH) : ybU fLe fLe (sLit (.str "a")) (sVar 0) (sLit (.str "z")) (some (.str ⟨#[c]⟩) :: en) h = .ok (.bl (ydB c)) h:=by
 simp [yiD,yiE,lt1,ydB]
 by_cases h2 : c < 97
 ·have : ¬ 97 <= c:=by lia
  simp [h2,this]
 ·have h3 : 97 <= c:=by lia
  by_cases h4 : c <= 122
  ·have : ¬ 122 < c:=by lia
   simp [h2,h3,h4,this]
  ·have : 122 < c:=by lia
   simp [h2,h3,h4,this]
def ybr (x : Str) : Bool:=decide (1 <= x.length) && decide (x.length <= 8) && x.cps.toList.all ydB
theorem yfj (x : Str) (h : AH) (hl : x.length <= sizeLine) : ybe [.str x] h = .ok (.bl (ybr x)) h:=by
 have e:=zc5 (js:=[]) (en:=[some (.str x)]) (all:=x.cps.toList.map λc=>AV.str ⟨#[c]⟩) (e:=ybU fLe fLe (sLit (.str "a")) (sVar 0) (sLit (.str "z"))) (g:=λc=>AV.str ⟨#[c]⟩) (f:=λc=>AV.bl (ydB c)) (h:=h) x.cps.toList [] (λc _=>yhE c _ h) (by simp; exact hl)
 simp only [List.nil_append] at e
 have al : yal fAll (yaa (ybk [] (iVal (sVar 0)) sYes (ybU fLe fLe (sLit (.str "a")) (sVar 0) (sLit (.str "z")))) sNil) [some (.str x)] h = .ok (.bl (x.cps.toList.all ydB)) h:=by
  simp [-ybU]
  rw [e]
  simp [zco]
 unfold ybe
 generalize yal fAll (yaa (ybk [] (iVal (sVar 0)) sYes (ybU fLe fLe (sLit (.str "a")) (sVar 0) (sLit (.str "z")))) sNil) = AL at al ⊢
 generalize hb : x.cps.toList.all ydB = b at al
 by_cases h1 : 1 <= x.length
 ·have i1 : (1 : Int) <= x.length:=by lia
  by_cases h2 : x.length <= 8
  ·have i2 : (x.length : Int) <= 8:=by lia
   simp [i1,i2,h1,h2,al,ybr,hb]
  ·have i2 : ¬ (x.length : Int) <= 8:=by lia
   simp [i1,i2,h1,h2,ybr,hb]
 ·have i1 : ¬ (1 : Int) <= x.length:=by lia
  simp [i1,h1,ybr,hb]
theorem zj9 (en : En) (h : AH) : yeL 1 4 ycp sNil en h = .ok (.ref h.length) (h++(.ins 1 [some (.ref (h.length + 1)),some (.ref (h.length + 10)),some (.ref (h.length + 11)),some (.ref (h.length + 12))] :: (yeh (h.length + 1)++[.dct false [],.lst [],.lst []]))):=by
 simp [ycp,ydy,yeh,List.getElem?_append,zj1]
def kxV (e : Str × Nat × Str) : AV × AV:=(.str e.1,.int e.2.1)
def oN : Option Nat -> AV
 | none=>.non
 | some n=>.int n
def dsV (d : Str × Option Nat × Nat) : AV:=.tup [.str d.1,oN d.2.1,.int d.2.2]
structure Ho (h : AH) (q p t : Nat) (ps : List Pc) (kx : List (Str × Nat × Str)) (ds bs : List (Str × Option Nat × Nat)) : Prop where
 ob : h[q]? = some (.ins 1 [some (.ref p),some (.ref t),some (.ref (t + 1)),some (.ref (t + 2))])
 sh : ShelfAt h p ps
 gd : Good ps
 tx : h[t]? = some (.dct false (kx.map kxV))
 de : h[t + 1]? = some (.lst (ds.map dsV))
 ba : h[t + 2]? = some (.lst (bs.map dsV))
 tz : ∀ e ∈ kx,TxZ ps e.2.1 e.2.2 /\ ybr e.1 = true
 lo : q < p /\ p + 8 < t
 ct : kx.length <= 50
theorem Ho.app {h : AH} {q p t : Nat} {ps : List Pc} {kx : List (Str × Nat × Str)} {ds bs : List (Str × Option Nat × Nat)} (H : Ho h q p t ps kx ds bs) (r : AH) : Ho (h++r) q p t ps kx ds bs:=by
 have l:=yb0 H.ba
 have lo:=H.lo
 have k : ∀ i,i < h.length -> (h++r)[i]? = h[i]? := λi hi=>List.getElem?_append_left hi
 exact ⟨(k _ (by lia)).trans H.ob,H.sh.app r,H.gd,(k _ (by lia)).trans H.tx,(k _ (by lia)).trans H.de,(k _ l).trans H.ba,H.tz,lo,H.ct⟩
def lk (kx : List (Str × Nat × Str)) (x : Str) : Option (Nat × Str):=(kx.find? λe=>decide (e.1 = x)).map (·.2)
theorem zaV (e : Str × Nat × Str) (r : List (Str × Nat × Str)) (x : Str) : lk (e :: r) x = if e.1 = x then some e.2 else lk r x:=by
 unfold lk
 rw [List.find?_cons]
 by_cases q : e.1 = x
 ·simp [q]
 ·simp [q]
theorem ybs {x : Str} {v : Nat × Str} : ∀ {kx : List (Str × Nat × Str)},lk kx x = some v -> (x,v) ∈ kx
 | [],e=>nomatch e
 | e :: r,h=>by
  rw [zaV] at h
  by_cases q : e.1 = x
  ·rw [if_pos q] at h
   cases h
   subst q
   exact List.mem_cons_self ..
  ·rw [if_neg q] at h
   exact List.mem_cons_of_mem _ (ybs h)
theorem yeu (x : Str) : ∀ kx : List (Str × Nat × Str),valA (kx.map kxV) (.str x) = (lk kx x).map λv=>AV.int v.1
 | []=>rfl
 | e :: r=>by
  have ih:=yeu x r
  unfold valA at ih ⊢
  rw [List.map_cons,zaV,List.find?_cons]
  by_cases q : e.1 = x
  ·have : decide ((kxV e).1 = AV.str x) = true:=decide_eq_true (by rw [<- q]; rfl)
   rw [this,if_pos q]
   rfl
  ·have : decide ((kxV e).1 = AV.str x) = false:=decide_eq_false (λz=>q (by injection z))
   rw [this,if_neg q]
   exact ih
def put (kx : List (Str × Nat × Str)) (x : Str) (v : Nat × Str) : List (Str × Nat × Str):=if (lk kx x).isSome = true then kx.map λe=>if e.1 = x then (x,v) else e else kx++[(x,v)]
theorem yhF (kx : List (Str × Nat × Str)) (x : Str) (v : Nat × Str) : putA (kx.map kxV) (.str x) (.int v.1) = (put kx x v).map kxV:=by
 unfold putA put
 rw [zdR,yeu,Option.isSome_map]
 by_cases q : (lk kx x).isSome = true
 ·rw [if_pos q,if_pos q,List.map_map,List.map_map]
  refine List.map_congr_left λe _=>?_
  show (if (kxV e).1 = .str x then ((kxV e).1,AV.int v.1) else kxV e) = kxV (if e.1 = x then (x,v) else e)
  by_cases z : e.1 = x
  ·rw [if_pos z,if_pos (by rw [<- z]; rfl)]
   show (AV.str e.1,AV.int v.1) = _
   rw [z]; rfl
  ·rw [if_neg z,if_neg (λw=>z (by injection w))]
 ·rw [if_neg q,if_neg q,List.map_append]
  rfl
theorem zaW (kx : List (Str × Nat × Str)) (x : Str) (v : Nat × Str) : (put kx x v).length <= kx.length + 1:=by
 unfold put
 split
 ·rw [List.length_map]; lia
 ·rw [List.length_append]; simp
variable {kx:List (Str × Nat × Str)}
theorem zdX {v:Nat × Str} {e:Str × Nat × Str} (h : e ∈ put kx x v) : e = (x,v) \/ e ∈ kx:=by
 unfold put at h
 split at h
 ·obtain ⟨e',h',rfl⟩:=List.mem_map.mp h
  by_cases z : e'.1 = x
  ·rw [if_pos z]; exact .inl rfl
  ·rw [if_neg z]; exact .inr h'
 ·rcases List.mem_append.mp h with h | h
  ·exact .inr h
  ·exact .inl (List.mem_singleton.mp h)
theorem yf1 (x y : Str) (v : Nat × Str) : ∀ kx : List (Str × Nat × Str),lk (kx.map λe=>if e.1 = x then (x,v) else e) y = if x = y then (lk kx x).map λ_=>v else lk kx y
 | []=>by simp [lk]
 | e :: r=>by
  rw [List.map_cons,zaV,yf1 x y v r,zaV,zaV]
  by_cases z : e.1 = x
  ·rw [if_pos z,if_pos z]
   by_cases w : x = y
   ·rw [if_pos w]; simp [w]
   ·rw [if_neg w]
    simp [w,z]
  ·rw [if_neg z,if_neg z]
   by_cases w : x = y
   ·have : ¬ e.1 = y:=w ▸ z
    simp [w,this]
   ·simp [w]
theorem yf2 (x y : Str) (v : Nat × Str) : ∀ kx : List (Str × Nat × Str),lk (kx++[(x,v)]) y = (lk kx y).or (if x = y then some v else none)
 | []=>by rw [List.nil_append,zaV]; rfl
 | e :: r=>by
  rw [List.cons_append,zaV,zaV,yf2 x y v r]
  by_cases z : e.1 = y
  ·rw [if_pos z,if_pos z]; rfl
  ·rw [if_neg z,if_neg z]
theorem ydC (kx : List (Str × Nat × Str)) (x y : Str) (v : Nat × Str) : lk (put kx x v) y = if x = y then some v else lk kx y:=by
 unfold put
 cases q : lk kx x with
 | some w =>
  rw [if_pos (by rfl),yf1,q]
  rfl
 | none =>
  rw [if_neg (by simp),yf2]
  by_cases w : x = y
  ·subst w; rw [q,if_pos rfl]; rfl
  ·rw [if_neg w,if_neg w,Option.or_none]
structure Fh (p t : Nat) (h h' : AH) : Prop where
 fr : ∀ i,(i < p \/ p + 8 < i) -> i ≠ t -> i ≠ t + 1 -> i ≠ t + 2 -> h'[i]? = h[i]?
 hl : h'.length = h.length
theorem Fh.trans {p t : Nat} {h h' h'' : AH} (a : Fh p t h h') (b : Fh p t h' h'') : Fh p t h h'' := ⟨λi h1 h2 h3 h4=>(b.fr i h1 h2 h3 h4).trans (a.fr i h1 h2 h3 h4),b.hl.trans a.hl⟩
theorem Fh.dd {t:Nat} {k:Nat} (d : Dd p h h' ps ps' k) : Fh p t h h' := ⟨λi h1 _ _ _=>d.fr i (by lia),d.hl⟩
section
variable {h : AH} {q p t : Nat} {ps : List Pc} {kx : List (Str × Nat × Str)} {ds bs : List (Str × Option Nat × Nat)}
theorem Ho.dd (H : Ho h q p t ps kx ds bs) {k:Nat} (d : Dd p h h' ps ps' k) : Ho h' q p t ps' kx ds bs:=by
 have lo:=H.lo
 exact ⟨(d.fr q (by lia)).trans H.ob,d.sh,d.gd,(d.fr t (by lia)).trans H.tx,(d.fr (t + 1) (by lia)).trans H.de,(d.fr (t + 2) (by lia)).trans H.ba,λe he=>⟨(H.tz e he).1.pre d.pre,(H.tz e he).2⟩,lo,H.ct⟩
theorem zfk (h : ybr x = true) : x.length <= 8:=by
 unfold ybr at h
 simp only [Bool.and_eq_true,decide_eq_true_eq] at h
 exact h.1.2
theorem zgA (hx : ybr x = true) (hh : AH) : ybe [.str x] hh = .ok (.bl true) hh:=by
 rw [yfj x hh (Nat.le_trans (zfk hx) (by decide)),hx]
theorem ybD (H : Ho h q p t ps kx ds bs) {v:Nat × Str} (l : lk kx x = some v) : yai [.ref q,.str x] h = .ok (.int v.1) h:=by
 have nm:=zgA (H.tz _ (ybs l)).2 h
 have vk : valA (kx.map kxV) (.str x) = some (.int v.1):=by rw [yeu,l]; rfl
 have ni : ycB (.str x) (.ref t) h = .ok (.bl false) h:=by
  simp only [ycB,inA,H.tx,vk,ycc,keyOf?,Option.isSome]; rfl
 have ix : fIx (.ref t) (.str x) h = .ok (.int v.1) h:=by
  have k1 : ycc false (.str x) = true:=rfl
  simp only [fIx,H.tx,k1,vk]; rfl
 simp [yai,H.ob,nm,ni,ix,-ycB,-fIx]
variable {v:AV}
theorem zbg (H : Ho h q p t ps kx ds bs) (nm : ybe [v] h = .ok (.bl false) h) : yai [.ref q,v] h = .ex yaJ h:=by
 simp [yai,nm]
theorem zdx (H : Ho h q p t ps kx ds bs) (hx : x.length <= 1000) (l : lk kx x = none) : yai [.ref q,.str x] h = .ex yaJ h:=by
 have nm:=yfj x h (Nat.le_trans hx (by decide))
 have vk : valA (kx.map kxV) (.str x) = none:=by rw [yeu,l]; rfl
 have ni : ycB (.str x) (.ref t) h = .ok (.bl true) h:=by
  simp only [ycB,inA,H.tx,vk,ycc,keyOf?,Option.isSome]; rfl
 cases ybr x<;>simp [yai,H.ob,nm,ni,-ycB,-fIx]
theorem zbD {v:Nat × Str} (ob : hh[q]? = some (.ins 1 [some (.ref p),some (.ref t),some (.ref (t + 1)),some (.ref (t + 2))])) (tx : hh[t]? = some (.dct false (kx.map kxV))) (ct : kx.length <= 60) :
  ybf [.ref q,.str x,.int v.1] hh = .ok .non (hh.set t (.dct false ((put kx x v).map kxV))):=by
 have k1 : ycc false (.str x) = true:=rfl
 have sz : (kx.map kxV).length < sizeLine:=by rw [List.length_map]; exact Nat.lt_of_le_of_lt ct (by decide)
 have st : ydb (Sm.sFld 1 1 (sVar 0)) (sVar 1) (sVar 2) [some (.ref q),some (.str x),some (.int v.1)] hh = .nx [some (.ref q),some (.str x),some (.int v.1)] (hh.set t (.dct false ((put kx x v).map kxV))):=by
  have e : Sm.sFld 1 1 (sVar 0) [some (.ref q),some (.str x),some (.int v.1)] hh = .ok (.ref t) hh:=by simp [ob]
  have e1 : sVar 1 [some (.ref q),some (.str x),some (.int v.1)] hh = .ok (.str x) hh:=rfl
  have e2 : sVar 2 [some (.ref q),some (.str x),some (.int v.1)] hh = .ok (.int v.1) hh:=rfl
  simp only [ydb,e,e1,e2,Out.go,tx]
  rw [if_pos ⟨k1,sz⟩,yhF]
 unfold ybf
 generalize ydb (Sm.sFld 1 1 (sVar 0)) (sVar 1) (sVar 2) = SX at *
 simp [st]
theorem f_do (H : Ho h q p t ps kx ds bs) (hx : ybr x = true) (T : TxZ ps n y) (ct : kx.length < 50) (ld : ds.length <= 100) :
  ∃ h',yav [.ref q,.str x,.int n] h = .ok .non h' /\ Ho h' q p t ps (put kx x (n,y)) (ds++[(x,(lk kx x).map (·.1),n)]) [] /\ Fh p t h h' := by
 have lo:=H.lo
 have lt:=yb0 H.tx
 have ld1:=yb0 H.de
 have lb:=yb0 H.ba
 have k1 : ycc false (.str x) = true:=rfl
 have g1 : yeU (Sm.sFld 1 1 (sVar 0)) (sVar 1) [some (.ref q),some (.str x),some (.int n)] h = .ok (oN ((lk kx x).map (·.1))) h:=by
  have e : Sm.sFld 1 1 (sVar 0) [some (.ref q),some (.str x),some (.int n)] h = .ok (.ref t) h:=by simp [H.ob]
  unfold yeU
  rw [e]
  simp only [Out.bind,H.tx,sVar]
  show fGet t (.str x) .non h = _
  simp only [fGet,H.tx,k1,if_true,yeu]
  cases lk kx x<;>rfl
 have sz : (ds.map dsV).length < sizeLine:=by rw [List.length_map]; exact Nat.lt_of_le_of_lt ld (by decide)
 have ap : yaV (.ref (t + 1)) [dsV (x,(lk kx x).map (·.1),n)] h = .ok .non (h.set (t + 1) (.lst ((ds++[(x,(lk kx x).map (·.1),n)]).map dsV))):=by
  simp only [yaV,H.de]
  rw [if_pos sz]
  simp
 have il : ya6 (.ref (t + 1)) h = true:=by simp only [ya6,ybT,H.de]; rfl
 have f2 : Sm.sFld 1 2 (sVar 0) [some (.ref q),some (.str x),some (.int n)] h = .ok (.ref (t + 1)) h:=by simp [H.ob]
 have ob1 : (h.set (t + 1) (.lst ((ds++[(x,(lk kx x).map (·.1),n)]).map dsV)))[q]? = some (.ins 1 [some (.ref p),some (.ref t),some (.ref (t + 1)),some (.ref (t + 2))]):=by rw [List.getElem?_set_ne (by lia)]; exact H.ob
 have ba1 : (h.set (t + 1) (.lst ((ds++[(x,(lk kx x).map (·.1),n)]).map dsV)))[t + 2]? = some (.lst (bs.map dsV)):=by rw [List.getElem?_set_ne (by lia)]; exact H.ba
 have tx1 : (h.set (t + 1) (.lst ((ds++[(x,(lk kx x).map (·.1),n)]).map dsV)))[t]? = some (.dct false (kx.map kxV)):=by rw [List.getElem?_set_ne (by lia)]; exact H.tx
 have de1 : (h.set (t + 1) (.lst ((ds++[(x,(lk kx x).map (·.1),n)]).map dsV)))[t + 1]? = some (.lst ((ds++[(x,(lk kx x).map (·.1),n)]).map dsV)):=List.getElem?_set_self ld1
 have n1 : (h.set (t + 1) (.lst ((ds++[(x,(lk kx x).map (·.1),n)]).map dsV))).length = h.length:=List.length_set
 have o1 : ∀ i,i ≠ t + 1 -> (h.set (t + 1) (.lst ((ds++[(x,(lk kx x).map (·.1),n)]).map dsV)))[i]? = h[i]? := λi hi=>List.getElem?_set_ne (Ne.symm hi)
 generalize hh1 : h.set (t + 1) (.lst ((ds++[(x,(lk kx x).map (·.1),n)]).map dsV)) = h1 at *
 have cl : yd5 (.ref (t + 2)) [] h1 = .ok .non (h1.set (t + 2) (.lst [])):=by simp only [yd5,ba1]
 have il1 : ya6 (.ref (t + 2)) h1 = true:=by simp only [ya6,ybT,ba1]; rfl
 have f3 : Sm.sFld 1 3 (sVar 0) [some (.ref q),some (.str x),some (.int n)] h1 = .ok (.ref (t + 2)) h1:=by simp [ob1]
 have ob2 : (h1.set (t + 2) (.lst []))[q]? = some (.ins 1 [some (.ref p),some (.ref t),some (.ref (t + 1)),some (.ref (t + 2))]):=by rw [List.getElem?_set_ne (by lia)]; exact ob1
 have tx2 : (h1.set (t + 2) (.lst []))[t]? = some (.dct false (kx.map kxV)):=by rw [List.getElem?_set_ne (by lia)]; exact tx1
 have de2 : (h1.set (t + 2) (.lst []))[t + 1]? = some (.lst ((ds++[(x,(lk kx x).map (·.1),n)]).map dsV)):=by rw [List.getElem?_set_ne (by lia)]; exact de1
 have ba2 : (h1.set (t + 2) (.lst []))[t + 2]? = some (.lst []):=List.getElem?_set_self (by lia)
 have n2 : (h1.set (t + 2) (.lst [])).length = h.length:=by rw [List.length_set]; exact n1
 have o2 : ∀ i,i ≠ t + 1 -> i ≠ t + 2 -> (h1.set (t + 2) (.lst []))[i]? = h[i]? := λi a b=>(List.getElem?_set_ne (Ne.symm b)).trans (o1 i a)
 generalize hh2 : h1.set (t + 2) (.lst []) = h2 at *
 have st:=zbD (x:=x) (v:=(n,y)) ob2 tx2 (by lia)
 have o3 : ∀ i,i ≠ t -> i ≠ t + 1 -> i ≠ t + 2 -> (h2.set t (.dct false ((put kx x (n,y)).map kxV)))[i]? = h[i]? := λi a b c=>(List.getElem?_set_ne (Ne.symm a)).trans (o2 i b c)
 refine ⟨h2.set t (.dct false ((put kx x (n,y)).map kxV)),?_,⟨(o3 q (by lia) (by lia) (by lia)).trans H.ob,H.sh.keep λi a b=>o3 i (by lia) (by lia) (by lia),H.gd,List.getElem?_set_self (by lia),?_,?_,λe he=>?_,lo,Nat.le_trans (zaW ..) (by lia)⟩,⟨λi _ a b c=>o3 i a b c,by rw [List.length_set]; exact n2⟩⟩
 ·have ee : (AV.tup [.str x,oN ((lk kx x).map (·.1)),.int n]) = dsV (x,(lk kx x).map (·.1),n):=rfl
  generalize h2.set t (.dct false ((put kx x (n,y)).map kxV)) = h3 at *
  generalize (lk kx x).map (·.1) = O at *
  unfold yav
  generalize yeU (Sm.sFld 1 1 (sVar 0)) (sVar 1) = G1 at *
  generalize Sm.sFld 1 2 (sVar 0) = G2 at *
  generalize Sm.sFld 1 3 (sVar 0) = G3 at *
  simp [g1,f2,ee,il,ap,f3,il1,cl,ob2,st,-ya6,-yaV,-yd5]
 ·rw [List.getElem?_set_ne (by lia)]; exact de2
 ·rw [List.getElem?_set_ne (by lia)]; exact ba2
 ·rcases zdX he with rfl | he
  ·exact ⟨T,hx⟩
  ·exact H.tz e he
end
end Sk
set_option maxHeartbeats 1000000
namespace Sk
open PySem PySem.Spec L2 Sm
variable {x w y Y:Str}
theorem zbn (hx : ybr x = true) (hh : AH) : ya7 [.str x] hh = .ok .non hh:=by
 simp [ya7,zgA hx hh]
variable {v:AV} {hh h h1 h' h2:AH}
theorem zdy (nm : ybe [v] hh = .ok (.bl false) hh) : ya7 [v] hh = .ex yaJ hh:=by
 simp [ya7,nm]
section
variable {h : AH} {q p t : Nat} {ps : List Pc} {kx : List (Str × Nat × Str)} {ds bs : List (Str × Option Nat × Nat)}
theorem yfk (H : Ho h q p t ps kx ds bs) (hx : ybr x = true) (py : yaA y = true) (ly : y.length <= 10000) (hz : ps.length + 2 * y.length < 16000000) (ct : kx.length < 50) (ld : ds.length <= 100) :
  ∃ n ps' h',yaO [.ref q,.str x,.str y] h = .ok .non h' /\ Ho h' q p t ps' (put kx x (n,y)) (ds++[(x,(lk kx x).map (·.1),n)]) [] /\ Fh p t h h' /\ ps'.length <= ps.length + 2 * y.length:=by
 obtain ⟨n,ps',h1,fb,D,T⟩:=zj7 H.sh H.gd py ly hz
 obtain ⟨h',fd,H',F⟩:=f_do (H.dd D) hx T ct ld
 have ck:=zbn hx h
 refine ⟨n,ps',h',?_,H',(Fh.dd D).trans F,D.len⟩
 unfold yaO
 generalize ybL = G at *
 generalize yav = G2 at *
 simp [ck,H.ob,fb,fd]
variable {e b a n i j d k1 n1 c hb D:Nat}
theorem zfL (H : Ho h q p t ps kx ds bs) {v:Nat × Str} {k:Nat} (l : lk kx x = some v) (hk : k < 2 ^ e) (he : e < 62) (hm : v.2.length * k <= 1000000000000000000) (hz : ps.length + 2800 * e < 15000000) (ct : kx.length < 50) (ld : ds.length <= 100) :
  ∃ n ps' h',yaR [.ref q,.str x,.int k] h = .ok .non h' /\ Ho h' q p t ps' (put kx x (n,repS v.2 k)) (ds++[(x,(lk kx x).map (·.1),n)]) [] /\ Fh p t h h' /\ ps'.length <= ps.length + 2800 * e:=by
 obtain ⟨m,ps',h1,D,T⟩:=zg2 H.sh H.gd (H.tz _ (ybs l)).1 hk he hm hz
 obtain ⟨h',fd,H',F⟩:=f_do (H.dd D.dd) (H.tz _ (ybs l)).2 T ct ld
 have ft:=ybD H l
 have ev:=D.ev
 refine ⟨m,ps',h',?_,H',(Fh.dd D.dd).trans F,D.dd.len⟩
 unfold yaR
 generalize ybd = G at *
 generalize yav = G2 at *
 generalize yai = G3 at *
 simp [H.ob,ft,ev,fd]
theorem zhW (H : Ho h q p t ps kx ds bs) {v w:Nat × Str} (l : lk kx x = some v) (l2 : lk kx y = some w) (hm : v.2.length + w.2.length <= 1000000000000000000) (hz : ps.length < 14000000) (ct : kx.length < 50) (ld : ds.length <= 100) :
  ∃ n ps' h',yaL [.ref q,.str x,.str y] h = .ok .non h' /\ Ho h' q p t ps' (put kx x (n,v.2++w.2)) (ds++[(x,(lk kx x).map (·.1),n)]) [] /\ Fh p t h h' /\ ps'.length <= ps.length + 1400 /\ ps <+: ps' := by
 have A:=(H.tz _ (ybs l)).1
 have B:=(H.tz _ (ybs l2)).1
 obtain ⟨m,ps',h1,D,T⟩:=zc8 H.sh H.gd A B hm (by lia)
 have jf:=zda H.gd A B
 obtain ⟨h',fd,H',F⟩:=f_do (H.dd D.dd) (H.tz _ (ybs l)).2 T ct ld
 have ft:=ybD H l
 have ft2:=ybD H l2
 have ev:=D.ev
 refine ⟨m,ps',h',?_,H',(Fh.dd D.dd).trans F,Nat.le_trans D.dd.len (Nat.add_le_add_left jf _),D.dd.pre⟩
 unfold yaL
 generalize yaF = G at *
 generalize yav = G2 at *
 generalize yai = G3 at *
 simp [H.ob,ft,ft2,ev,fd]
def oP : Option Nat -> PyData
 | none=>.none
 | some n=>.int n
def dsP (d : Str × Option Nat × Nat) : PyData:=.tuple [.str d.1,oP d.2.1,.int d.2.2]
theorem yf3 (k : Nat) (hh : AH) : ∀ l : List (Str × Option Nat × Nat),toDs (toD (k + 1) hh) (l.map dsV) = some (l.map dsP)
 | []=>rfl
 | d :: l=>by
  have e : toD (k + 1) hh (dsV d) = some (dsP d):=by
   obtain ⟨a,o,n⟩:=d
   cases o<;>cases k<;>rfl
  show (match toD (k + 1) hh (dsV d),toDs (toD (k + 1) hh) (l.map dsV) with | some d,some ds=>some (d :: ds) | _,_=>none) = _
  rw [e,yf3 k hh l]
  rfl
theorem yiF {W:Nat} {l:List (Str × Option Nat × Nat)} {d:Str × Option Nat × Nat} (e : hh[W]? = some (.lst ((l++[d]).map dsV))) : fEq (.ref W) (.fl []) hh = .ok (.bl false) hh:=by
 have d1 : toD 8 hh (.ref W) = some (.list ((l++[d]).map dsP)):=by
  show (match hh[W]? with | some (.lst xs)=>(toDs (toD 7 hh) xs).map PyData.list | _=>none) = _
  rw [e]
  show (toDs (toD 7 hh) ((l++[d]).map dsV)).map PyData.list = _
  rw [yf3 6]; rfl
 have qq : eqA (.ref W) (.fl []) hh = some false:=by
  show (match toD 8 hh (.ref W),toD 8 hh (.fl []) with | some d,some e=>some (PyData.eqv d e) | _,_=>none) = _
  rw [d1]
  show some (PyData.eqv (.list _) (.list [])) = _
  rw [PyData.eqv]
  cases l<;>rfl
 show (match eqA (.ref W) (.fl []) hh with | some b=>Out.ok (AV.bl b) hh | none=>Out.bad) = _
 rw [qq]
theorem zgB (H : Ho h q p t ps kx ds bs) {l m:List (Str × Option Nat × Nat)} {d:Str × Option Nat × Nat} (ea : h[a]? = some (.lst ((l++[d]).map dsV))) (eb : h[b]? = some (.lst (m.map dsV))) (hab : a ≠ b) (lm : m.length <= 100) :
  fEq (.ref a) (.fl []) h = .ok (.bl false) h /\ mPop (.ref a) [] h = .ok (dsV d) (h.set a (.lst (l.map dsV))) /\ ya6 (.ref a) h = true /\ ya6 (.ref b) (h.set a (.lst (l.map dsV))) = true /\
   yaV (.ref b) [dsV d] (h.set a (.lst (l.map dsV))) = .ok .non ((h.set a (.lst (l.map dsV))).set b (.lst ((m++[d]).map dsV))):=by
 have eb' : (h.set a (.lst (l.map dsV)))[b]? = some (.lst (m.map dsV)):=by rw [List.getElem?_set_ne hab]; exact eb
 refine ⟨yiF ea,?_,by simp only [ya6,ybT,ea]; rfl,by simp only [ya6,ybT,eb']; rfl,?_⟩
 ·have i : ((l++[d]).map dsV)[((l++[d]).map dsV).length - 1]? = some (dsV d):=by simp
  have dl : ((l++[d]).map dsV).dropLast = l.map dsV:=by rw [List.map_append]; exact List.dropLast_concat
  simp only [mPop,ea]
  rw [i,dl]
 ·have sz : (m.map dsV).length < sizeLine:=by rw [List.length_map]; exact Nat.lt_of_le_of_lt lm (by decide)
  simp only [yaV,eb']
  rw [if_pos sz]
  simp
theorem yhG {n0:Nat} (H : Ho h q p t ps kx (ds++[(x,some n0,n1)]) bs) (hx : ybr x = true) (T : TxZ ps n0 y) (ct : kx.length < 50) (lb : bs.length <= 100) :
  ∃ h',ycS [.ref q] h = .ok .non h' /\ Ho h' q p t ps (put kx x (n0,y)) ds (bs++[(x,some n0,n1)]) /\ Fh p t h h' := by
 have lo:=H.lo
 have lt:=yb0 H.tx
 have la:=yb0 H.de
 have lb' := yb0 H.ba
 obtain ⟨m1,m2,m3,m4,m5⟩:=zgB H H.de H.ba (by lia) lb
 have o1 : ∀ i,i ≠ t + 1 -> (h.set (t + 1) (.lst (ds.map dsV)))[i]? = h[i]? := λi a=>List.getElem?_set_ne (Ne.symm a)
 have d1 : (h.set (t + 1) (.lst (ds.map dsV)))[t + 1]? = some (.lst (ds.map dsV)):=List.getElem?_set_self la
 have n1' : (h.set (t + 1) (.lst (ds.map dsV))).length = h.length:=List.length_set
 generalize h.set (t + 1) (.lst (ds.map dsV)) = h1 at *
 have o2 : ∀ i,i ≠ t + 1 -> i ≠ t + 2 -> (h1.set (t + 2) (.lst ((bs++[(x,some n0,n1)]).map dsV)))[i]? = h[i]? := λi a b=>(List.getElem?_set_ne (Ne.symm b)).trans (o1 i a)
 have d2 : (h1.set (t + 2) (.lst ((bs++[(x,some n0,n1)]).map dsV)))[t + 1]? = some (.lst (ds.map dsV)):=by rw [List.getElem?_set_ne (by lia)]; exact d1
 have b2 : (h1.set (t + 2) (.lst ((bs++[(x,some n0,n1)]).map dsV)))[t + 2]? = some (.lst ((bs++[(x,some n0,n1)]).map dsV)):=List.getElem?_set_self (by lia)
 have n2' : (h1.set (t + 2) (.lst ((bs++[(x,some n0,n1)]).map dsV))).length = h.length:=by rw [List.length_set]; exact n1'
 generalize h1.set (t + 2) (.lst ((bs++[(x,some n0,n1)]).map dsV)) = h2 at *
 have ob1:=(o1 q (by lia)).trans H.ob
 have ob2:=(o2 q (by lia) (by lia)).trans H.ob
 have st:=zbD (x:=x) (v:=(n0,y)) ob2 ((o2 t (by lia) (by lia)).trans H.tx) (by lia)
 have o3 : ∀ i,i ≠ t -> i ≠ t + 1 -> i ≠ t + 2 -> (h2.set t (.dct false ((put kx x (n0,y)).map kxV)))[i]? = h[i]? := λi a b c=>(List.getElem?_set_ne (Ne.symm a)).trans (o2 i b c)
 refine ⟨h2.set t (.dct false ((put kx x (n0,y)).map kxV)),?_,⟨(o3 q (by lia) (by lia) (by lia)).trans H.ob,H.sh.keep λi a b=>o3 i (by lia) (by lia) (by lia),H.gd,List.getElem?_set_self (by lia),?_,?_,λe he=>?_,lo,Nat.le_trans (zaW ..) (by lia)⟩,⟨λi _ a b c=>o3 i a b c,by rw [List.length_set]; exact n2'⟩⟩
 ·have i0 : ∀ hh,fIx (dsV (x,some n0,n1)) (.int 0) hh = .ok (.str x) hh:=λ_=>rfl
  have i1 : ∀ hh,fIx (dsV (x,some n0,n1)) (.int 1) hh = .ok (.int n0) hh:=λ_=>rfl
  have ob:=H.ob
  generalize h2.set t (.dct false ((put kx x (n0,y)).map kxV)) = h3 at *
  generalize dsV (x,some n0,n1) = V at *
  unfold ycS
  generalize ybf = G at *
  simp [ob,m1,m2,m3,m4,m5,ob1,ob2,i0,i1,st,-fEq,-ya6,-yaV,-mPop,-fIx]
 ·rw [List.getElem?_set_ne (by lia)]; exact d2
 ·rw [List.getElem?_set_ne (by lia)]; exact b2
 ·rcases zdX he with rfl | he
  ·exact ⟨T,hx⟩
  ·exact H.tz e he
theorem zka {o:Option Nat} (H : Ho h q p t ps kx ds (bs++[(x,o,n1)])) (hx : ybr x = true) (T : TxZ ps n1 y) (ct : kx.length < 50) (ld : ds.length <= 100) :
  ∃ h',ycg [.ref q] h = .ok .non h' /\ Ho h' q p t ps (put kx x (n1,y)) (ds++[(x,o,n1)]) bs /\ Fh p t h h' := by
 have lo:=H.lo
 have lt:=yb0 H.tx
 have la:=yb0 H.de
 have lb' := yb0 H.ba
 obtain ⟨m1,m2,m3,m4,m5⟩:=zgB H H.ba H.de (by lia) ld
 have o1 : ∀ i,i ≠ t + 2 -> (h.set (t + 2) (.lst (bs.map dsV)))[i]? = h[i]? := λi a=>List.getElem?_set_ne (Ne.symm a)
 have d1 : (h.set (t + 2) (.lst (bs.map dsV)))[t + 2]? = some (.lst (bs.map dsV)):=List.getElem?_set_self lb'
 have n1' : (h.set (t + 2) (.lst (bs.map dsV))).length = h.length:=List.length_set
 generalize h.set (t + 2) (.lst (bs.map dsV)) = h1 at *
 have o2 : ∀ i,i ≠ t + 1 -> i ≠ t + 2 -> (h1.set (t + 1) (.lst ((ds++[(x,o,n1)]).map dsV)))[i]? = h[i]? := λi a b=>(List.getElem?_set_ne (Ne.symm a)).trans (o1 i b)
 have d2 : (h1.set (t + 1) (.lst ((ds++[(x,o,n1)]).map dsV)))[t + 2]? = some (.lst (bs.map dsV)):=by rw [List.getElem?_set_ne (by lia)]; exact d1
 have b2 : (h1.set (t + 1) (.lst ((ds++[(x,o,n1)]).map dsV)))[t + 1]? = some (.lst ((ds++[(x,o,n1)]).map dsV)):=List.getElem?_set_self (by lia)
 have n2' : (h1.set (t + 1) (.lst ((ds++[(x,o,n1)]).map dsV))).length = h.length:=by rw [List.length_set]; exact n1'
 generalize h1.set (t + 1) (.lst ((ds++[(x,o,n1)]).map dsV)) = h2 at *
 have ob1:=(o1 q (by lia)).trans H.ob
 have ob2:=(o2 q (by lia) (by lia)).trans H.ob
 have st:=zbD (x:=x) (v:=(n1,y)) ob2 ((o2 t (by lia) (by lia)).trans H.tx) (by lia)
 have o3 : ∀ i,i ≠ t -> i ≠ t + 1 -> i ≠ t + 2 -> (h2.set t (.dct false ((put kx x (n1,y)).map kxV)))[i]? = h[i]? := λi a b c=>(List.getElem?_set_ne (Ne.symm a)).trans (o2 i b c)
 refine ⟨h2.set t (.dct false ((put kx x (n1,y)).map kxV)),?_,⟨(o3 q (by lia) (by lia) (by lia)).trans H.ob,H.sh.keep λi a b=>o3 i (by lia) (by lia) (by lia),H.gd,List.getElem?_set_self (by lia),?_,?_,λe he=>?_,lo,Nat.le_trans (zaW ..) (by lia)⟩,⟨λi _ a b c=>o3 i a b c,by rw [List.length_set]; exact n2'⟩⟩
 ·have i0 : ∀ hh,fIx (dsV (x,o,n1)) (.int 0) hh = .ok (.str x) hh:=λ_=>rfl
  have i1 : ∀ hh,fIx (dsV (x,o,n1)) (.int 2) hh = .ok (.int n1) hh:=λ_=>rfl
  have ob:=H.ob
  generalize h2.set t (.dct false ((put kx x (n1,y)).map kxV)) = h3 at *
  generalize dsV (x,o,n1) = V at *
  unfold ycg
  generalize ybf = G at *
  simp [ob,m1,m2,m3,m4,m5,ob1,ob2,i0,i1,st,-fEq,-ya6,-yaV,-mPop,-fIx]
 ·rw [List.getElem?_set_ne (by lia)]; exact b2
 ·rw [List.getElem?_set_ne (by lia)]; exact d2
 ·rcases zdX he with rfl | he
  ·exact ⟨T,hx⟩
  ·exact H.tz e he
end
abbrev RB : SS:=sIf (yas (sOp2 fEq (sOp2 fIx (sVar 1) (sLit (.int 0))) (sLit (.str "give")))) (yan (yah 1 yaO (sVar 0) (yaa (sOp2 fIx (sVar 1) (sLit (.int 1))) (yaa (sOp2 fIx (sVar 1) (sLit (.int 2))) sNil)))) (sIf (yas (sOp2 fEq (sOp2 fIx (sVar 1) (sLit (.int 0))) (sLit (.str "copy_of")))) (yan (yah 1 ybo (sVar 0) (yaa (sOp2 fIx (sVar 1) (sLit (.int 1))) (yaa (sOp2 fIx (sVar 1) (sLit (.int 2))) sNil)))) (sIf (yas (sOp2 fEq (sOp2 fIx (sVar 1) (sLit (.int 0))) (sLit (.str "join_to")))) (yan (yah 1 yaL (sVar 0) (yaa (sOp2 fIx (sVar 1) (sLit (.int 1))) (yaa (sOp2 fIx (sVar 1) (sLit (.int 2))) sNil)))) (sIf (yas (sOp2 fEq (sOp2 fIx (sVar 1) (sLit (.int 0))) (sLit (.str "put_into")))) (yan (yah 1 yaM (sVar 0) (yaa (sOp2 fIx (sVar 1) (sLit (.int 1))) (yaa (sOp2 fIx (sVar 1) (sLit (.int 2))) (yaa (sOp2 fIx (sVar 1) (sLit (.int 3))) sNil))))) (sIf (yas (sOp2 fEq (sOp2 fIx (sVar 1) (sLit (.int 0))) (sLit (.str "take_from")))) (yan (yah 1 ya9 (sVar 0) (yaa (sOp2 fIx (sVar 1) (sLit (.int 1))) (yaa (sOp2 fIx (sVar 1) (sLit (.int 2))) (yaa (sOp2 fIx (sVar 1) (sLit (.int 3))) sNil))))) (sIf (yas (sOp2 fEq (sOp2 fIx (sVar 1) (sLit (.int 0))) (sLit (.str "repeat")))) (yan (yah 1 yaR (sVar 0) (yaa (sOp2 fIx (sVar 1) (sLit (.int 1))) (yaa (sOp2 fIx (sVar 1) (sLit (.int 2))) sNil)))) (sIf (yas (sOp2 fEq (sOp2 fIx (sVar 1) (sLit (.int 0))) (sLit (.str "drop")))) (yan (yah 1 ycb (sVar 0) (yaa (sOp2 fIx (sVar 1) (sLit (.int 1))) sNil))) (yan (yah 1 yai (sVar 0) (yaa (sOp2 fIx (sVar 1) (sLit (.int 1))) sNil)))))))))
abbrev sx (c : Nat) : List AV:=[.bl (ydc c),.bl (ydd c),.bl (ycQ c),.bl (ycR c),.bl (yca c),.bl (ycf c)]
abbrev Kd (c : Nat) : Prop:=c = 7 \/ c = 1 \/ c = 6 \/ c = 5
variable {c e b a n i j p d k1 n1 hb D:Nat}
theorem yde {q:Nat} {deed:AV} (hc : Kd c) (e : RB [some (.ref q),some deed,some (.fl []),none] h = .ex c [some (.ref q),some deed,some (.fl []),none] h) : yar [.ref q,deed] h = .ok (.fl (sx c)) h:=by
 have ct : ybN c = true:=by rcases hc with rfl | rfl | rfl | rfl<;>rfl
 have ad : ∀ a b c d e f : AV,fAdd (.fl [a,b,c,d]) (.fl [e,f]) h = .ok (.fl [a,b,c,d,e,f]) h:=λ_ _ _ _ _ _=>by
  have : 4 + 2 <= sizeLine:=by decide
  simp [fAdd,this]
 have tr : sTry 3 ybN RB (sSeq (sSet 2 (sLst (yaa (sIsX ydc (sVar 3)) (yaa (sIsX ydd (sVar 3)) (yaa (sIsX ycQ (sVar 3)) (yaa (sIsX ycR (sVar 3)) sNil)))))) (sSet 2 (sOp2 fAdd (sVar 2) (sLst (yaa (sIsX yca (sVar 3)) (yaa (sIsX ycf (sVar 3)) sNil)))))) [some (.ref q),some deed,some (.fl []),none] h = .nx [some (.ref q),some deed,some (.fl (sx c)),none] h:=by
  unfold sTry
  rw [e]
  dsimp only
  rw [if_pos ct]
  simp [ad,-fAdd]
 unfold yar
 generalize sTry 3 ybN RB (sSeq (sSet 2 (sLst (yaa (sIsX ydc (sVar 3)) (yaa (sIsX ydd (sVar 3)) (yaa (sIsX ycQ (sVar 3)) (yaa (sIsX ycR (sVar 3)) sNil)))))) (sSet 2 (sOp2 fAdd (sVar 2) (sLst (yaa (sIsX yca (sVar 3)) (yaa (sIsX ycf (sVar 3)) sNil)))))) = TR at *
 simp [tr]
variable {o0 o2 o3 o1:Option AV}
theorem cnd {V:AV} (i0 : fIx V (.int 0) h = .ok (.str x) h) : (yas (sOp2 fEq (sOp2 fIx (sVar 1) (sLit (.int 0))) (sLit (.str y)))) [o0,some V,o2,o3] h = .ok (decide (x = y)) h:=by
 simp [i0,-fIx]
variable {s1 s2:SS}
theorem ya0 {V:AV} (i0 : fIx V (.int 0) h = .ok (.str x) h) (n : ¬ x = y) : sIf (yas (sOp2 fEq (sOp2 fIx (sVar 1) (sLit (.int 0))) (sLit (.str y)))) s1 s2 [o0,some V,o2,o3] h = s2 [o0,some V,o2,o3] h:=by
 unfold sIf
 rw [cnd i0,decide_eq_false n]
 rfl
theorem za7 {V:AV} (i0 : fIx V (.int 0) h = .ok (.str x) h) : sIf (yas (sOp2 fEq (sOp2 fIx (sVar 1) (sLit (.int 0))) (sLit (.str x)))) s1 s2 [o0,some V,o2,o3] h = s1 [o0,some V,o2,o3] h:=by
 unfold sIf
 rw [cnd i0,decide_eq_true rfl]
 rfl
variable {G:Fn}
theorem run1 {q t k:Nat} {a:AV} {V:AV} (ob : h[q]? = some (.ins 1 [some (.ref p),some (.ref t),some (.ref (t + 1)),some (.ref (t + 2))])) (i1 : fIx V (.int 1) h = .ok a h) (e : G [.ref q,a] h = .ex k h) :
  yan (yah 1 G (sVar 0) (yaa (sOp2 fIx (sVar 1) (sLit (.int 1))) sNil)) [some (.ref q),some V,o2,o3] h = .ex k [some (.ref q),some V,o2,o3] h:=by simp [ob,i1,e,-fIx]
theorem run2 {q t k:Nat} {a b:AV} {V:AV} (ob : h[q]? = some (.ins 1 [some (.ref p),some (.ref t),some (.ref (t + 1)),some (.ref (t + 2))])) (i1 : fIx V (.int 1) h = .ok a h) (i2 : fIx V (.int 2) h = .ok b h) (e : G [.ref q,a,b] h = .ex k h) :
  yan (yah 1 G (sVar 0) (yaa (sOp2 fIx (sVar 1) (sLit (.int 1))) (yaa (sOp2 fIx (sVar 1) (sLit (.int 2))) sNil))) [some (.ref q),some V,o2,o3] h = .ex k [some (.ref q),some V,o2,o3] h:=by simp [ob,i1,i2,e,-fIx]
theorem run3 {q t k:Nat} {a b c:AV} {V:AV} (ob : h[q]? = some (.ins 1 [some (.ref p),some (.ref t),some (.ref (t + 1)),some (.ref (t + 2))])) (i1 : fIx V (.int 1) h = .ok a h) (i2 : fIx V (.int 2) h = .ok b h) (i3 : fIx V (.int 3) h = .ok c h) (e : G [.ref q,a,b,c] h = .ex k h) :
  yan (yah 1 G (sVar 0) (yaa (sOp2 fIx (sVar 1) (sLit (.int 1))) (yaa (sOp2 fIx (sVar 1) (sLit (.int 2))) (yaa (sOp2 fIx (sVar 1) (sLit (.int 3))) sNil)))) [some (.ref q),some V,o2,o3] h = .ex k [some (.ref q),some V,o2,o3] h:=by simp [ob,i1,i2,i3,e,-fIx]
section
variable {h : AH} {q p t k : Nat} {ps : List Pc} {kx : List (Str × Nat × Str)} {ds bs : List (Str × Option Nat × Nat)} {a b c : AV}
theorem zaX (H : Ho h q p t ps kx ds bs) (hk : Kd k) (e : yaO [.ref q,a,b] h = .ex k h) : yar [.ref q,.tup [.str "give",a,b]] h = .ok (.fl (sx k)) h:=by
 refine yde hk ?_
 unfold RB
 rw [za7 (x := "give") rfl]
 exact run2 H.ob rfl rfl e
theorem zbE (H : Ho h q p t ps kx ds bs) (hk : Kd k) (e : ybo [.ref q,a,b] h = .ex k h) : yar [.ref q,.tup [.str "copy_of",a,b]] h = .ok (.fl (sx k)) h:=by
 refine yde hk ?_
 unfold RB
 rw [ya0 (x := "copy_of") rfl (by decide +kernel),za7 (x := "copy_of") rfl]
 exact run2 H.ob rfl rfl e
theorem zbe (H : Ho h q p t ps kx ds bs) (hk : Kd k) (e : yaL [.ref q,a,b] h = .ex k h) : yar [.ref q,.tup [.str "join_to",a,b]] h = .ok (.fl (sx k)) h:=by
 refine yde hk ?_
 unfold RB
 rw [ya0 (x := "join_to") rfl (by decide +kernel),ya0 (x := "join_to") rfl (by decide +kernel),za7 (x := "join_to") rfl]
 exact run2 H.ob rfl rfl e
theorem zaE (H : Ho h q p t ps kx ds bs) (hk : Kd k) (e : yaM [.ref q,a,b,c] h = .ex k h) : yar [.ref q,.tup [.str "put_into",a,b,c]] h = .ok (.fl (sx k)) h:=by
 refine yde hk ?_
 unfold RB
 rw [ya0 (x := "put_into") rfl (by decide +kernel),ya0 (x := "put_into") rfl (by decide +kernel),ya0 (x := "put_into") rfl (by decide +kernel),za7 (x := "put_into") rfl]
 exact run3 H.ob rfl rfl rfl e
theorem zaG (H : Ho h q p t ps kx ds bs) (hk : Kd k) (e : ya9 [.ref q,a,b,c] h = .ex k h) : yar [.ref q,.tup [.str "take_from",a,b,c]] h = .ok (.fl (sx k)) h:=by
 refine yde hk ?_
 unfold RB
 rw [ya0 (x := "take_from") rfl (by decide +kernel),ya0 (x := "take_from") rfl (by decide +kernel),ya0 (x := "take_from") rfl (by decide +kernel),ya0 (x := "take_from") rfl (by decide +kernel),za7 (x := "take_from") rfl]
 exact run3 H.ob rfl rfl rfl e
theorem zaO (H : Ho h q p t ps kx ds bs) (hk : Kd k) (e : yaR [.ref q,a,b] h = .ex k h) : yar [.ref q,.tup [.str "repeat",a,b]] h = .ok (.fl (sx k)) h:=by
 refine yde hk ?_
 unfold RB
 rw [ya0 (x := "repeat") rfl (by decide +kernel),ya0 (x := "repeat") rfl (by decide +kernel),ya0 (x := "repeat") rfl (by decide +kernel),ya0 (x := "repeat") rfl (by decide +kernel),ya0 (x := "repeat") rfl (by decide +kernel),za7 (x := "repeat") rfl]
 exact run2 H.ob rfl rfl e
theorem ziW (H : Ho h q p t ps kx ds bs) (hk : Kd k) (e : ycb [.ref q,a] h = .ex k h) : yar [.ref q,.tup [.str "drop",a]] h = .ok (.fl (sx k)) h:=by
 refine yde hk ?_
 unfold RB
 rw [ya0 (x := "drop") rfl (by decide +kernel),ya0 (x := "drop") rfl (by decide +kernel),ya0 (x := "drop") rfl (by decide +kernel),ya0 (x := "drop") rfl (by decide +kernel),ya0 (x := "drop") rfl (by decide +kernel),ya0 (x := "drop") rfl (by decide +kernel),za7 (x := "drop") rfl]
 exact run1 H.ob rfl e
theorem ziX (H : Ho h q p t ps kx ds bs) (hk : Kd k) (e : yai [.ref q,a] h = .ex k h) : yar [.ref q,.tup [.str "text",a]] h = .ok (.fl (sx k)) h:=by
 refine yde hk ?_
 unfold RB
 rw [ya0 (x := "text") rfl (by decide +kernel),ya0 (x := "text") rfl (by decide +kernel),ya0 (x := "text") rfl (by decide +kernel),ya0 (x := "text") rfl (by decide +kernel),ya0 (x := "text") rfl (by decide +kernel),ya0 (x := "text") rfl (by decide +kernel),ya0 (x := "text") rfl (by decide +kernel)]
 exact run1 H.ob rfl e
end
theorem zgC : ∀ kx : List (Str × Nat × Str),yef ((kx.map kxV).map (·.1)) = some (kx.map (·.1))
 | []=>rfl
 | e :: r=>by
  show (yef ((r.map kxV).map (·.1))).map (e.1 :: ·) = _
  rw [zgC r]; rfl
theorem ziY (h : ybr x = true) : x.cps.all (· < 0x110000) = true:=by
 unfold ybr at h
 simp only [Bool.and_eq_true] at h
 have a:=h.2
 rw [List.all_eq_true] at a
 rw [<- Array.all_toList,List.all_eq_true]
 intro c hc
 have:=a c hc
 unfold ydB at this
 simp only [Bool.and_eq_true,decide_eq_true_eq] at this
 exact decide_eq_true (by lia)
def nmP (p : Str × Nat) : PyData:=.tuple [.str p.1,.int p.2]
theorem yf4 (k : Nat) (hh : AH) : ∀ l : List (Str × Nat),toDs (toD (k + 1) hh) (l.map λp=>AV.tup [.str p.1,.int p.2]) = some (l.map nmP)
 | []=>rfl
 | d :: l=>by
  have e : toD (k + 1) hh (AV.tup [.str d.1,.int d.2]) = some (nmP d):=by cases k<;>rfl
  show (match toD (k + 1) hh (AV.tup [.str d.1,.int d.2]),toDs (toD (k + 1) hh) (l.map λp=>AV.tup [.str p.1,.int p.2]) with | some d,some ds=>some (d :: ds) | _,_=>none) = _
  rw [e,yf4 k hh l]
  rfl
theorem yf5 : ∀ l : List (Str × Nat),PyData.eqvAll (l.map nmP) (l.map nmP) = true
 | []=>by simp [PyData.eqvAll]
 | d :: l=>by rw [List.map_cons]; simp [PyData.eqvAll,PyData.eqv,nmP,yf5 l]
theorem zkb (l : List (Str × Nat)) (n : Nat) (hh : AH) : fNe (.tup [.fl (l.map λp=>AV.tup [.str p.1,.int p.2]),.int n]) (.tup [.fl (l.map λp=>AV.tup [.str p.1,.int p.2]),.int n]) hh = .ok (.bl false) hh:=by
 have d1 : toD 8 hh (.tup [.fl (l.map λp=>AV.tup [.str p.1,.int p.2]),.int n]) = some (.tuple [.list (l.map nmP),.int n]):=by
  show (toDs (toD 7 hh) [.fl (l.map λp=>AV.tup [.str p.1,.int p.2]),.int n]).map PyData.tuple = _
  have e : toD 7 hh (.fl (l.map λp=>AV.tup [.str p.1,.int p.2])) = some (.list (l.map nmP)):=by
   show (toDs (toD 6 hh) (l.map λp=>AV.tup [.str p.1,.int p.2])).map PyData.list = _
   rw [yf4 5]; rfl
  simp only [toDs,e]
  rfl
 have qq : eqA (.tup [.fl (l.map λp=>AV.tup [.str p.1,.int p.2]),.int n]) (.tup [.fl (l.map λp=>AV.tup [.str p.1,.int p.2]),.int n]) hh = some true:=by
  show (match toD 8 hh (.tup [.fl (l.map λp=>AV.tup [.str p.1,.int p.2]),.int n]),toD 8 hh (.tup [.fl (l.map λp=>AV.tup [.str p.1,.int p.2]),.int n]) with | some d,some e=>some (PyData.eqv d e) | _,_=>none) = _
  rw [d1]
  show some (PyData.eqv (.tuple _) (.tuple _)) = _
  simp [PyData.eqv,PyData.eqvAll,yf5]
 show (match eqA (.tup [.fl (l.map λp=>AV.tup [.str p.1,.int p.2]),.int n]) (.tup [.fl (l.map λp=>AV.tup [.str p.1,.int p.2]),.int n]) hh with | some b=>Out.ok (AV.bl (!b)) hh | none=>Out.bad) = _
 rw [qq]; rfl
section
variable {h : AH} {q p t : Nat} {ps : List Pc} {kx : List (Str × Nat × Str)} {ds bs : List (Str × Option Nat × Nat)}
theorem zgD {x : Str} : ∀ {kx : List (Str × Nat × Str)},x ∈ kx.map (·.1) -> ∃ v,lk kx x = some v
 | [],h=>nomatch h
 | e :: r,h=>by
  rw [zaV]
  by_cases z : e.1 = x
  ·exact ⟨e.2,if_pos z⟩
  ·rw [if_neg z]
   rcases List.mem_cons.mp h with h | h
   ·exact absurd h.symm z
   ·exact zgD h
theorem yhH (H : Ho h q p t ps kx ds bs) : ∃ V,yce [.ref q] h = .ok V h /\ fNe V V h = .ok (.bl false) h:=by
 have kt : yfa (.ref t) h = some (kx.map (·.1)):=by
  unfold yfa
  dsimp only
  rw [H.tx]
  exact zgC kx
 have nm : ∀ x ∈ kx.map (·.1),ybr x = true:=λx hx=>by
  obtain ⟨e,he,rfl⟩:=List.mem_map.mp hx
  exact (H.tz e he).2
 have so : yet [.ref t] h = .ok (.fl ((yb5 (kx.map (·.1))).map AV.str)) h:=by
  unfold yet
  dsimp only
  rw [kt]
  dsimp only
  rw [if_pos ⟨by rw [List.length_map]; have:=H.ct; lia,λx hx=>⟨Nat.le_trans (zfk (nm x hx)) (by decide),ziY (nm x hx)⟩⟩]
 have fn : ybx [.ref q] h = .ok (.fl ((yb5 (kx.map (·.1))).map AV.str)) h:=by
  simp [ybx,H.ob,so]
 have fs : ya2 [.ref q] h = .ok (.ref p) h:=by simp [ya2,H.ob]
 have m:=yhA H.sh
 have ob:=H.ob
 have ob2:=H.sh.ob
 have cp:=zc4 (js:=[0]) (en:=[some (.ref q)]) (w:=none) (all:=(yb5 (kx.map (·.1))).map AV.str) (e:=sTup (yaa (sVar 0) (yaa (yah 1 yai (sVar 1) (yaa (sVar 0) sNil)) sNil))) (g:=AV.str) (f:=λx=>AV.tup [.str x,.int (((lk kx x).getD (0, "")).1 : Nat)]) (h:=h) rfl (yb5 (kx.map (·.1))) [] (λx hx=>by
  obtain ⟨v,l⟩:=zgD ((zaT _).mem_iff.mp hx)
  have ft:=ybD H l
  show sTup (yaa (sVar 0) (yaa (yah 1 yai (sVar 1) (yaa (sVar 0) sNil)) sNil)) [some (.str x),some (.ref q)] h = _
  rw [l]
  generalize yai = G at *
  simp [ob,ft]) (by
  rw [(zaT _).length_eq,List.length_map]
  have:=H.ct
  exact Nat.le_trans (m:=50) (by simpa using this) (by decide))
 rw [List.nil_append] at cp
 have it : iVal (yah 1 ybx (sVar 0) sNil) [some (.ref q)] h = .ok ((yb5 (kx.map (·.1))).map AV.str,none) h:=by
  generalize ybx = G at *
  simp [ob,fn]
 have cm : ybk [0] (iVal (yah 1 ybx (sVar 0) sNil)) sYes (sTup (yaa (sVar 0) (yaa (yah 1 yai (sVar 1) (yaa (sVar 0) sNil)) sNil))) [some (.ref q)] h = .ok (.fl ((yb5 (kx.map (·.1))).map λx=>AV.tup [.str x,.int (((lk kx x).getD (0, "")).1 : Nat)])) h:=by
  unfold ybk
  rw [it]
  dsimp only
  rw [cp]
 have el : (yb5 (kx.map (·.1))).map (λx=>AV.tup [.str x,.int (((lk kx x).getD (0, "")).1 : Nat)]) = ((yb5 (kx.map (·.1))).map λx=>(x,((lk kx x).getD (0, "")).1)).map λp=>AV.tup [.str p.1,.int p.2]:=by rw [List.map_map]; rfl
 refine ⟨.tup [.fl ((yb5 (kx.map (·.1))).map λx=>AV.tup [.str x,.int (((lk kx x).getD (0, "")).1 : Nat)]),.int ps.length],?_,by rw [el]; exact zkb _ _ _⟩
 unfold yce
 generalize (yb5 (kx.map (·.1))).map (λx=>AV.tup [.str x,.int (((lk kx x).getD (0, "")).1 : Nat)]) = L at *
 generalize ybk [0] (iVal (yah 1 ybx (sVar 0) sNil)) sYes (sTup (yaa (sVar 0) (yaa (yah 1 yai (sVar 1) (yaa (sVar 0) sNil)) sNil))) = CM at *
 generalize ya2 = G at *
 simp [cm,ob,fs,ob2,m]
end
def kdN (c : Nat) : Nat:=if c = 7 then 0 else if c = 1 then 1 else if c = 6 then 2 else 3
theorem zkc (hc : Kd c) (r0 r1 r3 r4 : Option AV) (h : AH) : ybk [2] (ybS (sLit (.int 6))) sYes (sOrV (sOp2 fEq (sVar 0) (sVar 1)) (sOp2 fEq (sVar 0) (sLit (.int 5)))) [r0,r1,some (.int (kdN c)),r3,r4] h = .ok (.fl (sx c)) h:=by
 rcases hc with rfl | rfl | rfl | rfl<;>rfl
theorem yiG (hc : Kd c) (h : AH) : fNe (.fl (sx c)) (.fl (sx c)) h = .ok (.bl false) h:=by
 rcases hc with rfl | rfl | rfl | rfl<;>rfl
variable {ps ps' ps1:List Pc} {kx:List (Str × Nat × Str)} {ds:List (Str × Option Nat × Nat)}
theorem yeW {q t:Nat} {bs:List (Str × Option Nat × Nat)} {l:List AV} (H : Ho h q p t ps kx ds bs) (hc : Kd c) (hd : ∀ d ∈ l,yar [.ref q,d] h = .ok (.fl (sx c)) h) : yaZ [.ref q,.fl l,.int (kdN c)] h = .ok (.bl true) h:=by
 obtain ⟨V,fs,nv⟩:=yhH H
 have kd:=λr0 r1 r3 r4=>zkc hc r0 r1 r3 r4 h
 have ns:=yiG hc h
 obtain ⟨e',h',r,o4,rfl,eh⟩:=ydS (w:=none) (all:=l) (t:=.nm 4) (b:=yb3) (xs:=l) (en:=[some (.ref q),some (.fl l),some (.int (kdN c)),some V,none]) (h:=h)
  (λj en hh=>∃ o4,en = [some (.ref q),some (.fl l),some (.int (kdN c)),some V,o4] /\ hh = h) ⟨none,rfl,rfl⟩ (λ_ _ _ _=>rfl) (by
   rintro j x en hh hx ⟨o4,rfl,rfl⟩
   have fr:=hd x (List.mem_of_getElem? hx)
   have b : yb3 [some (.ref q),some (.fl l),some (.int (kdN c)),some V,some x] hh = .nx [some (.ref q),some (.fl l),some (.int (kdN c)),some V,some x] hh:=by
    have k:=kd (some (.ref q)) (some (.fl l)) (some V) (some x)
    generalize sx c = S at *
    generalize (kdN c : Int) = K at *
    unfold yb3
    generalize ybk [2] (ybS (sLit (.int 6))) sYes (sOrV (sOp2 fEq (sVar 0) (sVar 1)) (sOp2 fEq (sVar 0) (sLit (.int 5)))) = CM at *
    generalize yar = G at *
    generalize yce = G2 at *
    simp [fr,k,ns,fs,nv,-fNe]
   show thn (yb3 [some (.ref q),some (.fl l),some (.int (kdN c)),some V,some x] hh) _
   rw [b]
   exact ⟨_,rfl,rfl⟩)
 rw [eh] at r
 have it : iVal (sVar 1) [some (.ref q),some (.fl l),some (.int (kdN c)),some V,none] h = .ok (l,none) h:=rfl
 have lp:=(ydz (t:=.nm 4) (b:=yb3) it).trans r
 unfold yaZ
 generalize (kdN c : Int) = K at *
 generalize sFor (iVal (sVar 1)) (.nm 4) yb3 = FF at *
 generalize yce = G2 at *
 simp [fs,lp]
theorem ziZ {m:Ms} {k:Nat} (S : ShelfAt h p ps) (em : (meas ps)[n]? = some m) (hs : m.sg <= 1000000000000000000) (hk : 1000000000000000000 < m.sg * k) : ybd [.ref p,.int n,.int k] h = .ex 5 h:=by
 have fs:=zal S em
 have lt : fLt (.int k) (.int 0) h = .ok (.bl false) h:=by
  have : ¬ (k : Int) < 0:=by lia
  simp only [fLt,this,decide_false]
 have ml : fMul (.int m.sg) (.int k) h = .ok (.int ((m.sg * k : Nat) : Int)) h:=by
  rw [yfW (Nat.lt_of_le_of_lt (m:=1000000000000000000) (by lia) (by decide)),<- Int.natCast_mul]
 have ck : yaP [.int ((m.sg * k : Nat) : Int)] h = .ex 5 h:=by
  have : (1000000000000000000 : Int) < ((m.sg * k : Nat) : Int):=by lia
  generalize ((m.sg * k : Nat) : Int) = MK at *
  simp [yaP,this]
 unfold ybd
 generalize yaY 64 = G at *
 generalize ((m.sg * k : Nat) : Int) = MK at *
 simp [S.ob,fs,lt,ml,ck,-fLt,-fMul]
theorem zkd {m:Ms} {k:Int} (S : ShelfAt h p ps) (em : (meas ps)[n]? = some m) (hk : k < 0) : ybd [.ref p,.int n,.int k] h = .ex 6 h:=by
 have fs:=zal S em
 have lt : fLt (.int k) (.int 0) h = .ok (.bl true) h:=by simp only [fLt,hk,decide_true]
 unfold ybd
 generalize yaY 64 = G at *
 simp [S.ob,fs,lt,-fLt]
section
variable {h : AH} {q p t : Nat} {ps : List Pc} {kx : List (Str × Nat × Str)} {ds bs : List (Str × Option Nat × Nat)} {u v w : AV}
theorem zke (H : Ho h q p t ps kx ds bs) (o : yai [.ref q,v] h = .ex yaJ h) : ycb [.ref q,v] h = .ex yaJ h:=by
 unfold ycb
 generalize yai = G at *
 generalize yav = G2 at *
 simp [H.ob,o]
theorem zi0 (H : Ho h q p t ps kx ds bs) (o : yai [.ref q,v] h = .ex yaJ h) : yaL [.ref q,v,w] h = .ex yaJ h:=by
 unfold yaL
 generalize yai = G at *
 generalize yav = G2 at *
 generalize yaF = G3 at *
 simp [H.ob,o]
theorem zi1 (H : Ho h q p t ps kx ds bs) {e:Nat × Str} (l : lk kx x = some e) (o : yai [.ref q,v] h = .ex yaJ h) : yaL [.ref q,.str x,v] h = .ex yaJ h:=by
 have ft:=ybD H l
 unfold yaL
 generalize yai = G at *
 generalize yav = G2 at *
 generalize yaF = G3 at *
 simp [H.ob,ft,o]
theorem zgE (H : Ho h q p t ps kx ds bs) (o : yai [.ref q,v] h = .ex yaJ h) : yaM [.ref q,v,u,w] h = .ex yaJ h:=by
 unfold yaM
 generalize yai = G at *
 generalize yav = G2 at *
 generalize yb2 = G3 at *
 simp [H.ob,o]
theorem zkf (H : Ho h q p t ps kx ds bs) {e:Nat × Str} (l : lk kx x = some e) (o : yai [.ref q,v] h = .ex yaJ h) : yaM [.ref q,.str x,u,v] h = .ex yaJ h:=by
 have ft:=ybD H l
 unfold yaM
 generalize yai = G at *
 generalize yav = G2 at *
 generalize yb2 = G3 at *
 simp [H.ob,ft,o]
theorem zkg (H : Ho h q p t ps kx ds bs) (o : yai [.ref q,v] h = .ex yaJ h) : ya9 [.ref q,v,u,w] h = .ex yaJ h:=by
 unfold ya9
 generalize yai = G at *
 generalize yav = G2 at *
 generalize yci = G3 at *
 simp [H.ob,o]
theorem yhI (H : Ho h q p t ps kx ds bs) (o : yai [.ref q,v] h = .ex yaJ h) : yaR [.ref q,v,w] h = .ex yaJ h:=by
 unfold yaR
 generalize yai = G at *
 generalize yav = G2 at *
 generalize ybd = G3 at *
 simp [H.ob,o]
theorem zi2 (H : Ho h q p t ps kx ds bs) (hx : ybr x = true) (o : yai [.ref q,v] h = .ex yaJ h) : ybo [.ref q,.str x,v] h = .ex yaJ h:=by
 have ck:=zbn hx h
 unfold ybo
 generalize yai = G at *
 generalize yav = G2 at *
 generalize ya7 = G3 at *
 simp [H.ob,ck,o]
theorem zfl (nm : ybe [v] h = .ok (.bl false) h) : ybo [.ref q,v,w] h = .ex yaJ h:=by
 have ck:=zdy nm
 unfold ybo
 generalize yai = G at *
 generalize yav = G2 at *
 generalize ya7 = G3 at *
 simp [ck]
theorem zdY (nm : ybe [v] h = .ok (.bl false) h) : yaO [.ref q,v,w] h = .ex yaJ h:=by
 have ck:=zdy nm
 unfold yaO
 generalize ybL = G at *
 generalize yav = G2 at *
 generalize ya7 = G3 at *
 simp [ck]
theorem zfm (H : Ho h q p t ps kx ds bs) (hx : ybr x = true) (np : ybq [v] h = .ok (.bl false) h) : yaO [.ref q,.str x,v] h = .ex ye2 h:=by
 have ck:=zbn hx h
 have fb : ybL [.ref p,v] h = .ex ye2 h:=by
  unfold ybL
  generalize ybq = G at *
  generalize yby 20 = G2 at *
  simp [np]
 unfold yaO
 generalize ybL = G at *
 generalize yav = G2 at *
 generalize ya7 = G3 at *
 simp [H.ob,ck,fb]
theorem yhJ {m:Ms} {a:Int} (S : ShelfAt h p ps) (em : (meas ps)[n]? = some m) (no : ¬ (0 <= a /\ a <= m.sg)) : ybA [.ref p,.int n,.int a] h = .ex ycd h:=by
 have fs:=zal S em
 by_cases q1 : 0 <= a
 ·have q2 : ¬ a <= (m.sg : Int):=λz=>no ⟨q1,z⟩
  simp [ybA,S.ob,fs,q1,q2]
 ·simp [ybA,S.ob,fs,q1]
theorem yhK {m:Ms} {a:Int} (S : ShelfAt h p ps) (em : (meas ps)[n]? = some m) (q1 : 0 <= a) (q2 : a <= m.sg) : ybA [.ref p,.int n,.int a] h = .ok .non h:=by
 have fs:=zal S em
 simp [ybA,S.ob,fs,q1,q2]
theorem zev (H : Ho h q p t ps kx ds bs) {e f:Nat × Str} {a:Int} (l : lk kx x = some e) (l2 : lk kx y = some f) (no : ¬ (0 <= a /\ a <= e.2.length)) : yaM [.ref q,.str x,.int a,.str y] h = .ex ycd h:=by
 have ft:=ybD H l
 have ft2:=ybD H l2
 obtain ⟨m,em,sm⟩:=(H.tz _ (ybs l)).1.meas
 obtain ⟨m2,em2,sm2⟩:=(H.tz _ (ybs l2)).1.meas
 have g:=yhJ H.sh em (by rw [sm]; exact no)
 have fs:=zal H.sh em
 have fs2:=zal H.sh em2
 have fp : yb2 [.ref p,.int e.1,.int a,.int f.1] h = .ex ycd h:=by
  unfold yb2
  generalize ybA = G at *
  generalize yaP = G2 at *
  simp [H.sh.ob,fs,fs2,g]
 unfold yaM
 generalize yai = G at *
 generalize yav = G2 at *
 generalize yb2 = G3 at *
 simp [H.ob,ft,ft2,fp]
theorem za3 (H : Ho h q p t ps kx ds bs) {e:Nat × Str} {a b:Int} (l : lk kx x = some e) (no : ¬ (0 <= a /\ a <= b /\ b <= e.2.length)) : ya9 [.ref q,.str x,.int a,.int b] h = .ex ycd h:=by
 have ft:=ybD H l
 obtain ⟨m,em,sm⟩:=(H.tz _ (ybs l)).1.meas
 have fs:=zal H.sh em
 have ck : ybv [.ref p,.int e.1,.int a,.int b] h = .ex ycd h:=by
  have sm' : (m.sg : Int) = e.2.length:=by rw [sm]
  by_cases q1 : 0 <= a
  ·by_cases q2 : a <= b
   ·have q3 : ¬ b <= (m.sg : Int):=λz=>no ⟨q1,q2,sm' ▸ z⟩
    simp [ybv,H.sh.ob,fs,q1,q2,q3,ydu]
   ·simp [ybv,H.sh.ob,fs,q1,q2,ydu]
  ·simp [ybv,H.sh.ob,fs,q1,ydu]
 have fp : yci [.ref p,.int e.1,.int a,.int b] h = .ex ycd h:=by
  unfold yci
  generalize ybv = G at *
  simp [ck]
 unfold ya9
 generalize yai = G at *
 generalize yav = G2 at *
 generalize yci = G3 at *
 simp [H.ob,ft,fp]
theorem zcs (H : Ho h q p t ps kx ds bs) {e:Nat × Str} {k:Int} (l : lk kx x = some e) (no : k < 0) : yaR [.ref q,.str x,.int k] h = .ex ycd h:=by
 have ft:=ybD H l
 obtain ⟨m,em,sm⟩:=(H.tz _ (ybs l)).1.meas
 have fr:=zkd H.sh em no
 unfold yaR
 generalize yai = G at *
 generalize yav = G2 at *
 generalize ybd = G3 at *
 simp [H.ob,ft,fr]
theorem zew (H : Ho h q p t ps kx ds bs) (hx : ybr x = true) (py : yaA y = true) (l1 : 10000 < y.length) (l2 : y.length <= 30000) : yaO [.ref q,.str x,.str y] h = .ex ybX h:=by
 have ck:=zbn hx h
 have np:=zbL y h (Nat.le_trans l2 (by decide))
 rw [py] at np
 have g : (10000 : Int) < y.length:=by lia
 have fb : ybL [.ref p,.str y] h = .ex ybX h:=by
  unfold ybL
  generalize ybq = G at *
  generalize yby 20 = G2 at *
  simp [np,g]
 unfold yaO
 generalize ybL = G at *
 generalize yav = G2 at *
 generalize ya7 = G3 at *
 simp [H.ob,ck,fb]
theorem yf6 {a : Int} (g : 1000000000000000000 < a) (hh : AH) : yaP [.int a] hh = .ex ybX hh:=by
 simp [yaP,g]
theorem zex (H : Ho h q p t ps kx ds bs) {e f:Nat × Str} (l : lk kx x = some e) (l2 : lk kx y = some f) (lg : 1000000000000000000 < e.2.length + f.2.length) : yaL [.ref q,.str x,.str y] h = .ex ybX h:=by
 have ft:=ybD H l
 have ft2:=ybD H l2
 obtain ⟨m,em,sm⟩:=(H.tz _ (ybs l)).1.meas
 obtain ⟨m2,em2,sm2⟩:=(H.tz _ (ybs l2)).1.meas
 have fs:=zal H.sh em
 have fs2:=zal H.sh em2
 have ck:=yf6 (a:=(m.sg : Int) + m2.sg) (by rw [sm,sm2]; show (1000000000000000000 : Int) < (e.2.length : Int) + f.2.length; lia) h
 have fp : yaF [.ref p,.int e.1,.int f.1] h = .ex ybX h:=by
  unfold yaF
  generalize yaP = G2 at *
  generalize ybb 90 = G3 at *
  generalize ycq = G4 at *
  generalize ycE = G5 at *
  simp [H.sh.ob,fs,fs2,ck]
 unfold yaL
 generalize yai = G at *
 generalize yav = G2 at *
 generalize yaF = G3 at *
 simp [H.ob,ft,ft2,fp]
theorem zfn (H : Ho h q p t ps kx ds bs) {e f:Nat × Str} {a:Int} (l : lk kx x = some e) (l2 : lk kx y = some f) (a0 : 0 <= a) (a1 : a <= e.2.length) (lg : 1000000000000000000 < e.2.length + f.2.length) : yaM [.ref q,.str x,.int a,.str y] h = .ex ybX h:=by
 have ft:=ybD H l
 have ft2:=ybD H l2
 obtain ⟨m,em,sm⟩:=(H.tz _ (ybs l)).1.meas
 obtain ⟨m2,em2,sm2⟩:=(H.tz _ (ybs l2)).1.meas
 have g:=yhK H.sh em a0 (by rw [sm]; exact a1)
 have fs:=zal H.sh em
 have fs2:=zal H.sh em2
 have ck:=yf6 (a:=(m.sg : Int) + m2.sg) (by rw [sm,sm2]; show (1000000000000000000 : Int) < (e.2.length : Int) + f.2.length; lia) h
 have fp : yb2 [.ref p,.int e.1,.int a,.int f.1] h = .ex ybX h:=by
  unfold yb2
  generalize ybA = G at *
  generalize yaP = G2 at *
  simp [H.sh.ob,fs,fs2,g,ck]
 unfold yaM
 generalize yai = G at *
 generalize yav = G2 at *
 generalize yb2 = G3 at *
 simp [H.ob,ft,ft2,fp]
theorem zdb (H : Ho h q p t ps kx ds bs) {e:Nat × Str} {k:Nat} (l : lk kx x = some e) (le : e.2.length <= 1000000000000000000) (lg : 1000000000000000000 < e.2.length * k) : yaR [.ref q,.str x,.int k] h = .ex ybX h:=by
 have ft:=ybD H l
 obtain ⟨m,em,sm⟩:=(H.tz _ (ybs l)).1.meas
 have fr:=ziZ H.sh em (by rw [sm]; exact le) (by rw [sm]; exact lg)
 unfold yaR
 generalize yai = G at *
 generalize yav = G2 at *
 generalize ybd = G3 at *
 simp [H.ob,ft,fr]
end
variable {X:SE} {en:En}
theorem ycr {l m:List AV} (e1 : en[i]? = some (some (.fl l))) (eX : X en hh = .ok (.fl m) hh) (sz : l.length + m.length <= 1000000) : sSet i (sOp2 fAdd (sVar i) X) en hh = .nx (en.set i (some (.fl (l++m)))) hh:=by
 have : l.length + m.length <= sizeLine:=Nat.le_trans sz (by decide)
 have ad : fAdd (.fl l) (.fl m) hh = .ok (.fl (l++m)) hh:=by simp only [fAdd,ybT,this,if_true]
 simp [e1,eX,ad,-fAdd]
theorem yeX {e1:En} (e : s1 en hh = .nx e1 h1) : sSeq s1 s2 en hh = s2 e1 h1:=by
 unfold sSeq; rw [e]
theorem zaY {n:String} (e : tyN v h = some n) (q : (n == "str") = false) : ybe [v] h = .ok (.bl false) h:=by
 simp [ybe,e,q,-tyN]
theorem zaL (hx : ybr x = false) (lx : x.length <= 1000) (hh : AH) : ybe [.str x] hh = .ok (.bl false) hh:=by
 rw [yfj x hh (Nat.le_trans lx (by decide)),hx]
abbrev dA1 (v : AV) : List AV:=[.tup [.str "drop",v],.tup [.str "text",v],.tup [.str "join_to",v,.str "a"],.tup [.str "join_to",.str "a",v]]
abbrev dA2 (v : AV) : List AV:=[.tup [.str "put_into",v,.int (-1),.str "a"],.tup [.str "put_into",.str "a",.int (-1),v],.tup [.str "take_from",v,.int 5,.int 3]]
abbrev dA3 (v : AV) : List AV:=[.tup [.str "repeat",v,.int (-1)],.tup [.str "copy_of",.str "new",v],.tup [.str "put_into",v,.int 0,v]]
theorem zhX {l:List AV} (ll : l.length <= 1000) : ybm [some (.str "a"),some (.fl l),some v] hh = .nx [some (.str "a"),some (.fl (l++dA1 v++dA2 v++dA3 v)),some v] hh:=by
 unfold ybm
 rw [yeX (ycr (i:=1) (m:=dA1 v) rfl rfl (by simp; lia)),yeX (ycr (i:=1) (m:=dA2 v) rfl rfl (by simp; lia))]
 exact ycr (i:=1) (m:=dA3 v) rfl rfl (by simp; lia)
abbrev dB1 (v : AV) : List AV:=[.tup [.str "give",v,.str "x"],.tup [.str "give",v,.non],.tup [.str "copy_of",v,.str "a"],.tup [.str "copy_of",v,.str "none"]]
theorem yeA {z : Str} {k : Nat} (hk : k <= 20000) (lz : z.length <= 10) (hh : AH) : ya8 (.str z) (.int k) hh = .ok (.str (repS z k)) hh:=by
 have : ((k : Int).natAbs < 2 ^ 40 /\ z.length * (k : Int).toNat <= 1000000):=⟨by lia,by
  rw [Int.toNat_natCast]
  exact Nat.le_trans (Nat.mul_le_mul lz hk) (by decide)⟩
 simp only [ya8,this,and_self,if_true]
 rw [Int.toNat_natCast]
theorem zhY {l:List AV} (ll : l.length <= 1000) : ybn [some (.str "a"),some (.fl l),some v] hh = .nx [some (.str "a"),some (.fl (l++dB1 v++[.tup [.str "give",v,.str (repS "y" 10001)]])),some v] hh:=by
 unfold ybn
 rw [yeX (ycr (i:=1) (m:=dB1 v) rfl rfl (by simp; lia))]
 refine ycr (i:=1) (m:=[.tup [.str "give",v,.str (repS "y" 10001)]]) rfl ?_ (by simp; lia)
 have mu:=yeA (z := "y") (k:=10001) (by decide) (by decide +kernel) hh
 generalize repS "y" 10001 = Y at *
 have mu' : ya8 (.str "y") (.int 10001) hh = .ok (.str Y) hh:=mu
 simp [mu',-ya8]
section
variable {h : AH} {q p t : Nat} {ps : List Pc} {kx : List (Str × Nat × Str)} {ds bs : List (Str × Option Nat × Nat)} {e : Nat × Str}
theorem dueA (H : Ho h q p t ps kx ds bs) (l : lk kx "a" = some e) (o : yai [.ref q,v] h = .ex yaJ h) : ∀ d ∈ dA1 v++dA2 v++dA3 v,yar [.ref q,d] h = .ok (.fl (sx 7)) h:=by
 have k : Kd 7:=.inl rfl
 intro d hd
 simp only [List.mem_append,List.mem_cons,List.not_mem_nil,or_false] at hd
 rcases hd with ((rfl | rfl | rfl | rfl) | rfl | rfl | rfl) | rfl | rfl | rfl
 ·exact ziW H k (zke H o)
 ·exact ziX H k o
 ·exact zbe H k (zi0 H o)
 ·exact zbe H k (zi1 H l o)
 ·exact zaE H k (zgE H o)
 ·exact zaE H k (zkf H l o)
 ·exact zaG H k (zkg H o)
 ·exact zaO H k (yhI H o)
 ·exact zbE H k (zi2 H (by decide +kernel) o)
 ·exact zaE H k (zgE H o)
theorem dueB (H : Ho h q p t ps kx ds bs) (nm : ybe [v] h = .ok (.bl false) h) (y : Str) : ∀ d ∈ dB1 v++[.tup [.str "give",v,.str y]],yar [.ref q,d] h = .ok (.fl (sx 7)) h:=by
 have k : Kd 7:=.inl rfl
 intro d hd
 simp only [List.mem_append,List.mem_cons,List.not_mem_nil,or_false] at hd
 rcases hd with (rfl | rfl | rfl | rfl) | rfl
 ·exact zaX H k (zdY nm)
 ·exact zaX H k (zdY nm)
 ·exact zbE H k (zfl nm)
 ·exact zbE H k (zfl nm)
 ·exact zaX H k (zdY nm)
abbrev lsA : List AV:=[.str "",.str "A",.str "abcdefghi",.str "a1",.str "a b",.str "none",.str "nonesuch"]
abbrev lsB (D : Nat) : List AV:=[.str "",.str "A",.str "abcdefghi",.str "a1",.non,.int 7,.int 0,.bl true,.fl [.str "a"],.tup [.str "a"],.ref D,.str "a\n"]
theorem yhL (H : Ho h q p t ps kx ds bs) (n1 : lk kx "none" = none) (n2 : lk kx "nonesuch" = none) : ∀ v ∈ lsA,yai [.ref q,v] h = .ex yaJ h:=by
 intro v hv
 simp only [List.mem_cons,List.not_mem_nil,or_false] at hv
 rcases hv with rfl | rfl | rfl | rfl | rfl | rfl | rfl
 ·exact zbg H (zaL (by decide +kernel) (by decide +kernel) h)
 ·exact zbg H (zaL (by decide +kernel) (by decide +kernel) h)
 ·exact zbg H (zaL (by decide +kernel) (by decide +kernel) h)
 ·exact zbg H (zaL (by decide +kernel) (by decide +kernel) h)
 ·exact zbg H (zaL (by decide +kernel) (by decide +kernel) h)
 ·exact zdx H (by decide +kernel) n1
 ·exact zdx H (by decide +kernel) n2
theorem yhM (eD : h[D]? = some (.dct false [])) : ∀ v ∈ lsB D,ybe [v] h = .ok (.bl false) h:=by
 intro v hv
 simp only [List.mem_cons,List.not_mem_nil,or_false] at hv
 rcases hv with rfl | rfl | rfl | rfl | rfl | rfl | rfl | rfl | rfl | rfl | rfl | rfl
 ·exact zaL (by decide +kernel) (by decide +kernel) h
 ·exact zaL (by decide +kernel) (by decide +kernel) h
 ·exact zaL (by decide +kernel) (by decide +kernel) h
 ·exact zaL (by decide +kernel) (by decide +kernel) h
 ·exact zaY rfl (by decide)
 ·exact zaY rfl (by decide)
 ·exact zaY rfl (by decide)
 ·exact zaY rfl (by decide)
 ·exact zaY rfl (by decide)
 ·exact zaY rfl (by decide)
 ·exact zaY (n := "dict") (by simp [eD]) (by decide)
 ·exact zaL (by decide +kernel) (by decide +kernel) h
theorem zfM (H : Ho h q p t ps kx ds bs) (l : lk kx "a" = some e) (n1 : lk kx "none" = none) (n2 : lk kx "nonesuch" = none) :
  ∃ L,ybw [.str "a"] h = .ok (.fl L) (h++[.dct false []]) /\ ∀ d ∈ L,yar [.ref q,d] (h++[.dct false []]) = .ok (.fl (sx 7)) (h++[.dct false []]):=by
 have H2:=H.app [.dct false []]
 have eD : (h++[AO.dct false []])[h.length]? = some (.dct false []):=by simp
 obtain ⟨e1,h1,r1,o2,L1,rfl,rfl,g1,l1⟩:=ydS (w:=none) (all:=lsA) (t:=.nm 2) (b:=ybm) (xs:=lsA) (en:=[some (.str "a"),some (.fl []),none]) (h:=h)
  (λj en hh=>∃ o2 L,en = [some (.str "a"),some (.fl L),o2] /\ hh = h /\ (∀ d ∈ L,yar [.ref q,d] (h++[.dct false []]) = .ok (.fl (sx 7)) (h++[.dct false []])) /\ L.length <= 10 * j) ⟨none,[],rfl,rfl,λd hd=>(nomatch hd),by simp⟩ (λ_ _ _ _=>rfl) (by
   rintro j x en hh hx ⟨o2,L,rfl,rfl,g,ll⟩
   have hj:=(List.getElem?_eq_some_iff.mp hx).1
   have o:=yhL H2 n1 n2 x (List.mem_of_getElem? hx)
   show thn (ybm [some (.str "a"),some (.fl L),some x] hh) _
   rw [zhX (by simp at hj; lia)]
   refine ⟨_,_,rfl,rfl,λd hd=>?_,by simp; lia⟩
   rw [List.append_assoc,List.append_assoc,List.mem_append,<- List.append_assoc] at hd
   exact hd.elim (g d) (dueA H2 l o d))
 obtain ⟨e2,h2,r2,o3,L2,rfl,rfl,g2,l2⟩:=ydS (w:=none) (all:=lsB h1.length) (t:=.nm 2) (b:=ybn) (xs:=lsB h1.length) (en:=[some (.str "a"),some (.fl L1),o2]) (h:=h1++[.dct false []])
  (λj en hh=>∃ o2 L,en = [some (.str "a"),some (.fl L),o2] /\ hh = h1++[.dct false []] /\ (∀ d ∈ L,yar [.ref q,d] (h1++[.dct false []]) = .ok (.fl (sx 7)) (h1++[.dct false []])) /\ L.length <= 100 + 5 * j) ⟨o2,L1,rfl,rfl,g1,by simp at l1; lia⟩ (λ_ _ _ _=>rfl) (by
   rintro j x en hh hx ⟨o2,L,rfl,rfl,g,ll⟩
   have hj:=(List.getElem?_eq_some_iff.mp hx).1
   have nm:=yhM eD x (List.mem_of_getElem? hx)
   show thn (ybn [some (.str "a"),some (.fl L),some x] (h1++[.dct false []])) _
   rw [zhY (by simp at hj; lia)]
   have gd:=dueB H2 nm (repS "y" 10001)
   generalize repS "y" 10001 = Y at *
   refine ⟨_,_,rfl,rfl,λd hd=>?_,by simp; lia⟩
   rw [List.append_assoc,List.mem_append] at hd
   exact hd.elim (g d) (gd d))
 have i1 : iVal (sLst (yaa (sLit (.str "")) (yaa (sLit (.str "A")) (yaa (sLit (.str "abcdefghi")) (yaa (sLit (.str "a1")) (yaa (sLit (.str "a b")) (yaa (sLit (.str "none")) (yaa (sLit (.str "nonesuch")) sNil)))))))) [some (.str "a"),some (.fl []),none] h1 = .ok (lsA,none) h1:=rfl
 have i2 : iVal (sLst (yaa (sLit (.str "")) (yaa (sLit (.str "A")) (yaa (sLit (.str "abcdefghi")) (yaa (sLit (.str "a1")) (yaa (sLit .non) (yaa (sLit (.int 7)) (yaa (sLit (.int 0)) (yaa (sLit (.bl true)) (yaa (sLst (yaa (sLit (.str "a")) sNil)) (yaa (sTup (yaa (sLit (.str "a")) sNil)) (yaa (ycL false) (yaa (sLit (.str "a\n")) sNil))))))))))))) [some (.str "a"),some (.fl L1),o2] h1 = .ok (lsB h1.length,none) (h1++[.dct false []]):=rfl
 have f1:=(ydz (t:=.nm 2) (b:=ybm) i1).trans r1
 have f2:=(ydz (t:=.nm 2) (b:=ybn) i2).trans r2
 refine ⟨L2,?_,g2⟩
 have s0 : sSet 1 (sLst sNil) [some (.str "a"),none,none] h1 = .nx [some (.str "a"),some (.fl []),none] h1:=rfl
 unfold ybw
 generalize sSet 1 (sLst sNil) = S0 at *
 generalize sFor (iVal (sLst (yaa (sLit (.str "")) (yaa (sLit (.str "A")) (yaa (sLit (.str "abcdefghi")) (yaa (sLit (.str "a1")) (yaa (sLit (.str "a b")) (yaa (sLit (.str "none")) (yaa (sLit (.str "nonesuch")) sNil))))))))) (.nm 2) ybm = FA at *
 generalize sFor (iVal (sLst (yaa (sLit (.str "")) (yaa (sLit (.str "A")) (yaa (sLit (.str "abcdefghi")) (yaa (sLit (.str "a1")) (yaa (sLit .non) (yaa (sLit (.int 7)) (yaa (sLit (.int 0)) (yaa (sLit (.bl true)) (yaa (sLst (yaa (sLit (.str "a")) sNil)) (yaa (sTup (yaa (sLit (.str "a")) sNil)) (yaa (ycL false) (yaa (sLit (.str "a\n")) sNil)))))))))))))) (.nm 2) ybn = FB at *
 generalize h1++[AO.dct false []] = H3 at *
 simp [s0,f1,f2]
end
theorem zkh : yaA (repS "\t" 10001) = false:=by
 have:=zbq "\t" 1 10000
 rw [<- this,zaI,zbO]
 have : yaA "\t" = false:=by decide +kernel
 rw [this]; rfl
theorem yd8 {n:String} (e : tyN v h = some n) (q : (n == "str") = false) : ybq [v] h = .ok (.bl false) h:=by
 simp [ybq,e,q,-tyN]
theorem yeY {z : Str} (h : yaA z = true) : ∀ n,yaA (repS z n) = true
 | 0=>by rw [zb8]; rfl
 | n + 1=>by rw [<- zbq z n 1,zaI,yeY h n,zbO,h]; rfl
abbrev dP1 (o a sg : AV) : List AV:=[.tup [.str "put_into",.str "a",a,o],.tup [.str "take_from",.str "a",a,sg]]
abbrev dP2 (a : AV) : List AV:=[.tup [.str "take_from",.str "a",.int 0,a],.tup [.str "put_into",.str "a",a,.str "huge"],.tup [.str "take_from",.str "a",a,a]]
theorem zki {l:List AV} {o a sg fr:AV} (ll : l.length <= 1000) : ybg [some (.str "a"),some o,some sg,some fr,some (.fl l),some a] hh = .nx [some (.str "a"),some o,some sg,some fr,some (.fl (l++dP1 o a sg++dP2 a)),some a] hh:=by
 unfold ybg
 rw [yeX (ycr (i:=4) (m:=dP1 o a sg) rfl rfl (by simp; lia))]
 exact ycr (i:=4) (m:=dP2 a) rfl rfl (by simp; lia)
section
variable {h : AH} {q p t : Nat} {ps : List Pc} {kx : List (Str × Nat × Str)} {ds bs : List (Str × Option Nat × Nat)} {e f g : Nat × Str}
theorem dueP (H : Ho h q p t ps kx ds bs) (l : lk kx "a" = some e) (l2 : lk kx y = some f) (l3 : lk kx "huge" = some g) {a:Int} (no : ¬ (0 <= a /\ a <= e.2.length)) : ∀ d ∈ dP1 (.str y) (.int a) (.int e.2.length)++dP2 (.int a),yar [.ref q,d] h = .ok (.fl (sx 6)) h:=by
 have k : Kd 6:=.inr (.inr (.inl rfl))
 intro d hd
 simp only [List.mem_append,List.mem_cons,List.not_mem_nil,or_false] at hd
 rcases hd with (rfl | rfl) | rfl | rfl | rfl
 ·exact zaE H k (zev H l l2 no)
 ·exact zaG H k (za3 H l (by lia))
 ·exact zaG H k (za3 H l (by lia))
 ·exact zaE H k (zev H l l3 no)
 ·exact zaG H k (za3 H l (by lia))
theorem zfo (H : Ho h q p t ps kx ds bs) (l : lk kx "a" = some e) (l2 : lk kx y = some f) (l3 : lk kx "huge" = some g) {far:Int} (hf : 0 <= far) (s1 : 1 <= e.2.length) :
  ∃ L,ybh [.str "a",.str y,.int e.2.length,.int far] h = .ok (.fl L) h /\ ∀ d ∈ L,yar [.ref q,d] h = .ok (.fl (sx 6)) h:=by
 have k : Kd 6:=.inr (.inr (.inl rfl))
 obtain ⟨sg,es⟩ : ∃ sg : Int,sg = (e.2.length : Int):=⟨_,rfl⟩
 have no : ∀ a ∈ [(-1 : Int),sg + 1,sg + 1 + far,-1 - far],¬ (0 <= a /\ a <= (e.2.length : Int)):=λa ha=>by
  simp only [List.mem_cons,List.not_mem_nil,or_false] at ha
  lia
 obtain ⟨e1,h1,r1,o5,L1,rfl,eh,g1,l1⟩:=ydS (w:=none) (all:=[(-1 : Int),sg + 1,sg + 1 + far,-1 - far].map AV.int) (t:=.nm 5) (b:=ybg) (xs:=[(-1 : Int),sg + 1,sg + 1 + far,-1 - far].map AV.int) (en:=[some (.str "a"),some (.str y),some (.int sg),some (.int far),some (.fl []),none]) (h:=h)
  (λj en hh=>∃ o5 L,en = [some (.str "a"),some (.str y),some (.int sg),some (.int far),some (.fl L),o5] /\ hh = h /\ (∀ d ∈ L,yar [.ref q,d] h = .ok (.fl (sx 6)) h) /\ L.length <= 10 * j) ⟨none,[],rfl,rfl,λd hd=>(nomatch hd),by simp⟩ (λ_ _ _ _=>rfl) (by
   rintro j x en hh hx ⟨o5,L,rfl,rfl,gL,ll⟩
   have hj:=(List.getElem?_eq_some_iff.mp hx).1
   obtain ⟨a,ha,rfl⟩:=List.mem_map.mp (List.mem_of_getElem? hx)
   have du:=dueP H l l2 l3 (no a ha)
   rw [<- es] at du
   show thn (ybg [some (.str "a"),some (.str y),some (.int sg),some (.int far),some (.fl L),some (.int a)] hh) _
   rw [zki (by simp at hj; lia)]
   refine ⟨_,_,rfl,rfl,λd hd=>?_,by simp; lia⟩
   rw [List.append_assoc,List.mem_append] at hd
   exact hd.elim (gL d) (du d))
 rw [eh] at r1
 have it : iVal (sLst (yaa (sOp1 fNeg (sLit (.int 1))) (yaa (sOp2 fAdd (sVar 2) (sLit (.int 1))) (yaa (sOp2 fAdd (sOp2 fAdd (sVar 2) (sLit (.int 1))) (sVar 3)) (yaa (sOp2 fSub (sOp1 fNeg (sLit (.int 1))) (sVar 3)) sNil))))) [some (.str "a"),some (.str y),some (.int sg),some (.int far),some (.fl []),none] h = .ok ([(-1 : Int),sg + 1,sg + 1 + far,-1 - far].map AV.int,none) h:=by simp
 have f1:=(ydz (t:=.nm 5) (b:=ybg) it).trans r1
 have s0 : sSet 4 (sLst sNil) [some (.str "a"),some (.str y),some (.int sg),some (.int far),none,none] h = .nx [some (.str "a"),some (.str y),some (.int sg),some (.int far),some (.fl []),none] h:=rfl
 have ll : L1.length <= 40:=by simpa using l1
 have if1 : sIf (yas (sOp2 fGt (sVar 2) (sLit (.int 0)))) (sSet 4 (sOp2 fAdd (sVar 4) (sLst (yaa (sTup (yaa (sLit (.str "take_from")) (yaa (sVar 0) (yaa (sVar 2) (yaa (sOp2 fSub (sVar 2) (sLit (.int 1))) sNil))))) (yaa (sTup (yaa (sLit (.str "take_from")) (yaa (sVar 0) (yaa (sLit (.int 1)) (yaa (sLit (.int 0)) sNil))))) sNil))))) yay [some (.str "a"),some (.str y),some (.int sg),some (.int far),some (.fl L1),o5] h = .nx [some (.str "a"),some (.str y),some (.int sg),some (.int far),some (.fl (L1++[.tup [.str "take_from",.str "a",.int sg,.int (sg - 1)],.tup [.str "take_from",.str "a",.int 1,.int 0]])),o5] h:=by
  have c : (yas (sOp2 fGt (sVar 2) (sLit (.int 0)))) [some (.str "a"),some (.str y),some (.int sg),some (.int far),some (.fl L1),o5] h = .ok true h:=by
   have : (0 : Int) < sg:=by lia
   simp [this]
  unfold sIf
  rw [c]
  exact ycr (i:=4) (m:=[.tup [.str "take_from",.str "a",.int sg,.int (sg - 1)],.tup [.str "take_from",.str "a",.int 1,.int 0]]) rfl rfl (by simp; lia)
 refine ⟨L1++[.tup [.str "take_from",.str "a",.int sg,.int (sg - 1)],.tup [.str "take_from",.str "a",.int 1,.int 0]]++[.tup [.str "repeat",.str "a",.int (-1)],.tup [.str "repeat",.str "a",.int (-1 - far)],.tup [.str "repeat",.str "huge",.int (-1)]],?_,λd hd=>?_⟩
 ·rw [<- es]
  have sz : (L1++[AV.tup [.str "take_from",.str "a",.int sg,.int (sg - 1)],.tup [.str "take_from",.str "a",.int 1,.int 0]]).length + 3 <= sizeLine:=by
   rw [List.length_append]
   exact Nat.le_trans (m:=45) (by simp; lia) (by decide)
  unfold ybh
  generalize sSet 4 (sLst sNil) = S0 at *
  generalize sFor (iVal (sLst (yaa (sOp1 fNeg (sLit (.int 1))) (yaa (sOp2 fAdd (sVar 2) (sLit (.int 1))) (yaa (sOp2 fAdd (sOp2 fAdd (sVar 2) (sLit (.int 1))) (sVar 3)) (yaa (sOp2 fSub (sOp1 fNeg (sLit (.int 1))) (sVar 3)) sNil)))))) (.nm 5) ybg = FA at *
  generalize sIf (yas (sOp2 fGt (sVar 2) (sLit (.int 0)))) (sSet 4 (sOp2 fAdd (sVar 4) (sLst (yaa (sTup (yaa (sLit (.str "take_from")) (yaa (sVar 0) (yaa (sVar 2) (yaa (sOp2 fSub (sVar 2) (sLit (.int 1))) sNil))))) (yaa (sTup (yaa (sLit (.str "take_from")) (yaa (sVar 0) (yaa (sLit (.int 1)) (yaa (sLit (.int 0)) sNil))))) sNil))))) yay = FI at *
  generalize L1++[AV.tup [.str "take_from",.str "a",.int sg,.int (sg - 1)],.tup [.str "take_from",.str "a",.int 1,.int 0]] = L2 at *
  have ad : fAdd (.fl L2) (.fl [.tup [.str "repeat",.str "a",.int (-1)],.tup [.str "repeat",.str "a",.int (-1 - far)],.tup [.str "repeat",.str "huge",.int (-1)]]) h = .ok (.fl (L2++[.tup [.str "repeat",.str "a",.int (-1)],.tup [.str "repeat",.str "a",.int (-1 - far)],.tup [.str "repeat",.str "huge",.int (-1)]])) h:=by
   simp only [fAdd,ybT,List.length_cons,List.length_nil]
   rw [if_pos sz]
  simp [s0,f1,if1,ad,-fAdd]
 ·rw [List.append_assoc,List.mem_append] at hd
  rcases hd with hd | hd
  ·exact g1 d hd
  ·simp only [List.mem_append,List.mem_cons,List.not_mem_nil,or_false] at hd
   rcases hd with (rfl | rfl) | rfl | rfl | rfl
   ·exact zaG H k (za3 H l (by lia))
   ·exact zaG H k (za3 H l (by lia))
   ·exact zaO H k (zcs H l (by lia))
   ·exact zaO H k (zcs H l (by lia))
   ·exact zaO H k (zcs H l3 (by lia))
abbrev lsC (D : Nat) (Y : Str) : List AV:=[.non,.int 7,.bl true,.fl [.str "a"],.tup [.str "a"],.ref D,.str "\t",.str "a\tb",.str Y]
theorem yhN (eD : h[D]? = some (.dct false [])) (pY : yaA Y = false) (lY : Y.length <= 20000) : ∀ v ∈ lsC D Y,ybq [v] h = .ok (.bl false) h:=by
 have pS : ∀ x : Str,x.length <= 20000 -> yaA x = false -> ybq [.str x] h = .ok (.bl false) h:=λx lx px=>by
  rw [zbL x h (Nat.le_trans lx (by decide)),px]
 intro v hv
 simp only [List.mem_cons,List.not_mem_nil,or_false] at hv
 rcases hv with rfl | rfl | rfl | rfl | rfl | rfl | rfl | rfl | rfl
 ·exact yd8 rfl (by decide)
 ·exact yd8 rfl (by decide)
 ·exact yd8 rfl (by decide)
 ·exact yd8 rfl (by decide)
 ·exact yd8 rfl (by decide)
 ·exact yd8 (n := "dict") (by simp [eD]) (by decide)
 ·exact pS _ (by decide +kernel) (by decide +kernel)
 ·exact pS _ (by decide +kernel) (by decide +kernel)
 ·exact pS _ lY pY
end
theorem zkj (c k : Int) (h : AH) : ∃ m,yda [.int c,.int k] h = .ok (.int m) h:=by
 have b1 : 0 <= (c % 1000000007 + 7919 * k + 101) * 48271 % 2147483647:=Int.emod_nonneg _ (by decide)
 have b2 : (c % 1000000007 + 7919 * k + 101) * 48271 % 2147483647 < 2147483647:=Int.emod_lt_of_pos _ (by decide)
 refine ⟨(c % 1000000007 + 7919 * k + 101) * 48271 % 2147483647 * ((c % 1000000007 + 7919 * k + 101) * 48271 % 2147483647) % 2147483629 * 69621 % 2147483647,?_⟩
 generalize he : (c % 1000000007 + 7919 * k + 101) * 48271 % 2147483647 = v at *
 have c1 : v.natAbs < 18446744073709551616:=by lia
 simp [yda,he,c1]
theorem yhO {i j:Int} (hi : i.natAbs < 2 ^ 4000) (hj : j.natAbs < 2 ^ 4000) : fMul (.int i) (.int j) h = .ok (.int (i * j)) h:=if_pos (.inr ⟨hi,hj⟩)
theorem zdz (ns : List Int) : yes (ns.map AV.int) = some ns:=by
 induction ns with
 | nil=>rfl
 | cons n r ih=>simp [ih]
abbrev T60 : Int:=1000000000000000000000000000000000000000000000000000000000000000000000000000000000000000000000000000000000000000000000000
theorem yhP : (10 : Nat) ^ 960 < 2 ^ 4000:=by decide +kernel
theorem yiH : T60.natAbs < 2 ^ 4000:=by decide +kernel
theorem zfN (ns : List Int) (k : Nat) (i : Nat) (c : Nat) (o : Option AV) (h : AH) (hi : i < 8) (hc : c < 10 ^ (120 * i)) (hj : k + i * 8 < ns.length) :
  ∃ c' : Nat,c' < 10 ^ (120 * (i + 1)) /\ ybJ [some (.fl (ns.map AV.int)),some (.int k),some (.int c),some (.int ((k : Int) + i * 8)),o] h = .nx [some (.fl (ns.map AV.int)),some (.int k),some (.int c'),some (.int ((k : Int) + i * 8)),o] h:=by
 obtain ⟨s,es⟩ : ∃ s,ns[k + i * 8]? = some s:=⟨ns[k + i * 8],by simp [hj]⟩
 have ix : fIx (.fl (ns.map AV.int)) (.int ((k : Int) + i * 8)) h = .ok (.int s) h:=by
  rw [show ((k : Int) + i * 8) = ((k + i * 8 : Nat) : Int) by simp]
  simp only [fIx,ziP es]
 have p1 : (10 : Nat) ^ (120 * i) <= 10 ^ 960:=Nat.pow_le_pow_right (by decide) (by lia)
 have m1 : ((c : Int)).natAbs < 2 ^ 4000:=by
  have:=yhP
  exact Nat.lt_trans (show c < 10 ^ 960 by lia) this
 have mu : fMul (.int c) (.int T60) h = .ok (.int (c * T60)) h:=yhO m1 yiH
 have r0 : 0 <= s % T60:=Int.emod_nonneg _ (by decide)
 have r1 : s % T60 < T60:=Int.emod_lt_of_pos _ (by decide)
 obtain ⟨r,er⟩ : ∃ r : Nat,s % T60 = (r : Int):=⟨(s % T60).toNat,(Int.toNat_of_nonneg r0).symm⟩
 have rl : r < 10 ^ 120:=by
  have : (r : Int) < T60:=er ▸ r1
  have e : T60 = ((10 ^ 120 : Nat) : Int):=by decide +kernel
  rw [e] at this; exact Int.ofNat_lt.mp this
 obtain ⟨c',ec,lc⟩ : ∃ c' : Nat,(c : Int) * T60 + r = (c' : Int) /\ c' < 10 ^ (120 * (i + 1)):=by
  refine ⟨c * 10 ^ 120 + r,?_,?_⟩
  ·have e : T60 = ((10 ^ 120 : Nat) : Int):=by decide +kernel
   rw [e,Int.natCast_add,Int.natCast_mul]
  ·rw [show 120 * (i + 1) = 120 * i + 120 by lia,Nat.pow_add]
   have : (c + 1) * 10 ^ 120 <= 10 ^ (120 * i) * 10 ^ 120:=Nat.mul_le_mul_right _ hc
   have e2 : (c + 1) * 10 ^ 120 = c * 10 ^ 120 + 10 ^ 120:=Nat.succ_mul _ _
   lia
 refine ⟨c',lc,?_⟩
 have pw : (sOp2 fMul (sOp2 fPow (sLit (.int 10)) (sLit (.int 60))) (sOp2 fPow (sLit (.int 10)) (sLit (.int 60)))) [some (.fl (ns.map AV.int)),some (.int k),some (.int c),some (.int ((k : Int) + i * 8)),o] h = .ok (.int T60) h:=by simp
 have md : fMod (.int s) (.int T60) h = .ok (.int r) h:=by simp only [fMod]; rw [if_pos (by decide),er]
 clear p1 m1 r0 r1 er rl hc lc hi
 unfold ybJ
 generalize sOp2 fMul (sOp2 fPow (sLit (.int 10)) (sLit (.int 60))) (sOp2 fPow (sLit (.int 10)) (sLit (.int 60))) = PW at *
 generalize T60 = t60 at *
 simp [pw,mu,ix,md,ec,-fMul,-fIx,-fMod]
theorem zfp (en0 : Option AV) (ns : List Int) (k c f j : Int) (h : AH) : ∃ f',ybK [some (.fl (ns.map AV.int)),some (.int k),some (.int c),some (.int j),some (.int f)] h = .nx [some (.fl (ns.map AV.int)),some (.int k),some (.int c),some (.int j),some (.int f')] h:=by
 obtain ⟨m,hm⟩:=zkj (c + 1009 * k + ns.length) j h
 refine ⟨f * 2147483647 + m,?_⟩
 have m1 : fMul (.int f) (.int 2147483647) h = .ok (.int (f * 2147483647)) h:=yfX (by decide)
 have m2 : fMul (.int 1009) (.int k) h = .ok (.int (1009 * k)) h:=yfW (by decide)
 simp [ybK,hm,m1,m2,-fMul]
theorem zi3 (ns : List Int) (hl : ns.length <= 63) (k : Nat) (hk : k <= 10) (h : AH) : ∃ N : Int,ybO [.fl (ns.map AV.int),.int k] h = .ok (.ref h.length) (h++[.lst [.int N]]):=by
 obtain ⟨M,eM⟩ : ∃ M : Nat,M = (if (k : Int) < (ns.length : Int) then ((ns.length : Int) - k - 1) / 8 + 1 else 0).toNat:=⟨_,rfl⟩
 have hM : M <= 8 /\ ∀ i,i < M -> k + i * 8 < ns.length:=by
  rw [eM]
  split
  ·refine ⟨by lia,λi hi=>by lia⟩
  ·refine ⟨by lia,λi hi=>by simp at hi⟩
 obtain ⟨e1,h1,r1,r2⟩:=ydS (w:=none) (all:=(List.range M).map (λm : Nat=>AV.int ((k : Int) + m * 8))) (t:=.nm 3) (b:=ybJ) (xs:=(List.range M).map (λm : Nat=>AV.int ((k : Int) + m * 8))) (en:=[some (.fl (ns.map AV.int)),some (.int k),some (.int 0),none,none]) (h:=h)
  (λi en h' => h' = h /\ ∃ (c : Nat) (o : Option AV),c < 10 ^ (120 * i) /\ en = [some (.fl (ns.map AV.int)),some (.int k),some (.int c),o,none]) ⟨rfl,0,none,by decide,rfl⟩ (λ_ _ _ _=>rfl) (by
   rintro j x en h' hx ⟨rfl,c,o,hc,rfl⟩
   rw [List.getElem?_map] at hx
   obtain ⟨m,em,rfl⟩:=Option.map_eq_some_iff.mp hx
   have hj : j < M:=by
    have:=(List.getElem?_eq_some_iff.mp em).1; simpa using this
   rw [List.getElem?_range hj] at em
   cases em
   obtain ⟨c',l',e⟩:=zfN ns k j c none h' (by have:=hM.1; lia) hc (hM.2 j hj)
   show thn (ybJ [some (.fl (ns.map AV.int)),some (.int k),some (.int c),some (.int ((k : Int) + j * 8)),none] h') _
   rw [e]
   exact ⟨rfl,c',_,l',rfl⟩)
 obtain ⟨rfl,c,o,hc,rfl⟩:=r2
 have z1 : (k : Int).natAbs < 1099511627776:=by lia
 have z2 : ((ns.length : Nat) : Int).natAbs < 1099511627776:=by lia
 have it3 : ycw (sVar 1) (yal fLen (yaa (sVar 0) sNil)) (sLit (.int 8)) [some (.fl (ns.map AV.int)),some (.int k),some (.int 0),none,none] h1 = .ok ((List.range M).map (λm : Nat=>AV.int ((k : Int) + m * 8)),none) h1:=by
  simp only [ycw,sVar,yal,yaa,sNil,sLit,Out.bind,fLen,List.getElem?_cons_zero,List.getElem?_cons_succ,lenA]
  rw [if_pos ⟨z1,z2,by decide,by decide⟩,<- eM]
 have f1:=(ydz (t:=.nm 3) (b:=ybJ) it3).trans r1
 clear r1 it3
 by_cases hb : (1000000000000000000 : Int) <= c
 ·exact ⟨c,by simp [ybO,f1,hb,-sFor]⟩
 ·have cm:=zc4 (js:=[]) (en:=[some (.fl (ns.map AV.int)),some (.int k),some (.int c),o,none]) (w:=none) (all:=ns.map AV.int) (e:=sOp2 fMod (sVar 0) (sOp2 fPow (sLit (.int 10)) (sLit (.int 18)))) (g:=AV.int) (f:=λi=>AV.int (i % 1000000000000000000)) (h:=h1) rfl ns [] (by intro i _; simp) (by
    simp only [List.length_nil]; exact Nat.le_trans (show 0 + ns.length <= 63 by lia) (by decide))
  have im : (ns.map λi=>AV.int (i % 1000000000000000000)) = (ns.map λi=>i % 1000000000000000000).map AV.int:=by simp
  obtain ⟨S,eS⟩ : ∃ S : Int,S = (ns.map λi=>i % 1000000000000000000).sum:=⟨_,rfl⟩
  have sm : fSum [.fl (ns.map λi=>AV.int (i % 1000000000000000000))] h1 = .ok (.int S) h1:=by
   rw [im,eS]; simp only [fSum,zdz]
  obtain ⟨e2,h2,s1,s2⟩:=ydS (w:=none) (all:=ybl 0 16) (t:=.nm 3) (b:=ybK) (xs:=ybl 0 16) (en:=[some (.fl (ns.map AV.int)),some (.int k),some (.int (c + S)),o,some (.int 0)]) (h:=h1)
   (λi en h' => h' = h1 /\ ∃ (f : Int) (o : Option AV),en = [some (.fl (ns.map AV.int)),some (.int k),some (.int (c + S)),o,some (.int f)]) ⟨rfl,0,o,rfl⟩ (λ_ _ _ _=>rfl) (by
    rintro j x en h' hx ⟨rfl,f,o,rfl⟩
    rw [zeq] at hx
    by_cases q : j < 16
    ·rw [if_pos q] at hx
     cases hx
     obtain ⟨f',e⟩:=zfp none ns k (c + S) f (0 + (j : Int)) h'
     show thn (ybK [some (.fl (ns.map AV.int)),some (.int k),some (.int (c + S)),some (.int (0 + (j : Int))),some (.int f)] h') _
     rw [e]
     exact ⟨rfl,f',_,rfl⟩
    ·rw [if_neg q] at hx; cases hx)
  obtain ⟨rfl,f,o',rfl⟩:=s2
  have f2:=(ydz (t:=.nm 3) (b:=ybK) (zcn (a:=sLit (.int 16)) (en:=[some (.fl (ns.map AV.int)),some (.int k),some (.int (c + S)),o,some (.int 0)]) (h:=h2) (n:=16) rfl (by decide))).trans s1
  refine ⟨f,?_⟩
  simp at cm
  simp [ybO,f1,hb,cm,sm,f2,-sFor,-fSum]
variable {N L:Int}
theorem zcH {L:Nat} (m : Nat) (e : hh[L]? = some (.lst [.int N])) (hm : 0 < m) (hm2 : m <= 10 ^ 50) : ∃ (v : Nat) (N' : Int),v < m /\ ya1 [.ref L,.int m] hh = .ok (.int v) (hh.set L (.lst [.int N'])):=by
 obtain ⟨v,hv,e1⟩:=zj8 m e hm hm2
 exact ⟨v,N / m,hv,e1⟩
theorem zg3 (hy : yaA y = true) (hc : yd7 c = true) : yaA (y++⟨#[c]⟩) = true /\ (y++(⟨#[c]⟩ : Str)).length = y.length + 1:=by
 refine ⟨?_,by rw [zaj]; rfl⟩
 rw [zaI,hy]
 simp [yaA,hc]
def sg64 : List Str:=["ab", "aaab", "a\n", "ab \n", "abcdefghijklmnopqrstuvwxyz 0123456789.,~\n"]
theorem zbP : ∀ x ∈ sg64,yaA x = true /\ 1 <= x.length /\ x.length <= 200 /\ 35 ∉ x.cps.toList:=by decide +kernel
theorem yhQ (v : Nat) (hv : v < 5) : ∃ z : Str,(∀ h,fIx (.fl [.str "ab",.str "aaab",.str "a\n",.str "ab \n",.str "abcdefghijklmnopqrstuvwxyz 0123456789.,~\n"]) (.int (v : Int)) h = .ok (.str z) h) /\ yaA z = true /\ 1 <= z.length /\ z.length <= 200 /\ 35 ∉ z.cps.toList:=by
 have : v = 0 \/ v = 1 \/ v = 2 \/ v = 3 \/ v = 4:=by lia
 rcases this with rfl | rfl | rfl | rfl | rfl
 ·exact ⟨_,λ_=>rfl,zbP _ (by simp [sg64])⟩
 ·exact ⟨_,λ_=>rfl,zbP _ (by simp [sg64])⟩
 ·exact ⟨_,λ_=>rfl,zbP _ (by simp [sg64])⟩
 ·exact ⟨_,λ_=>rfl,zbP _ (by simp [sg64])⟩
 ·exact ⟨_,λ_=>rfl,zbP _ (by simp [sg64])⟩
theorem zhZ {v:Nat} (hv : v < x.length) (hx : yaA x = true) (h : AH) : ∃ c,c ∈ x.cps.toList /\ yd7 c = true /\ fIx (.str x) (.int v) h = .ok (.str ⟨#[c]⟩) h:=by
 have hv' : v < x.cps.toList.length:=by rw [<- zaC]; exact hv
 refine ⟨x.cps.toList[v],List.getElem_mem hv',List.all_eq_true.mp hx _ (List.getElem_mem hv'),?_⟩
 have e : x.cps.toList[v]? = some x.cps.toList[v]:=List.getElem?_eq_getElem hv'
 simp only [fIx,zcC e]
theorem zh0 {L:Nat} (most : Nat) (hm : most <= 1000) (e : hh[L]? = some (.lst [.int N])) : ∃ (y : Str) (N' : Int),yb4 [.ref L,.int most] hh = .ok (.str y) (hh.set L (.lst [.int N'])) /\ yaA y = true /\ y.length <= most /\ 35 ∉ y.cps.toList:=by
 have Ll:=yb0 e
 obtain ⟨v,N1,hv,t1⟩:=zcH 5 e (by decide) (by decide)
 have t1' : ya1 [.ref L,.int 5] hh = .ok (.int v) (hh.set L (.lst [.int N1])):=t1
 obtain ⟨z,ez,pz,z1,z2,z3⟩:=yhQ v hv
 have e1 : (hh.set L (.lst [.int N1]))[L]? = some (.lst [.int N1]):=List.getElem?_set_self Ll
 obtain ⟨k,N2,hk,t2⟩:=zcH (most + 1) e1 (Nat.succ_pos _) (Nat.le_trans (Nat.succ_le_succ hm) (by decide))
 rw [List.set_set] at t2
 have t2' : ya1 [.ref L,.int ((most : Int) + 1)] (hh.set L (.lst [.int N1])) = .ok (.int k) (hh.set L (.lst [.int N2])):=by
  have:=t2; rw [Int.natCast_succ] at this; exact this
 obtain ⟨e',h',r1,y,N3,o4,r2,r3,r4,r5,b3⟩:=ydS (w:=none) (all:=ybl 0 k) (t:=.nm 4) (b:=ybF) (xs:=ybl 0 k) (en:=[some (.ref L),some (.int most),some (.str z),some (.str ""),none]) (h:=hh.set L (.lst [.int N2]))
  (λj en h' => ∃ (y : Str) (N' : Int) (o4 : Option AV),en = [some (.ref L),some (.int most),some (.str z),some (.str y),o4] /\ h' = hh.set L (.lst [.int N']) /\ yaA y = true /\ y.length = j /\ 35 ∉ y.cps.toList) ⟨"",N2,none,rfl,rfl,rfl,rfl,by decide⟩ (λ_ _ _ _=>rfl) (by
   rintro j u en h' hu ⟨y,N',o4,rfl,rfl,py,ly,bb⟩
   have jk : j < k:=by have:=(List.getElem?_eq_some_iff.mp hu).1; rwa [za1] at this
   have e3 : (hh.set L (.lst [.int N']))[L]? = some (.lst [.int N']):=List.getElem?_set_self Ll
   obtain ⟨t,N4,ht,et⟩:=zcH z.length e3 (by lia) (Nat.le_trans z2 (by decide))
   rw [List.set_set] at et
   obtain ⟨c,mc,pc,ec⟩:=zhZ ht pz (hh.set L (.lst [.int N4]))
   have ad : fAdd (.str y) (.str ⟨#[c]⟩) (hh.set L (.lst [.int N4])) = .ok (.str (y++⟨#[c]⟩)) (hh.set L (.lst [.int N4])):=by
    have : y.length + (⟨#[c]⟩ : Str).length <= sizeLine:=Nat.le_trans (m:=1001) (by show y.length + 1 <= _; lia) (by decide)
    simp only [fAdd,this,if_true]
   have es : ybF [some (.ref L),some (.int most),some (.str z),some (.str y),some u] (hh.set L (.lst [.int N'])) = .nx [some (.ref L),some (.int most),some (.str z),some (.str (y++⟨#[c]⟩)),some u] (hh.set L (.lst [.int N4])):=by
    generalize hh.set L (.lst [.int N4]) = h2 at *
    generalize hh.set L (.lst [.int N']) = h1 at *
    simp [ybF,et,ec,ad,-fIx,-fAdd]
   show thn (ybF [some (.ref L),some (.int most),some (.str z),some (.str y),some u] (hh.set L (.lst [.int N']))) _
   rw [es]
   obtain ⟨q1,q2⟩:=zg3 py pc
   exact ⟨_,N4,_,rfl,rfl,q1,by rw [q2,ly],λz=>by
    rw [zax,List.mem_append] at z
    rcases z with z | z
    ·exact bb z
    ·have : 35 = c:=by simpa using z
     exact z3 (this ▸ mc)⟩)
 rw [za1] at r5
 have f1:=(ydz (t:=.nm 4) (b:=ybF) (zcn (a:=yal ya1 (yaa (sVar 0) (yaa (sOp2 fAdd (sVar 1) (sLit (.int 1))) sNil))) (en:=[some (.ref L),some (.int most),some (.str z),some (.str ""),none]) (h:=hh.set L (.lst [.int N1])) (n:=k) (by simp [t2']) (by lia))).trans r1
 refine ⟨y,N3,?_,r4,by lia,b3⟩
 rw [<- r3]
 subst r2
 unfold yb4
 generalize sFor (ybS (yal ya1 (yaa (sVar 0) (yaa (sOp2 fAdd (sVar 1) (sLit (.int 1))) sNil)))) (.nm 4) ybF = F1 at *
 generalize hh.set L (.lst [.int N1]) = h1 at *
 simp [t1',ez,f1,-fAdd,-fIx]
theorem zam {e1:En} {R:OutS} (e : s1 en hh = .nx e1 h1) (r : s2 e1 h1 = R) : sSeq s1 s2 en hh = R:=by unfold sSeq; rw [e]; exact r
theorem yiI {m:Nat} {b:SS} {args:List AV} (hl : args.length = n) (e : b (args.map some++List.replicate (m - n) none) h = .rt v h') : mkFn n m b args h = .ok v h' := by
 unfold mkFn; rw [if_pos hl,e]
theorem ydD (e : X en hh = .ok v h1) : sSet i X en hh = .nx (en.set i (some v)) h1:=by unfold sSet; rw [e]; rfl
theorem za8 (e : X en hh = .ok v h1) : yan X en hh = .nx en h1:=by unfold yan; rw [e]; rfl
theorem yeZ {c:SB} {s:SS} (e : c en hh = .ok false h1) : sIf c s yay en hh = .nx en h1:=by unfold sIf; rw [e]; rfl
theorem za9 {F:Fn} {o:SE} {as:SL} {vs:List AV} {fs:List (Option AV)} (eo : o en hh = .ok (.ref n) hh) (ob : hh[n]? = some (.ins c fs)) (ea : as en hh = .ok vs h1) (ef : F (.ref n :: vs) h1 = .ok v h2) : yah c F o as en hh = .ok v h2:=by
 simp [eo,ob,ea,ef]
theorem zbQ {as:SL} {vs:List AV} (ea : as en hh = .ok vs h1) (ef : yaZ vs h1 = .ok (.bl true) h1) : sNot (ybt (yal yaZ as)) en hh = .ok false h1:=by
 generalize yaZ = G at *
 simp [ea,ef]
def nms : Nat -> Str
 | 0 => "a"
 | 1 => "ab"
 | _ => "zz"
theorem yhR (hi : i < 3) (hj : j < 3) (h : i ≠ j) : nms i ≠ nms j:=by
 rcases (by lia : i = 0 \/ i = 1 \/ i = 2) with rfl | rfl | rfl<;>rcases (by lia : j = 0 \/ j = 1 \/ j = 2) with rfl | rfl | rfl
 ·exact absurd rfl h
 ·show ("a" : Str) ≠ "ab"; decide +kernel
 ·show ("a" : Str) ≠ "zz"; decide +kernel
 ·show ("ab" : Str) ≠ "a"; decide +kernel
 ·exact absurd rfl h
 ·show ("ab" : Str) ≠ "zz"; decide +kernel
 ·show ("zz" : Str) ≠ "a"; decide +kernel
 ·show ("zz" : Str) ≠ "ab"; decide +kernel
 ·exact absurd rfl h
theorem yhS (i : Nat) : ybr (nms i) = true:=by
 cases i with
 | zero=>show ybr "a" = true; decide +kernel
 | succ i =>
  cases i with
  | zero=>show ybr "ab" = true; decide +kernel
  | succ i=>show ybr "zz" = true; decide +kernel
abbrev nmL : List AV:=[.str "a",.str "ab",.str "zz"]
theorem yiJ {z:AV} (e : (nmL.take n)[i]? = some z) : i < 3 /\ i < n /\ z = .str (nms i):=by
 rw [List.getElem?_take] at e
 split at e
 ·rename_i hn
  match i,e with
  | 0,e=>cases e; exact ⟨by decide,hn,rfl⟩
  | 1,e=>cases e; exact ⟨by decide,hn,rfl⟩
  | 2,e=>cases e; exact ⟨by decide,hn,rfl⟩
  | i + 3,e=>cases e
 ·cases e
structure Xs (x : Str) : Prop where
 pl : yaA x = true
 l1 : 1 <= x.length
 l31 : x.length <= 31
 two : x ≠ "x" -> 2 <= x.length
theorem yiK (py : yaA y = true) (ly : y.length <= 30) : Xs ("x" ++ y):=by
 have lx : (Str.ofString "x").length = 1:=by decide +kernel
 refine ⟨?_,by rw [zaj]; lia,by rw [zaj]; lia,λne=>?_⟩
 ·rw [zaI,py,Bool.and_true]; decide +kernel
 ·rw [zaj]
  have : y.length ≠ 0:=λz=>ne (by
   have ye : y = "" := zas (by rw [zaC] at z; rw [List.length_eq_zero_iff.mp z]; rfl)
   rw [ye]
   exact zas (by rw [zax]; simp; rfl))
  lia
structure Gv (hh : AH) (ps : List Pc) (kx : List (Str × Nat × Str)) (ds : List (Str × Option Nat × Nat)) (xs : List Str) (j : Nat) : Prop where
 ho : Ho hh 1 2 11 ps kx ds []
 got : ∀ i x,i < j -> xs[i]? = some x -> ∃ m,lk kx (nms i) = some (m,x)
 out : ∀ y,(∀ i,i < 3 -> nms i ≠ y) -> lk kx y = none
 lp : ps.length <= 62 * j
 lk : kx.length <= j
 ld : ds.length <= j
theorem yiL {H:AH} {xs:List Str} {o4 o7 o8 o9:Option AV} {v3:AV} (h0 : Ho H 1 2 11 [] [] [] []) (hx : ∀ x ∈ xs,Xs x) (l3 : xs.length <= 3) :
  ∃ e' h' ps kx ds,ybM none [] (.tup [5,6]) yd6 (ybE (nmL.take xs.length) (xs.map AV.str)) [o0,o1,some (.ref 1),some v3,o4,none,none,o7,o8,o9] H = .nx e' h' /\ Gv h' ps kx ds xs xs.length /\ ∃ o5 o6,e' = [o0,o1,some (.ref 1),some v3,o4,o5,o6,o7,o8,o9]:=by
 have lz : (ybE (nmL.take xs.length) (xs.map AV.str)).length <= xs.length:=by
  have : ∀ a b : List AV,(ybE a b).length <= b.length:=λa=>by
   induction a with
   | nil=>intro b; simp [ybE]
   | cons x a ih=>intro b; cases b with
    | nil=>simp [ybE]
    | cons y b=>simp only [ybE,List.length_cons]; have:=ih b; lia
  have:=this (nmL.take xs.length) (xs.map AV.str)
  rwa [List.length_map] at this
 obtain ⟨e',h',r1,⟨ps,kx,ds,o5,o6,rfl,G⟩,_⟩:=ydS (w:=none) (all:=[]) (t:=.tup [5,6]) (b:=yd6) (xs:=ybE (nmL.take xs.length) (xs.map AV.str)) (en:=[o0,o1,some (.ref 1),some v3,o4,none,none,o7,o8,o9]) (h:=H)
  (λj en hh=>(∃ ps kx ds o5 o6,en = [o0,o1,some (.ref 1),some v3,o4,o5,o6,o7,o8,o9] /\ Gv hh ps kx ds xs j) /\ j <= 3)
  ⟨⟨[],[],[],none,none,rfl,⟨h0,λi x hi=>absurd hi (Nat.not_lt_zero _),λ_ _=>rfl,Nat.zero_le _,Nat.le_refl _,Nat.le_refl _⟩⟩,Nat.zero_le _⟩ (λ_ _ _ _=>rfl) (by
   rintro j z en hh hz ⟨⟨ps,kx,ds,o5,o6,rfl,G⟩,j3⟩
   have hj:=(List.getElem?_eq_some_iff.mp hz).1
   obtain ⟨x,y,rfl,ex,ey⟩:=zci _ _ _ _ hz
   obtain ⟨i3,_,rfl⟩:=yiJ ex
   rw [List.getElem?_map] at ey
   obtain ⟨y,ey',rfl⟩:=Option.map_eq_some_iff.mp ey
   have X:=hx y (List.mem_of_getElem? ey')
   obtain ⟨n,ps',h',fg,H',_,lp⟩:=yfk G.ho (yhS j) X.pl (Nat.le_trans X.l31 (by decide)) (by have:=G.lp; have:=X.l31; lia) (by have:=G.lk; lia) (by have:=G.ld; lia)
   have b : yd6 [o0,o1,some (.ref 1),some v3,o4,some (.str (nms j)),some (.str y),o7,o8,o9] hh = .nx [o0,o1,some (.ref 1),some v3,o4,some (.str (nms j)),some (.str y),o7,o8,o9] h' := za8 (za9 rfl G.ho.ob rfl fg)
   show thn (yd6 [o0,o1,some (.ref 1),some v3,o4,some (.str (nms j)),some (.str y),o7,o8,o9] hh) _
   rw [b]
   refine ⟨⟨ps',_,_,_,_,rfl,⟨H',λi x hi hx' => ?_,λw hw=>?_,?_,Nat.le_trans (zaW ..) (by have:=G.lk; lia),by rw [List.length_append]; have:=G.ld; simp; lia⟩⟩,by lia⟩
   ·rw [ydC]
    by_cases q : i = j
    ·subst q
     rw [ey'] at hx'
     cases hx'
     exact ⟨n,if_pos rfl⟩
    ·rw [if_neg (yhR i3 (by lia) (Ne.symm q))]
     exact G.got i x (by lia) hx'
   ·rw [ydC,if_neg (hw j i3)]
    exact G.out w hw
   ·have:=G.lp; have:=X.l31; lia)
 have le : (ybE (nmL.take xs.length) (xs.map AV.str)).length = xs.length:=by
  refine Nat.le_antisymm lz ?_
  match xs,l3 with
  | [],_=>exact Nat.zero_le _
  | [_],_=>exact Nat.le_refl _
  | [_,_],_=>exact Nat.le_refl _
  | [_,_,_],_=>exact Nat.le_refl _
  | _ :: _ :: _ :: _ :: _,h=>simp at h
 rw [le] at G
 exact ⟨_,h',ps,kx,ds,r1,G,o5,o6,rfl⟩
end Sk
set_option maxHeartbeats 4000000
namespace Sk
open PySem PySem.Spec L2 Sm
abbrev yf7 : SS:=sSeq (sSet 7 (sOp2 fMod (yal fSum (yaa (sVar 0) sNil)) (sOp2 fPow (sLit (.int 10)) (sLit (.int 28))))) (sSeq (sIf (sNot (ybt (yal yaZ (yaa (sVar 2) (yaa (yal ybw (yaa (sLit (.str "a")) sNil)) (yaa (sLit (.int 0)) sNil)))))) (sRet (sLit (.bl false))) yay) (sSeq (sSet 8 (ybk [] (iVal (sLst (yaa (sLit .non) (yaa (sLit (.int 7)) (yaa (sLit (.bl true)) (yaa (sLst (yaa (sLit (.str "a")) sNil)) (yaa (sTup (yaa (sLit (.str "a")) sNil)) (yaa (ycL false) (yaa (sLit (.str "\t")) (yaa (sLit (.str "a\tb")) (yaa (sOp2 ya8 (sLit (.str "\t")) (sLit (.int 10001))) sNil))))))))))) sYes (sTup (yaa (sLit (.str "give")) (yaa (sLit (.str "new")) (yaa (sVar 0) sNil)))))) (sSeq (sIf (sNot (ybt (yal yaZ (yaa (sVar 2) (yaa (sOp2 fAdd (sVar 8) (sLst (yaa (sTup (yaa (sLit (.str "give")) (yaa (sLit (.str "a")) (yaa (sOp2 fAdd (sOp2 ya8 (sLit (.str "a")) (sLit (.int 10000))) (sLit (.str "\t"))) sNil)))) sNil))) (yaa (sLit (.int 1)) sNil)))))) (sRet (sLit (.bl false))) yay) (sSeq (sIf (sNot (ybt (yal yaZ (yaa (sVar 2) (yaa (yal ybh (yaa (sLit (.str "a")) (yaa (sOp2 fIx (sVar 4) (sOp1 fNeg (sLit (.int 1)))) (yaa (yal fLen (yaa (sOp2 fIx (sVar 3) (sLit (.int 0))) sNil)) (yaa (sVar 7) sNil))))) (yaa (sLit (.int 2)) sNil)))))) (sRet (sLit (.bl false))) yay) (sSeq (sSet 9 (sLst (yaa (sTup (yaa (sLit (.str "give")) (yaa (sLit (.str "new")) (yaa (sOp2 ya8 (sLit (.str "z")) (sLit (.int 10001))) sNil)))) (yaa (sTup (yaa (sLit (.str "give")) (yaa (sLit (.str "a")) (yaa (sOp2 ya8 (sLit (.str "z")) (sLit (.int 20000))) sNil)))) (yaa (sTup (yaa (sLit (.str "join_to")) (yaa (sLit (.str "huge")) (yaa (sLit (.str "a")) sNil)))) sNil))))) (sSeq (sSet 9 (sOp2 fAdd (sVar 9) (sLst (yaa (sTup (yaa (sLit (.str "join_to")) (yaa (sLit (.str "a")) (yaa (sLit (.str "huge")) sNil)))) (yaa (sTup (yaa (sLit (.str "put_into")) (yaa (sLit (.str "huge")) (yaa (sLit (.int 5)) (yaa (sLit (.str "a")) sNil))))) (yaa (sTup (yaa (sLit (.str "put_into")) (yaa (sLit (.str "a")) (yaa (sLit (.int 0)) (yaa (sLit (.str "huge")) sNil))))) sNil)))))) (sSeq (sSet 9 (sOp2 fAdd (sVar 9) (sLst (yaa (sTup (yaa (sLit (.str "repeat")) (yaa (sLit (.str "huge")) (yaa (sLit (.int 2)) sNil)))) sNil)))) (sSeq (sSet 9 (sOp2 fAdd (sVar 9) (sLst (yaa (sTup (yaa (sLit (.str "repeat")) (yaa (sLit (.str "a")) (yaa (sOp2 fPow (sLit (.int 10)) (sLit (.int 18))) sNil)))) (yaa (sTup (yaa (sLit (.str "repeat")) (yaa (sLit (.str "huge")) (yaa (sOp2 fAdd (sLit (.int 2)) (sVar 7)) sNil)))) sNil))))) (sSeq (sIf (sOr (sAnd (yas (sOp2 fNe (sOp2 fIx (sVar 3) (sLit (.int 0))) (sLit (.str "x")))) (sNot (ybt (yal yaZ (yaa (sVar 2) (yaa (sVar 9) (yaa (sLit (.int 3)) sNil))))))) (sNot (ybt (yal yaZ (yaa (sVar 2) (yaa (sCut (sVar 9) none (some (sLit (.int 7)))) (yaa (sLit (.int 3)) sNil))))))) (sRet (sLit (.bl false))) yay) (sSeq (yan (yah 1 ycg (sVar 2) sNil)) (sSeq (yan (yah 1 yaO (sVar 2) (yaa (sLit (.str "full")) (yaa (sOp2 ya8 (sLit (.str "z")) (sLit (.int 10000))) sNil)))) (sSeq (sIf (yas (sOp2 fNe (yah 0 yaB (yah 1 ya2 (sVar 2) sNil) (yaa (yah 1 yai (sVar 2) (yaa (sLit (.str "full")) sNil)) sNil)) (sLit (.int 10000)))) (sRet (sLit (.bl false))) yay) (sRet (yec (sOp2 fNe (yah 1 yai (sVar 2) (yaa (sLit (.str "a")) sNil)) (sLit (.int 0))) (sOp2 fEq (yah 0 yaB (yah 1 ya2 (sVar 2) sNil) (yaa (yah 1 yai (sVar 2) (yaa (sLit (.str "a")) sNil)) sNil)) (sOp2 fMul (sLit (.int 2)) (yal fLen (yaa (sOp2 fIx (sVar 3) (sLit (.int 0))) sNil))))))))))))))))))
theorem zkk (ns : List Int) (hh : AH) : fSum [.fl (ns.map AV.int)] hh = .ok (.int ns.sum) hh:=by simp only [fSum,zdz]
theorem adS {a b : Str} (l : a.length + b.length <= 20000) (hh : AH) : fAdd (.str a) (.str b) hh = .ok (.str (a++b)) hh:=by
 have : a.length + b.length <= sizeLine:=Nat.le_trans l (by decide)
 simp only [fAdd,this,if_true]
variable {h h1 h' h2 hh:AH} {Y w x y:Str} {en:En}
theorem zkl (mu : ∀ hh,ya8 (.str "\t") (.int 10001) hh = .ok (.str Y) hh) : ybk [] (iVal (sLst (yaa (sLit .non) (yaa (sLit (.int 7)) (yaa (sLit (.bl true)) (yaa (sLst (yaa (sLit (.str "a")) sNil)) (yaa (sTup (yaa (sLit (.str "a")) sNil)) (yaa (ycL false) (yaa (sLit (.str "\t")) (yaa (sLit (.str "a\tb")) (yaa (sOp2 ya8 (sLit (.str "\t")) (sLit (.int 10001))) sNil))))))))))) sYes (sTup (yaa (sLit (.str "give")) (yaa (sLit (.str "new")) (yaa (sVar 0) sNil)))) en h = .ok (.fl ((lsC h.length Y).map λv=>.tup [.str "give",.str "new",v])) (h++[.dct false []]):=by
 have it : iVal (sLst (yaa (sLit .non) (yaa (sLit (.int 7)) (yaa (sLit (.bl true)) (yaa (sLst (yaa (sLit (.str "a")) sNil)) (yaa (sTup (yaa (sLit (.str "a")) sNil)) (yaa (ycL false) (yaa (sLit (.str "\t")) (yaa (sLit (.str "a\tb")) (yaa (sOp2 ya8 (sLit (.str "\t")) (sLit (.int 10001))) sNil)))))))))) en h = .ok (lsC h.length Y,none) (h++[.dct false []]):=by
  simp [mu,-ya8]
 have cp:=zc4 (js:=[]) (en:=en) (w:=none) (all:=lsC h.length Y) (e:=sTup (yaa (sLit (.str "give")) (yaa (sLit (.str "new")) (yaa (sVar 0) sNil)))) (g:=λv : AV=>v) (f:=λv=>AV.tup [.str "give",.str "new",v]) (h:=h++[.dct false []]) rfl (lsC h.length Y) [] (λv _=>rfl) (by show 0 + 9 <= sizeLine; decide)
 rw [List.map_id',List.nil_append] at cp
 unfold ybk
 rw [it]
 dsimp only
 rw [cp]
section
variable {h : AH} {q p t : Nat} {ps : List Pc} {kx : List (Str × Nat × Str)} {ds bs : List (Str × Option Nat × Nat)} {e f g : Nat × Str}
variable {D b a n i j d k1 n1 c hb:Nat}
theorem dueT (H : Ho h q p t ps kx ds bs) {Z:Str} (eD : h[D]? = some (.dct false [])) (pY : yaA Y = false) (lY : Y.length <= 20000) (pZ : yaA Z = false) (lZ : Z.length <= 20000) : ∀ d ∈ ((lsC D Y).map λv=>AV.tup [.str "give",.str "new",v])++[.tup [.str "give",.str "a",.str Z]],yar [.ref q,d] h = .ok (.fl (sx 1)) h:=by
 have k : Kd 1:=.inr (.inl rfl)
 intro d hd
 rcases List.mem_append.mp hd with hd | hd
 ·obtain ⟨v,hv,rfl⟩:=List.mem_map.mp hd
  exact zaX H k (zfm H (by decide +kernel) (yhN eD pY lY v hv))
 ·rw [List.mem_singleton.mp hd]
  exact zaX H k (zfm H (by decide +kernel) (by rw [zbL Z h (Nat.le_trans lZ (by decide)),pZ]))
abbrev lng7 (Y1 Y2 : Str) : List AV:=[.tup [.str "give",.str "new",.str Y1],.tup [.str "give",.str "a",.str Y2],.tup [.str "join_to",.str "huge",.str "a"],.tup [.str "join_to",.str "a",.str "huge"],.tup [.str "put_into",.str "huge",.int 5,.str "a"],.tup [.str "put_into",.str "a",.int 0,.str "huge"],.tup [.str "repeat",.str "huge",.int 2]]
theorem dueL (H : Ho h q p t ps kx ds bs) {Y1 Y2 : Str} (la : lk kx "a" = some e) (lh : lk kx "huge" = some g) (s1 : 1 <= e.2.length) (sh : g.2.length = 1000000000000000000) (p1 : yaA Y1 = true) (l1 : Y1.length = 10001) (p2 : yaA Y2 = true) (l2 : Y2.length = 20000) : ∀ d ∈ lng7 Y1 Y2,yar [.ref q,d] h = .ok (.fl (sx 5)) h:=by
 have k : Kd 5:=.inr (.inr (.inr rfl))
 intro d hd
 simp only [List.mem_cons,List.not_mem_nil,or_false] at hd
 rcases hd with rfl | rfl | rfl | rfl | rfl | rfl | rfl
 ·exact zaX H k (zew H (by decide +kernel) p1 (by lia) (by lia))
 ·exact zaX H k (zew H (by decide +kernel) p2 (by lia) (by lia))
 ·exact zbe H k (zex H lh la (by lia))
 ·exact zbe H k (zex H la lh (by lia))
 ·exact zaE H k (zfn H lh la (by decide) (by lia) (by lia))
 ·exact zaE H k (zfn H la lh (by decide) (by lia) (by lia))
 ·exact zaO H k (zdb (k:=2) H lh (by lia) (by lia))
theorem dueM (H : Ho h q p t ps kx ds bs) (la : lk kx "a" = some e) (lh : lk kx "huge" = some g) (s2 : 2 <= e.2.length) (s31 : e.2.length <= 31) (sh : g.2.length = 1000000000000000000) {far : Int} (hf : 0 <= far) : ∀ d ∈ [AV.tup [.str "repeat",.str "a",.int 1000000000000000000],.tup [.str "repeat",.str "huge",.int (2 + far)]],yar [.ref q,d] h = .ok (.fl (sx 5)) h:=by
 have k : Kd 5:=.inr (.inr (.inr rfl))
 intro d hd
 simp only [List.mem_cons,List.not_mem_nil,or_false] at hd
 rcases hd with rfl | rfl
 ·exact zaO H k (zdb (k:=1000000000000000000) H la (by lia) (by lia))
 ·obtain ⟨m,em⟩ : ∃ m : Nat,2 + far = (m : Int):=⟨(2 + far).toNat,by lia⟩
  rw [em]
  exact zaO H k (zdb H lh (by lia) (by rw [sh]; lia))
end
variable {ps ps' ps1:List Pc} {kx:List (Str × Nat × Str)} {ds:List (Str × Option Nat × Nat)} {n1 e b a n i j p d k1 c hb D:Nat} {o1 o0 o2 o3:Option AV}
theorem yhT {h9:AH} {n0 m:Nat} {x0 Hg:Str} {f:Nat × Str} {NV PV:List AV} {ns:List Int} {o5 o6:Option AV} (H : Ho h9 1 2 11 ps kx ds [("a",some n0,n1)]) (la : lk kx "a" = some (n0,x0)) (lh : lk kx "huge" = some (m,Hg)) (ly : lk kx y = some f) (nn : lk kx "none" = none) (nn2 : lk kx "nonesuch" = none) (X : Xs x0) (lHg : Hg.length = 1000000000000000000) (T1 : TxZ ps n1 (x0++x0)) (lp : ps.length <= 1000000) (lkx : kx.length <= 10) (lds : ds.length <= 10) (hN : ∀ hh,fIx (.fl NV) (.int (-1)) hh = .ok (.str y) hh) (hP : ∀ hh,fIx (.fl PV) (.int 0) hh = .ok (.str x0) hh) :
  ∃ h',yf7 [some (.fl (ns.map AV.int)),o1,some (.ref 1),some (.fl PV),some (.fl NV),o5,o6,none,none,none] h9 = .rt (.bl true) h' := by
 have sm:=zkk ns h9
 obtain ⟨far,efar⟩ : ∃ far : Int,far = ns.sum % 10000000000000000000000000000:=⟨_,rfl⟩
 have hf : 0 <= far:=by rw [efar]; exact Int.emod_nonneg _ (by decide)
 have s7 : sOp2 fMod (yal fSum (yaa (sVar 0) sNil)) (sOp2 fPow (sLit (.int 10)) (sLit (.int 28))) [some (.fl (ns.map AV.int)),o1,some (.ref 1),some (.fl PV),some (.fl NV),o5,o6,none,none,none] h9 = .ok (.int far) h9:=by
  rw [efar]
  simp [sm,-fSum]
 generalize some (AV.fl (ns.map AV.int)) = V0 at *
 obtain ⟨L1,fn,g1⟩:=zfM H la nn nn2
 have H10:=H.app [.dct false []]
 have fa1:=yeW H10 (.inl rfl) g1
 generalize h9++[AO.dct false []] = h10 at *
 have c1:=λ(o8 o9 : Option AV)=>zbQ (as:=yaa (sVar 2) (yaa (yal ybw (yaa (sLit (.str "a")) sNil)) (yaa (sLit (.int 0)) sNil))) (en:=[V0,o1,some (.ref 1),some (.fl PV),some (.fl NV),o5,o6,some (.int far),o8,o9]) (hh:=h9) (h1:=h10) (vs:=[.ref 1,.fl L1,.int 0]) (by generalize ybw = G at *; simp [fn]) fa1
 have muT : ∀ hh,ya8 (.str "\t") (.int 10001) hh = .ok (.str (repS "\t" 10001)) hh:=λhh=>yeA (z := "\t") (k:=10001) (by decide) (by decide +kernel) hh
 have lT : (repS "\t" 10001).length <= 20000:=by rw [zaU]; have : (Str.ofString "\t").length = 1:=(by decide +kernel); lia
 have pT:=zkh
 obtain ⟨Y,eY⟩ : ∃ Y,Y = repS "\t" 10001:=⟨_,rfl⟩
 rw [<- eY] at muT lT pT
 clear eY
 have muA : ∀ hh,ya8 (.str "a") (.int 10000) hh = .ok (.str (repS "a" 10000)) hh:=λhh=>yeA (z := "a") (k:=10000) (by decide) (by decide +kernel) hh
 have lA : (repS "a" 10000).length = 10000:=by rw [zaU]; have : (Str.ofString "a").length = 1:=(by decide +kernel); lia
 obtain ⟨A,eA⟩ : ∃ A,A = repS "a" 10000:=⟨_,rfl⟩
 rw [<- eA] at muA lA
 clear eA
 have l1t : (Str.ofString "\t").length = 1:=by decide +kernel
 have pZ : yaA (A ++ "\t") = false:=by
  rw [zaI]
  have : yaA "\t" = false:=by decide +kernel
  rw [this,Bool.and_false]
 have lZ : (A++Str.ofString "\t").length <= 20000:=by rw [zaj]; lia
 have adZ:=adS (a:=A) (b := "\t") (by lia)
 obtain ⟨Z,eZ⟩ : ∃ Z,Z = A++Str.ofString "\t" := ⟨_,rfl⟩
 rw [<- eZ] at pZ lZ adZ
 clear eZ
 have tx:=zkl (h:=h10) (en:=[V0,o1,some (.ref 1),some (.fl PV),some (.fl NV),o5,o6,some (.int far),none,none]) muT
 have H11:=H10.app [.dct false []]
 have eD : (h10++[AO.dct false []])[h10.length]? = some (.dct false []):=by simp
 have g2:=dueT H11 eD pT lT pZ lZ
 have fa2:=yeW H11 (.inr (.inl rfl)) g2
 generalize h10++[AO.dct false []] = h11 at *
 obtain ⟨TV,eTV,lTV⟩ : ∃ TV : List AV,TV = (lsC h10.length Y).map (λv=>AV.tup [.str "give",.str "new",v]) /\ TV.length = 9:=⟨_,rfl,rfl⟩
 rw [<- eTV] at tx fa2
 clear eTV
 have ad2 : fAdd (.fl TV) (.fl [.tup [.str "give",.str "a",.str Z]]) h11 = .ok (.fl (TV++[.tup [.str "give",.str "a",.str Z]])) h11:=by
  have : 9 + 1 <= sizeLine:=by decide
  simp only [fAdd,ybT,List.length_cons,List.length_nil,lTV,this,if_true]
 have c2:=zbQ (as:=yaa (sVar 2) (yaa (sOp2 fAdd (sVar 8) (sLst (yaa (sTup (yaa (sLit (.str "give")) (yaa (sLit (.str "a")) (yaa (sOp2 fAdd (sOp2 ya8 (sLit (.str "a")) (sLit (.int 10000))) (sLit (.str "\t"))) sNil)))) sNil))) (yaa (sLit (.int 1)) sNil))) (en:=[V0,o1,some (.ref 1),some (.fl PV),some (.fl NV),o5,o6,some (.int far),some (.fl TV),none]) (hh:=h11) (h1:=h11) (vs:=[.ref 1,.fl (TV++[.tup [.str "give",.str "a",.str Z]]),.int 1]) (by simp [muA,adZ,ad2,-fAdd,-ya8]) fa2
 obtain ⟨L3,fp,g3⟩:=zfo H11 la ly lh hf X.l1
 have fp' : ybh [.str "a",.str y,.int x0.length,.int far] h11 = .ok (.fl L3) h11:=fp
 have fa3:=yeW H11 (.inr (.inr (.inl rfl))) g3
 have c3:=zbQ (as:=yaa (sVar 2) (yaa (yal ybh (yaa (sLit (.str "a")) (yaa (sOp2 fIx (sVar 4) (sOp1 fNeg (sLit (.int 1)))) (yaa (yal fLen (yaa (sOp2 fIx (sVar 3) (sLit (.int 0))) sNil)) (yaa (sVar 7) sNil))))) (yaa (sLit (.int 2)) sNil))) (en:=[V0,o1,some (.ref 1),some (.fl PV),some (.fl NV),o5,o6,some (.int far),some (.fl TV),none]) (hh:=h11) (h1:=h11) (vs:=[.ref 1,.fl L3,.int 2]) (by generalize ybh = G at *; simp [hN,hP,fp',-fIx]) fa3
 have mu1 : ∀ hh,ya8 (.str "z") (.int 10001) hh = .ok (.str (repS "z" 10001)) hh:=λhh=>yeA (z := "z") (k:=10001) (by decide) (by decide +kernel) hh
 have mu2 : ∀ hh,ya8 (.str "z") (.int 20000) hh = .ok (.str (repS "z" 20000)) hh:=λhh=>yeA (z := "z") (k:=20000) (by decide) (by decide +kernel) hh
 have mu3 : ∀ hh,ya8 (.str "z") (.int 10000) hh = .ok (.str (repS "z" 10000)) hh:=λhh=>yeA (z := "z") (k:=10000) (by decide) (by decide +kernel) hh
 have lz : (Str.ofString "z").length = 1:=by decide +kernel
 have pz : yaA "z" = true:=by decide +kernel
 have l1 : (repS "z" 10001).length = 10001:=by rw [zaU,lz]
 have l2 : (repS "z" 20000).length = 20000:=by rw [zaU,lz]
 have l3 : (repS "z" 10000).length = 10000:=by rw [zaU,lz]
 have p1:=yeY pz 10001
 have p2:=yeY pz 20000
 have p3:=yeY pz 10000
 obtain ⟨Y1,e1⟩ : ∃ Y1,Y1 = repS "z" 10001:=⟨_,rfl⟩
 obtain ⟨Y2,e2⟩ : ∃ Y2,Y2 = repS "z" 20000:=⟨_,rfl⟩
 obtain ⟨Y3,e3⟩ : ∃ Y3,Y3 = repS "z" 10000:=⟨_,rfl⟩
 rw [<- e1] at mu1 l1 p1
 rw [<- e2] at mu2 l2 p2
 rw [<- e3] at mu3 l3 p3
 clear e1 e2 e3
 have g5:=dueL H11 la lh X.l1 lHg p1 l1 p2 l2
 have fa5:=yeW H11 (.inr (.inr (.inr rfl))) g5
 obtain ⟨LL,eLL⟩ : ∃ LL,LL = lng7 Y1 Y2++[AV.tup [.str "repeat",.str "a",.int 1000000000000000000],.tup [.str "repeat",.str "huge",.int (2 + far)]]:=⟨_,rfl⟩
 have a9 : ∀ (o7 o8 : Option AV) (vs : List AV),(sNot (ybt (yal yaZ (yaa (sVar 2) (yaa (sCut (sVar 9) none (some (sLit (.int 7)))) (yaa (sLit (.int 3)) sNil)))))) [V0,o1,some (.ref 1),some (.fl PV),some (.fl NV),o5,o6,o7,o8,some (.fl LL)] h11 = .ok false h11:=λo7 o8 _=>zbQ (vs:=[.ref 1,.fl (lng7 Y1 Y2),.int 3]) (by rw [eLL]; rfl) fa5
 have c5 : ∀ o8 : Option AV,(sOr (sAnd (yas (sOp2 fNe (sOp2 fIx (sVar 3) (sLit (.int 0))) (sLit (.str "x")))) (sNot (ybt (yal yaZ (yaa (sVar 2) (yaa (sVar 9) (yaa (sLit (.int 3)) sNil))))))) (sNot (ybt (yal yaZ (yaa (sVar 2) (yaa (sCut (sVar 9) none (some (sLit (.int 7)))) (yaa (sLit (.int 3)) sNil))))))) [V0,o1,some (.ref 1),some (.fl PV),some (.fl NV),o5,o6,some (.int far),o8,some (.fl LL)] h11 = .ok false h11:=λo8=>by
  have b9:=a9 (some (.int far)) o8 []
  have xe : (yas (sOp2 fNe (sOp2 fIx (sVar 3) (sLit (.int 0))) (sLit (.str "x")))) [V0,o1,some (.ref 1),some (.fl PV),some (.fl NV),o5,o6,some (.int far),o8,some (.fl LL)] h11 = .ok (!decide (x0 = "x")) h11:=by simp [hP,-fIx]
  by_cases qx : x0 = "x"
  ·rw [decide_eq_true qx] at xe
   unfold sOr sAnd
   rw [xe]
   exact b9
  ·rw [decide_eq_false qx] at xe
   have g6:=dueM H11 la lh (X.two qx) X.l31 lHg hf
   have fa6:=yeW (l:=LL) H11 (.inr (.inr (.inr rfl))) (λd hd=>by
    rw [eLL] at hd
    exact (List.mem_append.mp hd).elim (g5 d) (g6 d))
   have c6:=zbQ (as:=yaa (sVar 2) (yaa (sVar 9) (yaa (sLit (.int 3)) sNil))) (en:=[V0,o1,some (.ref 1),some (.fl PV),some (.fl NV),o5,o6,some (.int far),o8,some (.fl LL)]) (hh:=h11) (h1:=h11) (vs:=[.ref 1,.fl LL,.int 3]) rfl fa6
   unfold sOr sAnd
   rw [xe]
   dsimp only [Out.bind]
   rw [if_pos (by rfl),c6]
   exact b9
 obtain ⟨h12,fg,H12,_⟩:=zka (x := "a") (bs:=[]) H11 (by decide +kernel) T1 (by lia) (by lia)
 obtain ⟨n,ps3,h13,fg2,H13,_,_⟩:=yfk (x := "full") (y:=Y3) H12 (by decide +kernel) p3 (by lia) (by lia) (by have:=zaW kx "a" (n1,x0++x0); lia) (by rw [List.length_append]; simp; lia)
 have lf : lk (put (put kx "a" (n1,x0++x0)) "full" (n,Y3)) "full" = some (n,Y3):=by rw [ydC,if_pos rfl]
 have la2 : lk (put (put kx "a" (n1,x0++x0)) "full" (n,Y3)) "a" = some (n1,x0++x0):=by rw [ydC,if_neg (by decide +kernel),ydC,if_pos rfl]
 have ftf:=ybD H13 lf
 have fta:=ybD H13 la2
 have Tf:=(H13.tz _ (ybs lf)).1
 have Ta:=(H13.tz _ (ybs la2)).1
 obtain ⟨mf,emf,smf⟩:=Tf.meas
 obtain ⟨ma,ema,sma⟩:=Ta.meas
 have fsf:=zal H13.sh emf
 have fsa:=zal H13.sh ema
 have vf : mf.sg = 10000:=by rw [smf]; exact l3
 have va : ma.sg = 2 * x0.length:=by rw [sma]; show (x0++x0).length = _; rw [zaj]; lia
 have nz : n1 ≠ 0:=λz=>by
  subst z
  rcases Ta with ⟨_,w⟩ | ⟨_,_,_,T⟩
  ·have w' : x0++x0 = "" := w
   have : (x0++x0).length = 0:=by rw [w']; decide +kernel
   rw [zaj] at this
   have:=X.l1
   lia
  ·exact absurd T.n1 (by show ¬ (1 <= 0); decide)
 rw [vf] at fsf
 rw [va] at fsa
 have fsh : ya2 [.ref 1] h13 = .ok (.ref 2) h13:=by simp [ya2,H13.ob]
 have ob13:=H13.ob
 have ob2:=H13.sh.ob
 refine ⟨h13,?_⟩
 unfold yf7
 refine zam (e1:=[V0,o1,some (.ref 1),some (.fl PV),some (.fl NV),o5,o6,some (.int far),none,none]) (ydD s7) ?_
 refine zam (e1:=[V0,o1,some (.ref 1),some (.fl PV),some (.fl NV),o5,o6,some (.int far),none,none]) (h1:=h10) (yeZ (c1 none none)) ?_
 refine zam (e1:=[V0,o1,some (.ref 1),some (.fl PV),some (.fl NV),o5,o6,some (.int far),some (.fl TV),none]) (h1:=h11) (ydD tx) ?_
 refine zam (h1:=h11) (yeZ c2) ?_
 refine zam (h1:=h11) (yeZ c3) ?_
 refine zam (e1:=[V0,o1,some (.ref 1),some (.fl PV),some (.fl NV),o5,o6,some (.int far),some (.fl TV),some (.fl [.tup [.str "give",.str "new",.str Y1],.tup [.str "give",.str "a",.str Y2],.tup [.str "join_to",.str "huge",.str "a"]])]) (h1:=h11) (ydD (by simp [mu1,mu2,-ya8])) ?_
 refine zam (h1:=h11) (ycr (i:=9) (m:=[.tup [.str "join_to",.str "a",.str "huge"],.tup [.str "put_into",.str "huge",.int 5,.str "a"],.tup [.str "put_into",.str "a",.int 0,.str "huge"]]) rfl rfl (by show 6 <= 1000000; decide)) ?_
 refine zam (h1:=h11) (ycr (i:=9) (m:=[.tup [.str "repeat",.str "huge",.int 2]]) rfl rfl (by show 7 <= 1000000; decide)) ?_
 refine zam (e1:=[V0,o1,some (.ref 1),some (.fl PV),some (.fl NV),o5,o6,some (.int far),some (.fl TV),some (.fl LL)]) (h1:=h11) (by rw [eLL]; exact ycr (i:=9) (m:=[AV.tup [.str "repeat",.str "a",.int 1000000000000000000],.tup [.str "repeat",.str "huge",.int (2 + far)]]) rfl (by simp) (by show 9 <= 1000000; decide)) ?_
 refine zam (h1:=h11) (yeZ (c5 _)) ?_
 refine zam (h1:=h12) (za8 (za9 rfl H11.ob rfl fg)) ?_
 refine zam (h1:=h13) (za8 (za9 rfl H12.ob (vs:=[.str "full",.str Y3]) (by simp [mu3,-ya8]) fg2)) ?_
 generalize yai = G1 at *
 generalize ya2 = G2 at *
 generalize yaB = G3 at *
 refine zam (h1:=h13) (yeZ (by simp [ob13,fsh,ftf,ob2,fsf])) ?_
 have e2x : ((2 * x0.length : Nat) : Int) = 2 * (x0.length : Int):=by lia
 rw [e2x] at fsa
 simp [ob13,fsh,fta,ob2,fsa,hP,nz,-fIx]
end Sk
set_option maxHeartbeats 400000
namespace Sk
open PySem PySem.Spec L2 Sm
variable {kx:List (Str × Nat × Str)} {x y w Y:Str}
theorem yb7 {v:Nat × Str} (h : x ≠ y) : lk (put kx x v) y = lk kx y:=by rw [ydC,if_neg h]
theorem ye0 {v:Nat × Str} : lk (put kx x v) x = some v:=by rw [ydC,if_pos rfl]
variable {h h1 h' h2 hh:AH} {p e b a n i j d k1 n1 c hb D:Nat} {ps ps' ps1:List Pc} {ds:List (Str × Option Nat × Nat)}
theorem Ho.set0 {q t:Nat} {bs:List (Str × Option Nat × Nat)} (H : Ho h q p t ps kx ds bs) (q0 : 0 < q) (v : AO) : Ho (h.set 0 v) q p t ps kx ds bs:=by
 have o : ∀ i,0 < i -> (h.set 0 v)[i]? = h[i]? := λi a=>List.getElem?_set_ne (by lia)
 have lo:=H.lo
 exact ⟨(o q q0).trans H.ob,H.sh.keep λi a b=>o i (by lia),H.gd,(o t (by lia)).trans H.tx,(o (t + 1) (by lia)).trans H.de,(o (t + 2) (by lia)).trans H.ba,H.tz,H.lo,H.ct⟩
abbrev PE80 : SE:=sOp2 fAdd (sLit (.str "x")) (yal yb4 (yaa (sVar 1) (yaa (sLit (.int 30)) sNil)))
abbrev PI80 : SI:=ybS (sOp2 fAdd (sLit (.int 1)) (yal ya1 (yaa (sVar 1) (yaa (sLit (.int 3)) sNil))))
variable {N L:Int} {o0 o2 o3 o1:Option AV}
theorem zi4 {r:List (Option AV)} (e : hh[0]? = some (.lst [.int N])) :
  ∃ (xs : List Str) (N' : Int),ybk [1] PI80 sYes PE80 (o0 :: some (.ref 0) :: r) hh = .ok (.fl (xs.map AV.str)) (hh.set 0 (.lst [.int N'])) /\ 1 <= xs.length /\ xs.length <= 3 /\ ∀ x ∈ xs,Xs x:=by
 have Ll:=yb0 e
 obtain ⟨v,N1,hv,t⟩:=zcH 3 e (by decide) (by decide)
 have t' : ya1 [.ref 0,.int 3] hh = .ok (.int v) (hh.set 0 (.lst [.int N1])):=t
 have it:=zcn (a:=sOp2 fAdd (sLit (.int 1)) (yal ya1 (yaa (sVar 1) (yaa (sLit (.int 3)) sNil)))) (en:=o0 :: some (.ref 0) :: r) (h:=hh) (h1:=hh.set 0 (.lst [.int N1])) (n:=1 + v) (by
  generalize ya1 = G at *
  simp [t']) (by lia)
 obtain ⟨zs,h2,c,xs,N2,rfl,rfl,lx,hx⟩:=yfV (js:=[1]) (en:=o0 :: some (.ref 0) :: r) (all:=ybl 0 (1 + v)) (e:=PE80) (xs:=ybl 0 (1 + v)) (h:=hh.set 0 (.lst [.int N1]))
  (λj ys h' => ∃ (xs : List Str) (N' : Int),h' = hh.set 0 (.lst [.int N']) /\ ys = xs.map AV.str /\ xs.length = j /\ ∀ x ∈ xs,Xs x) ⟨[],N1,rfl,rfl,rfl,by simp⟩ (by
   rintro j u ys h' _ ⟨xs,N',rfl,rfl,lx,hx⟩
   have e3 : (hh.set 0 (.lst [.int N']))[0]? = some (.lst [.int N']):=List.getElem?_set_self Ll
   obtain ⟨y,N4,et,py,ly,_⟩:=zh0 30 (by decide) e3
   rw [List.set_set] at et
   have et' : yb4 [.ref 0,.int 30] (hh.set 0 (.lst [.int N'])) = .ok (.str y) (hh.set 0 (.lst [.int N4])):=et
   have l1 : (Str.ofString "x").length = 1:=by decide +kernel
   have ad:=adS (a := "x") (b:=y) (by lia) (hh.set 0 (.lst [.int N4]))
   have X:=yiK py ly
   have ee : PE80 [some u,some (.ref 0)] (hh.set 0 (.lst [.int N'])) = .ok (.str (Str.ofString "x" ++ y)) (hh.set 0 (.lst [.int N4])):=by
    unfold PE80
    generalize yb4 = G at *
    generalize hh.set 0 (.lst [.int N']) = h1 at *
    generalize hh.set 0 (.lst [.int N4]) = h2 at *
    simp [et',ad,-fAdd]
   show ygk (PE80 [some u,some (.ref 0)] (hh.set 0 (.lst [.int N']))) _
   rw [ee]
   exact ⟨xs++[Str.ofString "x" ++ y],N4,rfl,by simp,by simp [lx],λx hx' => by
    rcases List.mem_append.mp hx' with q | q
    ·exact hx x q
    ·rw [List.mem_singleton.mp q]; exact X⟩) (by rw [za1]; exact Nat.le_trans (show 1 + v <= 3 by lia) (by decide))
 rw [za1] at lx
 refine ⟨xs,N2,?_,by lia,by lia,hx⟩
 unfold ybk PI80
 rw [it]
 dsimp only
 rw [c]
theorem zdZ (a : ¬ Str.ofString "a" = y) (b : ¬ Str.ofString "ab" = y) (c : ¬ Str.ofString "zz" = y) : ∀ i,i < 3 -> nms i ≠ y:=λi hi=>by
 rcases (by lia : i = 0 \/ i = 1 \/ i = 2) with rfl | rfl | rfl
 ·exact a
 ·exact b
 ·exact c
theorem yiM {x0:Str} {r:List Str} {q:List (Option AV)} (l : r.length <= 2) (hh : AH) : sCut (sLst (yaa (sLit (.str "a")) (yaa (sLit (.str "ab")) (yaa (sLit (.str "zz")) sNil)))) none (some (yal fLen (yaa (sVar 3) sNil))) (o0 :: o1 :: o2 :: some (.fl ((x0 :: r).map AV.str)) :: q) hh = .ok (.fl (nmL.take (x0 :: r).length)) hh /\ ∀ h,fIx (.fl (nmL.take (x0 :: r).length)) (.int (-1)) h = .ok (.str (nms r.length)) h :=
 match r,l with
 | [],_=>⟨rfl,λ_=>rfl⟩
 | [_],_=>⟨rfl,λ_=>rfl⟩
 | [_,_],_=>⟨rfl,λ_=>rfl⟩
theorem law_true (ns : List Int) (hl : ns.length <= 63) : ∃ h',yfx [.fl (ns.map AV.int)] [] = .ok (.bl true) h' := by
 obtain ⟨N0,s0⟩:=zi3 ns hl 0 (by decide) []
 have s0' : ybO [.fl (ns.map AV.int),.int 0] [] = .ok (.ref 0) [.lst [.int N0]]:=s0
 have mk:=zj9 [some (.fl (ns.map AV.int)),some (.ref 0),none,none,none,none,none,none,none,none] [.lst [.int N0]]
 have mk' : yeL 1 4 ycp sNil [some (.fl (ns.map AV.int)),some (.ref 0),none,none,none,none,none,none,none,none] [.lst [.int N0]] = .ok (.ref 1) ([.lst [.int N0],.ins 1 [some (.ref 2),some (.ref 11),some (.ref 12),some (.ref 13)]]++(yeh 2++[AO.dct false [],.lst [],.lst []])):=mk
 have H0 : Ho ([.lst [.int N0],.ins 1 [some (.ref 2),some (.ref 11),some (.ref 12),some (.ref 13)]]++(yeh 2++[AO.dct false [],.lst [],.lst []])) 1 2 11 [] [] [] [] :=
  ⟨rfl,yhB [.lst [.int N0],.ins 1 [some (.ref 2),some (.ref 11),some (.ref 12),some (.ref 13)]] [AO.dct false [],.lst [],.lst []],.nil,rfl,rfl,rfl,nofun,⟨by decide,by decide⟩,by decide⟩
 have e0 : ([.lst [.int N0],.ins 1 [some (.ref 2),some (.ref 11),some (.ref 12),some (.ref 13)]]++(yeh 2++[AO.dct false [],.lst [],.lst []]) : AH)[0]? = some (.lst [.int N0]):=rfl
 clear mk s0
 generalize ([.lst [.int N0],.ins 1 [some (.ref 2),some (.ref 11),some (.ref 12),some (.ref 13)]]++(yeh 2++[AO.dct false [],.lst [],.lst []]) : AH) = h1 at *
 obtain ⟨xs,N1,cm,lx1,lx3,hx⟩:=zi4 (o0:=some (.fl (ns.map AV.int))) (r:=[some (.ref 1),none,none,none,none,none,none,none]) e0
 have H1:=H0.set0 (by decide) (.lst [.int N1])
 clear e0 H0
 generalize h1.set 0 (.lst [.int N1]) = h2 at *
 obtain ⟨x0,r,rfl⟩ : ∃ x0 r,xs = x0 :: r:=by
  cases xs with
  | nil=>exact absurd lx1 (by decide)
  | cons x0 r=>exact ⟨x0,r,rfl⟩
 have X:=hx x0 List.mem_cons_self
 obtain ⟨z,ez⟩ : ∃ z,(x0 :: r)[r.length]? = some z:=⟨_,List.getElem?_eq_getElem (Nat.lt_succ_self r.length)⟩
 have lr : r.length <= 2:=by rw [List.length_cons] at lx3; lia
 obtain ⟨cu,hN⟩:=yiM (x0:=x0) (o0:=some (.fl (ns.map AV.int))) (o1:=some (.ref 0)) (o2:=some (.ref 1)) (q:=[none,none,none,none,none,none]) lr h2
 obtain ⟨_,h3,ps,kx,ds,fg,G,o5,o6,rfl⟩:=yiL (o0:=some (.fl (ns.map AV.int))) (o1:=some (.ref 0)) (o4:=some (.fl (nmL.take (x0 :: r).length))) (o7:=none) (o8:=none) (o9:=none) (v3:=.fl ((x0 :: r).map AV.str)) H1 hx lx3
 have glp:=G.lp
 have glk:=G.lk
 have gld:=G.ld
 have llx : (x0 :: r).length <= 3:=lx3
 obtain ⟨m0,la⟩:=G.got 0 x0 (Nat.succ_pos _) rfl
 have la : lk kx "a" = some (m0,x0):=la
 obtain ⟨f,ly⟩ : ∃ f,lk kx (nms r.length) = some f:=by
  obtain ⟨m,e⟩:=G.got r.length z (Nat.lt_succ_self _) ez
  exact ⟨_,e⟩
 have nn : lk kx "none" = none:=G.out _ (zdZ (by decide +kernel) (by decide +kernel) (by decide +kernel))
 have nn2 : lk kx "nonesuch" = none:=G.out _ (zdZ (by decide +kernel) (by decide +kernel) (by decide +kernel))
 have ny : nms r.length ≠ "huge" := zdZ (by decide +kernel) (by decide +kernel) (by decide +kernel) _ (by lia)
 have q1 : ("huge" : Str) ≠ "a" := by decide +kernel
 have q2 : ("huge" : Str) ≠ "none" := by decide +kernel
 have q3 : ("huge" : Str) ≠ "nonesuch" := by decide +kernel
 have q4 : ("a" : Str) ≠ "none" := by decide +kernel
 have q5 : ("a" : Str) ≠ "nonesuch" := by decide +kernel
 have q6 : ("a" : Str) ≠ "huge" := by decide +kernel
 have lj : (Str.ofString "abcdefghij").length = 10:=by decide +kernel
 obtain ⟨n2,ps2,h4,fh,H4,_,lp2⟩:=yfk (x := "huge") (y := "abcdefghij") G.ho (by decide +kernel) (by decide +kernel) (by lia) (by lia) (by lia) (by lia)
 have lk2:=zaW kx "huge" (n2, "abcdefghij")
 obtain ⟨k,ek⟩ : ∃ k : Nat,k = 100000000000000000:=⟨_,rfl⟩
 obtain ⟨n3,ps3,h5,fr,H5,_,lp3⟩:=zfL (k:=k) (e:=57) H4 (ye0 (x := "huge")) (by rw [ek]; decide) (by decide) (by show (Str.ofString "abcdefghij").length * k <= _; rw [lj,ek]; decide) (by lia) (by lia) (by rw [List.length_append]; simp; lia)
 have ek' : (k : Int) = 100000000000000000:=by lia
 rw [ek'] at fr
 have lH : (repS (Str.ofString "abcdefghij") k).length = 1000000000000000000:=by rw [zaU,lj]; lia
 obtain ⟨Hg,eH⟩ : ∃ Hg,Hg = repS (Str.ofString "abcdefghij") k:=⟨_,rfl⟩
 have lk3:=zaW (put kx "huge" (n2, "abcdefghij")) "huge" (n3,Hg)
 change Ho h5 1 2 11 ps3 (put (put kx "huge" (n2, "abcdefghij")) "huge" (n3,repS (Str.ofString "abcdefghij") k)) _ [] at H5
 rw [<- eH] at lH H5
 clear eH ek ek'
 obtain ⟨ds3,eds⟩ : ∃ ds3,ds3 = ds++[(Str.ofString "huge",(lk kx "huge").map (·.1),n2)]++[(Str.ofString "huge",(lk (put kx "huge" (n2, "abcdefghij")) "huge").map (·.1),n3)]:=⟨_,rfl⟩
 have ld3 : ds3.length <= 5:=by rw [eds,List.length_append,List.length_append]; simp; lia
 rw [<- eds] at H5
 clear eds
 have la5 : lk (put (put kx "huge" (n2, "abcdefghij")) "huge" (n3,Hg)) "a" = some (m0,x0):=by rw [yb7 q1,yb7 q1,la]
 have ly5 : lk (put (put kx "huge" (n2, "abcdefghij")) "huge" (n3,Hg)) (nms r.length) = some f:=by rw [yb7 ny.symm,yb7 ny.symm,ly]
 have nn5 : lk (put (put kx "huge" (n2, "abcdefghij")) "huge" (n3,Hg)) "none" = none:=by rw [yb7 q2,yb7 q2,nn]
 have nn6 : lk (put (put kx "huge" (n2, "abcdefghij")) "huge" (n3,Hg)) "nonesuch" = none:=by rw [yb7 q3,yb7 q3,nn2]
 have lh5 : lk (put (put kx "huge" (n2, "abcdefghij")) "huge" (n3,Hg)) "huge" = some (n3,Hg):=ye0
 have lkx5 : (put (put kx "huge" (n2, "abcdefghij")) "huge" (n3,Hg)).length <= 5:=by lia
 generalize put (put kx "huge" (n2, "abcdefghij")) "huge" (n3,Hg) = kx5 at *
 have l31:=X.l31
 obtain ⟨n1,ps6,h6,fj,H6,_,lp6,pre⟩:=zhW (x := "a") (y := "a") H5 la5 la5 (by show x0.length + x0.length <= _; lia) (by lia) (by lia) (by lia)
 have T0:=(H5.tz _ (ybs la5)).1.pre pre
 have T1:=(H6.tz _ (ybs (ye0 (x := "a")))).1
 rw [la5] at H6
 have lk6:=zaW kx5 "a" (n1,x0++x0)
 obtain ⟨h7,fb,H7,_⟩:=yhG (bs:=[]) (x := "a") (n0:=m0) (n1:=n1) H6 (by decide +kernel) T0 (by show (put kx5 _ (n1,x0++x0)).length < 50; lia) (by decide)
 have lk7:=zaW (put kx5 "a" (n1,x0++x0)) "a" (m0,x0)
 have ly7 : ∃ f,lk (put (put kx5 "a" (n1,x0++x0)) "a" (m0,x0)) (nms r.length) = some f:=by
  by_cases z : Str.ofString "a" = nms r.length
  ·rw [<- z]; exact ⟨_,ye0⟩
  ·rw [yb7 z,yb7 z]; exact ⟨_,ly5⟩
 obtain ⟨f7,ly7⟩:=ly7
 have hP : ∀ hh,fIx (.fl ((x0 :: r).map AV.str)) (.int 0) hh = .ok (.str x0) hh:=λhh=>by
  have e : ((x0 :: r).map AV.str)[0]? = some (.str x0):=rfl
  show fIx (.fl ((x0 :: r).map AV.str)) (.int ((0 : Nat) : Int)) hh = _
  simp only [fIx,ybT,zcC e]
 obtain ⟨h',R1⟩:=yhT (x0:=x0) (n0:=m0) (y:=nms r.length) (ns:=ns) (o1:=some (.ref 0)) (o5:=o5) (o6:=o6) (NV:=nmL.take (x0 :: r).length) (PV:=(x0 :: r).map AV.str) H7 ye0 (by rw [yb7 q6,yb7 q6]; exact lh5) ly7 (by rw [yb7 q4,yb7 q4]; exact nn5) (by rw [yb7 q5,yb7 q5]; exact nn6) X lH T1 (by lia) (by show (put (put kx5 "a" (n1,x0++x0)) _ (m0,x0)).length <= 10; lia) (by lia) hN hP
 refine ⟨h',?_⟩
 unfold yfx
 refine yiI rfl ?_
 generalize (AV.fl (ns.map AV.int)) = V0 at *
 generalize (x0 :: r).map AV.str = PV at *
 generalize nmL.take (x0 :: r).length = NV at *
 refine zam (ydD (v:=.ref 0) (h1:=[.lst [.int N0]]) ?_) ?_
 ·generalize ybO = G at *
  simp [s0']
 refine zam (ydD mk') ?_
 refine zam (ydD cm) ?_
 refine zam (ydD cu) ?_
 refine zam (h1:=h3) fg ?_
 refine zam (h1:=h4) (za8 (za9 rfl G.ho.ob rfl fh)) ?_
 refine zam (h1:=h5) (za8 (za9 rfl H4.ob rfl fr)) ?_
 refine zam (h1:=h6) (za8 (za9 rfl H5.ob rfl fj)) ?_
 refine zam (h1:=h7) (za8 (za9 rfl H6.ob rfl fb)) ?_
 exact R1
end Sk
set_option maxHeartbeats 4000000
namespace Sk
open PySem PySem.Spec L2 Sm
theorem zh1 : bootBuiltins "sorted" = some (.builtin "sorted"):=by decide +kernel
def top (i : Nat) : Stmt:=PySem.Challenge.pw_skeinwood_k80_house_refused.main.body.getD i (.Pass ⟨0,0,0,0⟩)
abbrev ydW : Stmt:=top 49
abbrev ycW : Stmt:=top 50
abbrev ydE : Stmt:=yaG (top 22) 0
abbrev ydF : Stmt:=yaG (top 46) 0
abbrev ydT : Stmt:=top 18
abbrev ydG : Stmt:=top 47
abbrev ycG : Stmt:=yaG (top 46) 14
abbrev yej : Stmt:=yaG (top 46) 13
abbrev yek : Stmt:=top 14
abbrev ycx : Stmt:=yaG (top 22) 11
abbrev ycj : Stmt:=yaG (top 22) 12
abbrev ycs : Stmt:=yaG (top 22) 14
abbrev ydX : Stmt:=yaG (top 22) 17
abbrev ycH : Stmt:=yaG (top 22) 16
abbrev ydH : Stmt:=yaG (top 22) 2
abbrev yeE : Stmt:=top 35
abbrev ycX : Stmt:=top 16
abbrev yds : Stmt:=top 15
abbrev yel : Stmt:=top 17
abbrev yev : Stmt:=top 19
abbrev ycI : Stmt:=yaG (top 22) 15
abbrev ydI : Stmt:=yaG (top 22) 1
abbrev yeB : Stmt:=top 25
abbrev ydJ : Stmt:=yaG (top 46) 4
abbrev yct : Stmt:=yaG (top 22) 13
abbrev ydf : Stmt:=yaG (top 22) 5
abbrev yc6 : Stmt:=top 27
abbrev ycy : Stmt:=yaG (top 22) 10
abbrev ycu : Stmt:=yaG (top 22) 9
abbrev ydY : Stmt:=top 28
abbrev ydg : Stmt:=yaG (top 22) 4
abbrev ydZ : Stmt:=top 33
abbrev yc7 : Stmt:=yaG (top 22) 8
abbrev ydh : Stmt:=top 30
abbrev ycY : Stmt:=top 34
abbrev yc8 : Stmt:=top 31
abbrev yeF : Stmt:=top 29
abbrev yeG : Stmt:=top 32
abbrev yeH : Stmt:=top 24
abbrev yew : Stmt:=top 36
abbrev yem : Stmt:=top 26
abbrev ydK : Stmt:=yaG (top 46) 3
abbrev yc9 : Stmt:=yaG (top 46) 9
abbrev ycZ : Stmt:=yaG (top 46) 6
abbrev ydL : Stmt:=yaG (top 46) 11
abbrev ydi : Stmt:=yaG (top 46) 12
abbrev ydM : Stmt:=yaG (top 22) 3
abbrev ydj : Stmt:=yaG (top 46) 2
abbrev ydk : Stmt:=yaG (top 46) 1
abbrev ydt : Stmt:=top 54
abbrev yc0 : Stmt:=yaG (top 46) 5
abbrev yd0 : Stmt:=top 38
abbrev yeI : Stmt:=top 41
abbrev ycJ : Stmt:=yaG (top 46) 7
abbrev yc1 : Stmt:=top 39
abbrev yd1 : Stmt:=top 42
abbrev ycz : Stmt:=yaG (top 46) 8
abbrev ydN : Stmt:=yaG (top 46) 10
abbrev ydl : Stmt:=top 53
abbrev ydU : Stmt:=top 57
abbrev yen : Stmt:=top 51
abbrev yd2 : Stmt:=top 52
abbrev yc2 : Stmt:=top 55
abbrev ycK : Stmt:=top 56
abbrev yeC : Stmt:=top 58
def flds : Nat -> List Str
 | 0=>["pieces", "numbers", "sign_counts", "end_counts", "leaf_counts", "heights", "first_leaves", "last_leaves"]
 | 1=>["own_shelf", "texts", "deeds", "taken_back"]
 | _=>[]
theorem zkm : ∀ c,(flds c).Nodup
 | 0=>by decide +kernel
 | 1=>by decide +kernel
 | _ + 2=>List.nodup_nil
theorem zi5 : ∀ c,(flds c).length <= 500
 | 0=>by decide +kernel
 | 1=>by decide +kernel
 | _ + 2=>Nat.zero_le _
abbrev mkT (K : PySem.W.Frag) (cls exc : Nat -> Option Addr) : Tb:=⟨K,cls,exc,flds,zkm,zi5⟩
structure Facts (P : Program) (w : World) (K : PySem.W.Frag) (cls exc : Nat -> Option Addr) (mg : Str -> Option Value) (base : Heap) : Prop where
 b_ValueError : mg "ValueError" = none
 b_abs : mg "abs" = none
 b_all : mg "all" = none
 b_bool : mg "bool" = none
 b_int : mg "int" = none
 b_isinstance : mg "isinstance" = none
 b_len : mg "len" = none
 b_max : mg "max" = none
 b_range : mg "range" = none
 b_sorted : mg "sorted" = none
 b_str : mg "str" = none
 b_sum : mg "sum" = none
 b_zip : mg "zip" = none
 c_LEAF_SIGNS : ∃ t,mg "LEAF_SIGNS" = some (.int 8 t)
 c_NAME_SIGNS : ∃ t,mg "NAME_SIGNS" = some (.int 8 t)
 c_MOST_PLAIN : ∃ t,mg "MOST_PLAIN" = some (.int 10000 t)
 c_MOST_SIGNS : ∃ t,mg "MOST_SIGNS" = some (.int 1000000000000000000 t)
 cf_Shelf : CF (mkT K cls exc) 0
 cf_House : CF (mkT K cls exc) 1
 x_NoText : GX (mkT K cls exc) mg base 1 "NoText"
 x_TooLong : GX (mkT K cls exc) mg base 5 "TooLong"
 x_NoPlace : GX (mkT K cls exc) mg base 6 "NoPlace"
 x_NoName : GX (mkT K cls exc) mg base 7 "NoName"
 kx_NoName : ∃ C,mg "NoName" = some (.ref C) /\ ∀ c C',exc c = some C' -> ExcK K C' /\ PySem.W.kitOne K (.ref C') (.ref C) = some (ydc c)
 kx_NoPlace : ∃ C,mg "NoPlace" = some (.ref C) /\ ∀ c C',exc c = some C' -> ExcK K C' /\ PySem.W.kitOne K (.ref C') (.ref C) = some (ycQ c)
 kx_NoText : ∃ C,mg "NoText" = some (.ref C) /\ ∀ c C',exc c = some C' -> ExcK K C' /\ PySem.W.kitOne K (.ref C') (.ref C) = some (ydd c)
 kx_NothingDone : ∃ C,mg "NothingDone" = some (.ref C) /\ ∀ c C',exc c = some C' -> ExcK K C' /\ PySem.W.kitOne K (.ref C') (.ref C) = some (yca c)
 kx_TooLong : ∃ C,mg "TooLong" = some (.ref C) /\ ∀ c C',exc c = some C' -> ExcK K C' /\ PySem.W.kitOne K (.ref C') (.ref C) = some (ycR c)
 kx_ValueError : ∀ c C',exc c = some C' -> ExcK K C' /\ PySem.W.kitOne K (.ref C') (.type "ValueError") = some (ycf c)
 ct_SkeinError : ∃ C,mg "SkeinError" = some (.ref C) /\ ∀ c C',ybN c = true -> exc c = some C' -> PySem.W.exmOne K (.ref C') (.ref C) = some true
 d_law_mixed : DG K mg "_law_mixed" ydW ["cell", "k"]
 d_law_stream : DG K mg "_law_stream" ycW ["script", "k"]
 d_Shelf_init : DI K cls mg 0 "Shelf" "Shelf.__init__" ydE ["self"]
 d_House_init : DI K cls mg 1 "House" "House.__init__" ydF ["self"]
 d_is_name : DG K mg "is_name" ydT ["thing"]
 d_check_name : DG K mg "check_name" ydG ["name"]
 d_House_set_text : DMm K cls 1 "set_text" "House.set_text" ycG ["self", "name", "text"]
 d_House_do : DMm K cls 1 "do" "House.do" yej ["self", "name", "text"]
 d_is_whole : DG K mg "is_whole" yek ["thing"]
 d_Shelf_has_piece : DMm K cls 0 "has_piece" "Shelf.has_piece" ycx ["self", "number"]
 d_Shelf_check_piece : DMm K cls 0 "check_piece" "Shelf.check_piece" ycj ["self", "number"]
 d_Shelf_check_fork : DMm K cls 0 "check_fork" "Shelf.check_fork" ycs ["self", "one", "other"]
 d_Shelf_lay : DMm K cls 0 "lay" "Shelf.lay" ydX ["self", "made"]
 d_Shelf_lay_fork : DMm K cls 0 "lay_fork" "Shelf.lay_fork" ycH ["self", "made"]
 d_Shelf_fork : DMm K cls 0 "fork" "Shelf.fork" ydH ["self", "one", "other"]
 d_halved : DG K mg "halved" yeE ["shelf", "leaves"]
 d_is_plain_sign : DG K mg "is_plain_sign" ycX ["sign"]
 d_is_plain : DG K mg "is_plain" yds ["thing"]
 d_is_short : DG K mg "is_short" yel ["thing"]
 d_ends_in : DG K mg "ends_in" yev ["plain"]
 d_Shelf_lay_leaf : DMm K cls 0 "lay_leaf" "Shelf.lay_leaf" ycI ["self", "made"]
 d_Shelf_leaf : DMm K cls 0 "leaf" "Shelf.leaf" ydI ["self", "plain"]
 d_built : DG K mg "built" yeB ["shelf", "plain"]
 d_House_give : DMm K cls 1 "give" "House.give" ydJ ["self", "name", "plain"]
 d_Shelf_check_text : DMm K cls 0 "check_text" "Shelf.check_text" yct ["self", "text"]
 d_Shelf_signs : DMm K cls 0 "signs" "Shelf.signs" ydf ["self", "text"]
 d_check_length : DG K mg "check_length" yc6 ["signs"]
 d_Shelf_last_leaf : DMm K cls 0 "last_leaf" "Shelf.last_leaf" ycy ["self", "text"]
 d_Shelf_first_leaf : DMm K cls 0 "first_leaf" "Shelf.first_leaf" ycu ["self", "text"]
 d_are_close : DG K mg "are_close" ydY ["shelf", "one", "other"]
 d_Shelf_piece : DMm K cls 0 "piece" "Shelf.piece" ydg ["self", "number"]
 d_with_last : DG K mg "with_last" ydZ ["shelf", "text", "leaf"]
 d_Shelf_height : DMm K cls 0 "height" "Shelf.height" yc7 ["self", "text"]
 d_turned_left : DG K mg "turned_left" ydh ["shelf", "one", "other"]
 d_without_first : DG K mg "without_first" ycY ["shelf", "text"]
 d_turned_right : DG K mg "turned_right" yc8 ["shelf", "one", "other"]
 d_linked : DG K mg "linked" yeF ["shelf", "one", "other"]
 d_welded : DG K mg "welded" yeG ["shelf", "one", "other"]
 d_joined : DG K mg "joined" yeH ["shelf", "one", "other"]
 d_doubled : DG K mg "doubled" yew ["shelf", "text", "many"]
 d_repeated : DG K mg "repeated" yem ["shelf", "text", "many"]
 d_House_text : DMm K cls 1 "text" "House.text" ydK ["self", "name"]
 d_House_repeat : DMm K cls 1 "repeat" "House.repeat" yc9 ["self", "name", "many"]
 d_House_join_to : DMm K cls 1 "join_to" "House.join_to" ycZ ["self", "name", "other"]
 d_House_back : DMm K cls 1 "back" "House.back" ydL ["self"]
 d_House_again : DMm K cls 1 "again" "House.again" ydi ["self"]
 d_Shelf_many : DMm K cls 0 "many" "Shelf.many" ydM ["self"]
 d_House_names : DMm K cls 1 "names" "House.names" ydj ["self"]
 d_House_shelf : DMm K cls 1 "shelf" "House.shelf" ydk ["self"]
 d_law_seen : DG K mg "_law_seen" ydt ["house"]
 d_House_copy_of : DMm K cls 1 "copy_of" "House.copy_of" yc0 ["self", "name", "other"]
 d_check_gap : DG K mg "check_gap" yd0 ["shelf", "text", "at"]
 d_put_in : DG K mg "put_in" yeI ["shelf", "text", "at", "other"]
 d_House_put_into : DMm K cls 1 "put_into" "House.put_into" ycJ ["self", "name", "at", "other"]
 d_check_stretch : DG K mg "check_stretch" yc1 ["shelf", "text", "begin", "end"]
 d_taken_out : DG K mg "taken_out" yd1 ["shelf", "text", "begin", "end"]
 d_House_take_from : DMm K cls 1 "take_from" "House.take_from" ycz ["self", "name", "begin", "end"]
 d_House_drop : DMm K cls 1 "drop" "House.drop" ydN ["self", "name"]
 d_law_refused : DG K mg "_law_refused" ydl ["house", "deed"]
 d_law_all : DG K mg "_law_all" ydU ["house", "deeds", "kind"]
 d_law_take : DG K mg "_law_take" yen ["stream", "many"]
 d_law_plain : DG K mg "_law_plain" yd2 ["stream", "most"]
 d_law_names_due : DG K mg "_law_names_due" yc2 ["there"]
 d_law_places_due : DG K mg "_law_places_due" ycK ["there", "other", "signs", "far"]
 d_law : DG K mg "law" yeC ["script"]
theorem zfq : FnScope ["cell", "k", "one"] ["cell", "k"] (yag ydW):=fsk
theorem zeE : FnScope ["script", "k", "cell", "j", "found"] ["script", "k"] (yag ycW):=fsk
theorem zeF : FnScope ["self"] ["self"] (yag ydE):=fsk
theorem zeG : FnScope ["self"] ["self"] (yag ydF):=fsk
theorem zg4 : FnScope ["thing"] ["thing"] (yag ydT):=fsk
theorem zeH : FnScope ["name"] ["name"] (yag ydG):=fsk
theorem zcJ : FnScope ["self", "name", "text"] ["self", "name", "text"] (yag ycG):=fsk
theorem zfO : FnScope ["self", "name", "text"] ["self", "name", "text"] (yag yej):=fsk
theorem zfP : FnScope ["thing"] ["thing"] (yag yek):=fsk
theorem zct : FnScope ["self", "number"] ["self", "number"] (yag ycx):=fsk
theorem zb9 : FnScope ["self", "number"] ["self", "number"] (yag ycj):=fsk
theorem zcc : FnScope ["self", "one", "other", "seam"] ["self", "one", "other"] (yag ycs):=fsk
theorem zfr : FnScope ["self", "made", "number"] ["self", "made"] (yag ydX):=fsk
theorem zcK : FnScope ["self", "made", "one", "other"] ["self", "made"] (yag ycH):=fsk
theorem zeI : FnScope ["self", "one", "other", "made"] ["self", "one", "other"] (yag ydH):=fsk
theorem zey : FnScope ["shelf", "leaves", "middle"] ["shelf", "leaves"] (yag yeE):=fsk
theorem zdc : FnScope ["sign"] ["sign"] (yag ycX):=fsk
theorem zfQ : FnScope ["thing"] ["thing"] (yag yds):=fsk
theorem zfR : FnScope ["thing"] ["thing"] (yag yel):=fsk
theorem zg5 : FnScope ["plain"] ["plain"] (yag yev):=fsk
theorem zcL : FnScope ["self", "made", "number", "plain"] ["self", "made"] (yag ycI):=fsk
theorem zeJ : FnScope ["self", "plain", "made"] ["self", "plain"] (yag ydI):=fsk
theorem zi6 : FnScope ["shelf", "plain", "leaves"] ["shelf", "plain"] (yag yeB):=fsk
theorem zeK : FnScope ["self", "name", "plain"] ["self", "name", "plain"] (yag ydJ):=fsk
theorem zcd : FnScope ["self", "text"] ["self", "text"] (yag yct):=fsk
theorem zd0 : FnScope ["self", "text"] ["self", "text"] (yag ydf):=fsk
theorem zdA : FnScope ["signs"] ["signs"] (yag yc6):=fsk
theorem zcu : FnScope ["self", "text"] ["self", "text"] (yag ycy):=fsk
theorem zce : FnScope ["self", "text"] ["self", "text"] (yag ycu):=fsk
theorem zfs : FnScope ["shelf", "one", "other"] ["shelf", "one", "other"] (yag ydY):=fsk
theorem zd1 : FnScope ["self", "number"] ["self", "number"] (yag ydg):=fsk
theorem zcv : FnScope ["shelf", "text", "leaf", "piece"] ["shelf", "text", "leaf"] (yag ydZ):=fsk
theorem zdB : FnScope ["self", "text"] ["self", "text"] (yag yc7):=fsk
theorem zd2 : FnScope ["shelf", "one", "other", "piece", "near", "far", "inner"] ["shelf", "one", "other"] (yag ydh):=fsk
theorem zbt : FnScope ["shelf", "text", "piece", "rest"] ["shelf", "text"] (yag ycY):=fsk
theorem zdC : FnScope ["shelf", "one", "other", "piece", "far", "near", "inner"] ["shelf", "one", "other"] (yag yc8):=fsk
theorem zez : FnScope ["shelf", "one", "other", "tilt", "piece"] ["shelf", "one", "other"] (yag yeF):=fsk
theorem zh2 : FnScope ["shelf", "one", "other", "seam", "front", "back"] ["shelf", "one", "other"] (yag yeG):=fsk
theorem zh3 : FnScope ["shelf", "one", "other"] ["shelf", "one", "other"] (yag yeH):=fsk
theorem zdD : FnScope ["shelf", "text", "many", "half", "twice"] ["shelf", "text", "many"] (yag yew):=fsk
theorem zfS : FnScope ["shelf", "text", "many", "signs"] ["shelf", "text", "many"] (yag yem):=fsk
theorem zeL : FnScope ["self", "name"] ["self", "name"] (yag ydK):=fsk
theorem zdE : FnScope ["self", "name", "many"] ["self", "name", "many"] (yag yc9):=fsk
theorem zdd : FnScope ["self", "name", "other"] ["self", "name", "other"] (yag ycZ):=fsk
theorem zeM : FnScope ["self", "deed"] ["self"] (yag ydL):=fsk
theorem zd3 : FnScope ["self", "deed"] ["self"] (yag ydi):=fsk
theorem zeN : FnScope ["self"] ["self"] (yag ydM):=fsk
theorem zd4 : FnScope ["self"] ["self"] (yag ydj):=fsk
theorem zd5 : FnScope ["self"] ["self"] (yag ydk):=fsk
theorem zfT : FnScope ["house"] ["house"] (yag ydt):=fsk
theorem zde : FnScope ["self", "name", "other"] ["self", "name", "other"] (yag yc0):=fsk
theorem zft : FnScope ["shelf", "text", "at", "signs"] ["shelf", "text", "at"] (yag yd0):=fsk
theorem zh4 : FnScope ["shelf", "text", "at", "other", "together", "front"] ["shelf", "text", "at", "other"] (yag yeI):=fsk
theorem zcM : FnScope ["self", "name", "at", "other"] ["self", "name", "at", "other"] (yag ycJ):=fsk
theorem zdf : FnScope ["shelf", "text", "begin", "end", "signs"] ["shelf", "text", "begin", "end"] (yag yc1):=fsk
theorem zfu : FnScope ["shelf", "text", "begin", "end"] ["shelf", "text", "begin", "end"] (yag yd1):=fsk
theorem zcw : FnScope ["self", "name", "begin", "end"] ["self", "name", "begin", "end"] (yag ycz):=fsk
theorem zeO : FnScope ["self", "name"] ["self", "name"] (yag ydN):=fsk
theorem zd6 : FnScope ["house", "deed", "told", "e"] ["house", "deed"] (yag ydl):=fsk
theorem zg6 : FnScope ["house", "deeds", "kind", "seen", "deed"] ["house", "deeds", "kind"] (yag ydU):=fsk
theorem zfU : FnScope ["stream", "many", "digit"] ["stream", "many"] (yag yen):=fsk
theorem zfv : FnScope ["stream", "most", "kinds", "found", "k"] ["stream", "most"] (yag yd2):=fsk
theorem zdg : FnScope ["there", "found", "odd"] ["there"] (yag yc2):=fsk
theorem zcN : FnScope ["there", "other", "signs", "far", "found", "at"] ["there", "other", "signs", "far"] (yag ycK):=fsk
theorem yhU : FnScope ["script", "stream", "house", "plains", "names", "name", "plain", "far", "texts", "long"] ["script"] (yag yeC):=fsk
section
variable {P : Program} {w : World} {K : PySem.W.Frag} {cls exc : Nat -> Option Addr} {mg : Str -> Option Value} {base : Heap} (Z : Facts P w K cls exc mg base)
include Z
theorem zfV : GF P w (mkT K cls exc) mg base 1 "_law_mixed" yda:=gf Z.d_law_mixed zfq λhr C hu nd =>
 (zab (yat (i:=2) nd (yam ydm (yam ycM (yam (yaK rfl) (yam (yaK rfl) (yam ydm (yab 0) yad) (yam ycM yad (yab 1))) yad) yad) yad))
  (yae (yap (yam ydm (yam ycM (yam ydm (yam ycM (yab 2) (yab 2)) yad) yad) yad))))
theorem zfw : GF P w (mkT K cls exc) mg base 2 "_law_stream" ybO:=gf Z.d_law_stream zeE λ{f cdv A outer s H E} hr C hu nd =>
 (zab (yat (i:=2) nd yad)
  (zab (yee rfl (zen (E:=EN) rfl Z.b_range (yab 1) (r_bi (b_len rfl) rfl Z.b_len PySem.boot_len (zaa (yab 0) yac)) yad) (za5 (i:=3) nd) (yae (yat (i:=2) nd (yam (yaK rfl) (yam ycM (yab 2) (yam ycM (yam ydn yad yad) (yam ydn yad yad))) (yam ydm (r_ix rfl hu (yab 0) (yab 3)) (yam ycM (yam ydn yad yad) (yam ydn yad yad)))))))
  (zab (r_if (yaC o_ge (yab 2) (yam ydn yad yad) (yaz _)) (yae (yap (yco (zaa (yab 2) yac)))) yax)
  (zab (yat (i:=2) nd (yam (yaK rfl) (yab 2) (r_bi (b_sum rfl) rfl Z.b_sum PyProof.Rows.boot_sum (zaa (yer (jf:=[]) (zaN (N:=["script", "k", "cell", "j", "found"]) (sc:=yag ycW) rfl (λ_=>rfl) (by decide +kernel)) rfl (ycP (E:=(λ_=>E)) rfl (yab 0)) (λ_ _ _ _ _=>za0) (λ_ _ _ _ _=>(yam ydm (yab 0) (yam ydn yad yad)))) yac))))
  (zab (yat (i:=4) nd yad)
  (zab (yee rfl (zbw (E:=EN) rfl Z.b_range yad) (za5 (i:=3) nd) (yae (yat (i:=4) nd (yam (yaK rfl) (yam ycM (yab 4) yad) (yaq rfl (C.nox) (zfV Z) hr.m rfl (zaa (yam (yaK rfl) (yam (yaK rfl) (yab 2) (yam ycM yad (yab 1))) (r_bi (b_len rfl) rfl Z.b_len PySem.boot_len (zaa (yab 0) yac))) (zaa (yab 3) yac)))))))
  (yae (yap (yco (zaa (yab 4) yac))))))))))
theorem zfx : GK P w (mkT K cls exc) mg base 1 0 "Shelf" ydy:=gk Z.d_Shelf_init zeF λhr C hu nd =>
 (zab (zaB rfl Z.cf_Shelf (yab 0) (yco yac))
  (zab (zaB rfl Z.cf_Shelf (yab 0) zjL)
  (zab (zaB rfl Z.cf_Shelf (yab 0) (yco (zaa yad yac)))
  (zab (zaB rfl Z.cf_Shelf (yab 0) (yco (zaa yad yac)))
  (zab (zaB rfl Z.cf_Shelf (yab 0) (yco (zaa yad yac)))
  (zab (zaB rfl Z.cf_Shelf (yab 0) (yco (zaa (ycN yad) yac)))
  (zab (zaB rfl Z.cf_Shelf (yab 0) (yco (zaa yad yac)))
  (yae (zaB rfl Z.cf_Shelf (yab 0) (yco (zaa yad yac)))))))))))
theorem zfy : GK P w (mkT K cls exc) mg base 3 1 "House" ycp:=gk Z.d_House_init zeG λhr C hu nd =>
 (zab (zaB rfl Z.cf_House (yab 0) (zgi rfl C (zfx Z) hr.m rfl))
  (zab (zaB rfl Z.cf_House (yab 0) zdO)
  (zab (zaB rfl Z.cf_House (yab 0) (yco yac))
  (yae (zaB rfl Z.cf_House (yab 0) (yco yac))))))
theorem zeA : GF P w (mkT K cls exc) mg base 1 "is_name" ybe:=gf Z.d_is_name zg4 λ{f cdv A outer s H E} hr C hu nd =>
 (zab (r_if (ybW (zaz rfl (ye7 rfl rfl Z.b_isinstance (yab 0) rfl Z.b_str yfE (by decide)))) (yae (yap r_bl)) yax)
  (yae (yap (yeP (zbJ o_le o_le yad (r_bi (b_len rfl) rfl Z.b_len PySem.boot_len (zaa (yab 0) yac)) (r_gI rfl Z.c_NAME_SIGNS)) (yed (r_bi (b_all rfl) rfl Z.b_all PyProof.Rows.boot_all (zaa (yer (jf:=[]) (zaN (N:=["thing"]) (sc:=yag ydT) rfl (λ_=>rfl) (by decide +kernel)) rfl (ycP (E:=(λ_=>E)) rfl (yab 0)) (λ_ _ _ _ _=>za0) (λ_ _ _ _ _=>(zbJ o_le o_le yaj (yab 0) yaj))) yac)))))))
theorem zcx : GF P w (mkT K cls exc) mg base 2 "check_name" ya7:=gf Z.d_check_name zeH λhr C hu nd =>
 (yae (r_if (ybW (zaz rfl (yaq rfl C (zeA Z) hr.m rfl (zaa (yab 0) yac)))) (yae (zaR Z.x_NoName zaQ rfl (zaa yaj yac))) yax))
theorem zaZ : GM P w (mkT K cls exc) mg base 1 1 "set_text" ybf:=gm Z.d_House_set_text zcJ (show ("set_text" : Str) ∉ flds 1 by decide +kernel) λhr C hu nd =>
 (yae (r_if (yaC yio (yab 2) yeO (yaz _)) yb9 (yae (zdT hu (yau rfl Z.cf_House (yab 0)) (yab 1) (yab 2)))))
theorem zaP : GM P w (mkT K cls exc) mg base 2 1 "do" yav:=gm Z.d_House_do zfO (show ("do" : Str) ∉ flds 1 by decide +kernel) λhr C hu nd =>
 (zab (yao (r_bm rfl PySem.F.plainAttrs_list PySem.F.slot_list_append PySem.F.type_list_append (zaw) zav (yau rfl Z.cf_House (yab 0)) (zaa (yaI (zaa (yab 1) (zaa (yht hu (yau rfl Z.cf_House (yab 0)) (yab 1)) (zaa (yab 2) yac)))) yac)))
  (zab (yao (yfu rfl PySem.F.plainAttrs_list PySem.F.slot_list_clear PySem.F.type_list_clear (zjX) zav (yau rfl Z.cf_House (yab 0))))
  (yae (yao (yak rfl C (zaZ Z) hr.m (yab 0) (zaa (yab 1) (zaa (yab 2) yac)))))))
theorem zg7 : GF P w (mkT K cls exc) mg base 1 "is_whole" ydp:=gf Z.d_is_whole zfP λhr C hu nd =>
 (yae (yap (yeP (ye7 rfl rfl Z.b_isinstance (yab 0) rfl Z.b_int yg7 (by decide)) (yed (yip (ye7 rfl rfl Z.b_isinstance (yab 0) rfl Z.b_bool zjy (by decide)))))))
theorem zcO : GM P w (mkT K cls exc) mg base 2 0 "has_piece" yb6:=gm Z.d_Shelf_has_piece zct (show ("has_piece" : Str) ∉ flds 0 by decide +kernel) λhr C hu nd =>
 (yae (yap (yeP (yaq rfl C (zg7 Z) hr.m rfl (zaa (yab 1) yac)) (yed (zbJ o_le o_le yad (yab 1) (r_bi (b_len rfl) rfl Z.b_len PySem.boot_len (zaa (yau rfl Z.cf_Shelf (yab 0)) yac)))))))
theorem zaF : GM P w (mkT K cls exc) mg base 3 0 "check_piece" yba:=gm Z.d_Shelf_check_piece zb9 (show ("check_piece" : Str) ∉ flds 0 by decide +kernel) λhr C hu nd =>
 (yae (r_if (ybW (zaz rfl (yak rfl C (zcO Z) hr.m (yab 0) (zaa (yab 1) yac)))) yb9 yax))
theorem zcy : GM P w (mkT K cls exc) mg base 4 0 "check_fork" ybB:=gm Z.d_Shelf_check_fork zcc (show ("check_fork" : Str) ∉ flds 0 by decide +kernel) λhr C hu nd =>
 (zab (yao (yak rfl C (zaF Z) hr.m (yab 0) (zaa (yab 1) yac)))
  (zab (yao (yak rfl C (zaF Z) hr.m (yab 0) (zaa (yab 2) yac)))
  (zab (yat (i:=3) nd (yam (yaK rfl) (r_ix rfl hu (yau rfl Z.cf_Shelf (yab 0)) (r_ix rfl hu (yau rfl Z.cf_Shelf (yab 0)) (yab 1))) (r_ix rfl hu (yau rfl Z.cf_Shelf (yab 0)) (r_ix rfl hu (yau rfl Z.cf_Shelf (yab 0)) (yab 2)))))
  (zab (r_if (yaC o_le (yab 3) (r_gI rfl Z.c_LEAF_SIGNS) (yaz _)) yb9 yax)
  (zab (r_if (yaC o_gt (r_bi (b_abs) rfl Z.b_abs PyProof.Rows.boot_abs (zaa (yam ydO (r_ix rfl hu (yau rfl Z.cf_Shelf (yab 0)) (yab 1)) (r_ix rfl hu (yau rfl Z.cf_Shelf (yab 0)) (yab 2))) yac)) yad (yaz _)) yb9 yax)
  (yae (r_if (yaC o_gt (yam (yaK rfl) (r_ix rfl hu (yau rfl Z.cf_Shelf (yab 0)) (yab 1)) (r_ix rfl hu (yau rfl Z.cf_Shelf (yab 0)) (yab 2))) (r_gI rfl Z.c_MOST_SIGNS) (yaz _)) (yae (zaR Z.x_TooLong zaQ rfl (zaa yaj yac))) yax)))))))
theorem zcW : GM P w (mkT K cls exc) mg base 1 0 "lay" ycD:=gm Z.d_Shelf_lay zfr (show ("lay" : Str) ∉ flds 0 by decide +kernel) λhr C hu nd =>
 (zab (yao (r_bm rfl PySem.F.plainAttrs_list PySem.F.slot_list_append PySem.F.type_list_append (zaw) zav (yau rfl Z.cf_Shelf (yab 0)) (zaa (yab 1) yac)))
  (zab (yat (i:=2) nd (r_bi (b_len rfl) rfl Z.b_len PySem.boot_len (zaa (yau rfl Z.cf_Shelf (yab 0)) yac)))
  (zab (zdT hu (yau rfl Z.cf_Shelf (yab 0)) (yab 1) (yab 2))
  (yae (yap (yab 2))))))
theorem zdh : GM P w (mkT K cls exc) mg base 2 0 "lay_fork" ybP:=gm Z.d_Shelf_lay_fork zcK (show ("lay_fork" : Str) ∉ flds 0 by decide +kernel) λhr C hu nd =>
 (zab (yao (yak rfl C (zcW Z) hr.m (yab 0) (zaa (yab 1) yac)))
  (zab (yat (i:=2) nd (r_ix rfl hu (yab 1) yad))
  (zab (yat (i:=3) nd (r_ix rfl hu (yab 1) yad))
  (zab (yao (r_bm rfl PySem.F.plainAttrs_list PySem.F.slot_list_append PySem.F.type_list_append (zaw) zav (yau rfl Z.cf_Shelf (yab 0)) (zaa (yam (yaK rfl) (r_ix rfl hu (yau rfl Z.cf_Shelf (yab 0)) (yab 2)) (r_ix rfl hu (yau rfl Z.cf_Shelf (yab 0)) (yab 3))) yac)))
  (zab (yao (r_bm rfl PySem.F.plainAttrs_list PySem.F.slot_list_append PySem.F.type_list_append (zaw) zav (yau rfl Z.cf_Shelf (yab 0)) (zaa (yam (yaK rfl) (r_ix rfl hu (yau rfl Z.cf_Shelf (yab 0)) (yab 2)) (r_ix rfl hu (yau rfl Z.cf_Shelf (yab 0)) (yab 3))) yac)))
  (zab (yao (r_bm rfl PySem.F.plainAttrs_list PySem.F.slot_list_append PySem.F.type_list_append (zaw) zav (yau rfl Z.cf_Shelf (yab 0)) (zaa (yam (yaK rfl) (r_ix rfl hu (yau rfl Z.cf_Shelf (yab 0)) (yab 2)) (r_ix rfl hu (yau rfl Z.cf_Shelf (yab 0)) (yab 3))) yac)))
  (zab (yao (r_bm rfl PySem.F.plainAttrs_list PySem.F.slot_list_append PySem.F.type_list_append (zaw) zav (yau rfl Z.cf_Shelf (yab 0)) (zaa (yam (yaK rfl) (r_bi (yhm) rfl Z.b_max PyProof.Rows.boot_max (zaa (r_ix rfl hu (yau rfl Z.cf_Shelf (yab 0)) (yab 2)) (zaa (r_ix rfl hu (yau rfl Z.cf_Shelf (yab 0)) (yab 3)) yac))) yad) yac)))
  (zab (yao (r_bm rfl PySem.F.plainAttrs_list PySem.F.slot_list_append PySem.F.type_list_append (zaw) zav (yau rfl Z.cf_Shelf (yab 0)) (zaa (r_ix rfl hu (yau rfl Z.cf_Shelf (yab 0)) (yab 2)) yac)))
  (yae (yao (r_bm rfl PySem.F.plainAttrs_list PySem.F.slot_list_append PySem.F.type_list_append (zaw) zav (yau rfl Z.cf_Shelf (yab 0)) (zaa (r_ix rfl hu (yau rfl Z.cf_Shelf (yab 0)) (yab 3)) yac))))))))))))
theorem zag : GM P w (mkT K cls exc) mg base 5 0 "fork" yaf:=gm Z.d_Shelf_fork zeI (show ("fork" : Str) ∉ flds 0 by decide +kernel) λhr C hu nd =>
 (zab (yao (yak rfl C (zcy Z) hr.m (yab 0) (zaa (yab 1) (zaa (yab 2) yac))))
  (zab (yat (i:=3) nd (yaI (zaa yaj (zaa (yab 1) (zaa (yab 2) yac)))))
  (zab (r_if (yaC (zdU rfl hu) (yab 3) (yau rfl Z.cf_Shelf (yab 0)) rfl) (yae (yao (yak rfl C (zdh Z) hr.m (yab 0) (zaa (yab 3) yac)))) yax)
  (yae (yap (r_ix rfl hu (yau rfl Z.cf_Shelf (yab 0)) (yab 3)))))))
theorem zdi : ∀ d,GF P w (mkT K cls exc) mg base (5 + d + 1) "halved" (yby d)
 | 0=>gf Z.d_halved zey λ_ _ _ _=>yb9
 | d + 1=>gf Z.d_halved zey λhr C hu nd =>
  (zab (r_if (yaC (o_eq rfl hu) (r_bi (b_len rfl) rfl Z.b_len PySem.boot_len (zaa (yab 1) yac)) yad (yaz _)) (yae (yap (r_ix rfl hu (yab 1) yad))) yax)
  (zab (yat (i:=2) nd (yam yfs (r_bi (b_len rfl) rfl Z.b_len PySem.boot_len (zaa (yab 1) yac)) yad))
  (yae (yap (yak rfl C (zag Z) (hr.mono (show 5 <= 5 + (d + 1) by lia)) (yab 0) (zaa (yaq rfl C (zdi d) (hr.mono (by lia)) rfl (zaa (yab 0) (zaa (zbK rfl (yab 1) zcD (zbp (yab 2))) yac))) (zaa (yaq rfl C (zdi d) (hr.mono (by lia)) rfl (zaa (yab 0) (zaa (zbK rfl (yab 1) (zbp (yab 2)) zcD) yac))) yac)))))))
theorem zdF : GF P w (mkT K cls exc) mg base 1 "is_plain_sign" ybY:=gf Z.d_is_plain_sign zdc λhr C hu nd =>
 (yae (yap (r_or (yez (o_eq rfl hu) (yab 0) yaj (yaz _)) (yed (zbJ o_le o_le yaj (yab 0) yaj)))))
theorem zdG : GF P w (mkT K cls exc) mg base 2 "is_plain" ybq:=gf Z.d_is_plain zfQ λ{f cdv A outer s H E} hr C hu nd =>
 (zab (r_if (ybW (zaz rfl (ye7 rfl rfl Z.b_isinstance (yab 0) rfl Z.b_str yfE (by decide)))) (yae (yap r_bl)) yax)
  (yae (yap (r_bi (b_all rfl) rfl Z.b_all PyProof.Rows.boot_all (zaa (yer (jf:=[]) (zaN (N:=["thing"]) (sc:=yag yds) rfl (λ_=>rfl) (by decide +kernel)) rfl (ycP (E:=(λ_=>E)) rfl (yab 0)) (λ_ _ _ _ _=>za0) (λ_ _ _ _ _=>(yaq rfl (CA.never rfl) (zdF Z) hr.m rfl (zaa (yab 0) yac)))) yac)))))
theorem zg8 : GF P w (mkT K cls exc) mg base 3 "is_short" ydq:=gf Z.d_is_short zfR λhr C hu nd =>
 (yae (yap (yeP (yaq rfl C (zdG Z) hr.m rfl (zaa (yab 0) yac)) (yed (zbJ o_le o_le yad (r_bi (b_len rfl) rfl Z.b_len PySem.boot_len (zaa (yab 0) yac)) (r_gI rfl Z.c_LEAF_SIGNS))))))
theorem zh5 : GF P w (mkT K cls exc) mg base 1 "ends_in" ydQ:=gf Z.d_ends_in zg5 λhr C hu nd =>
 (yae (yap (r_bm rfl PySem.F.plainAttrs_str PySem.F.slot_str_count PySem.F.type_str_count (ziM) zjT (yab 0) (zaa yaj yac))))
theorem zdj : GM P w (mkT K cls exc) mg base 2 0 "lay_leaf" ybQ:=gm Z.d_Shelf_lay_leaf zcL (show ("lay_leaf" : Str) ∉ flds 0 by decide +kernel) λhr C hu nd =>
 (zab (yat (i:=2) nd (yak rfl C (zcW Z) hr.m (yab 0) (zaa (yab 1) yac)))
  (zab (yat (i:=3) nd (r_ix rfl hu (yab 1) yad))
  (zab (yao (r_bm rfl PySem.F.plainAttrs_list PySem.F.slot_list_append PySem.F.type_list_append (zaw) zav (yau rfl Z.cf_Shelf (yab 0)) (zaa (r_bi (b_len rfl) rfl Z.b_len PySem.boot_len (zaa (yab 3) yac)) yac)))
  (zab (yao (r_bm rfl PySem.F.plainAttrs_list PySem.F.slot_list_append PySem.F.type_list_append (zaw) zav (yau rfl Z.cf_Shelf (yab 0)) (zaa (yaq rfl C (zh5 Z) hr.m rfl (zaa (yab 3) yac)) yac)))
  (zab (yao (r_bm rfl PySem.F.plainAttrs_list PySem.F.slot_list_append PySem.F.type_list_append (zaw) zav (yau rfl Z.cf_Shelf (yab 0)) (zaa yad yac)))
  (zab (yao (r_bm rfl PySem.F.plainAttrs_list PySem.F.slot_list_append PySem.F.type_list_append (zaw) zav (yau rfl Z.cf_Shelf (yab 0)) (zaa yad yac)))
  (zab (yao (r_bm rfl PySem.F.plainAttrs_list PySem.F.slot_list_append PySem.F.type_list_append (zaw) zav (yau rfl Z.cf_Shelf (yab 0)) (zaa (yab 2) yac)))
  (yae (yao (r_bm rfl PySem.F.plainAttrs_list PySem.F.slot_list_append PySem.F.type_list_append (zaw) zav (yau rfl Z.cf_Shelf (yab 0)) (zaa (yab 2) yac)))))))))))
theorem zcz : GM P w (mkT K cls exc) mg base 4 0 "leaf" yaX:=gm Z.d_Shelf_leaf zeJ (show ("leaf" : Str) ∉ flds 0 by decide +kernel) λhr C hu nd =>
 (zab (r_if (ybW (zaz rfl (yaq rfl C (zg8 Z) hr.m rfl (zaa (yab 1) yac)))) (yae (zaR Z.x_NoText zaQ rfl (zaa yaj yac))) yax)
  (zab (yat (i:=2) nd (yaI (zaa yaj (zaa (yab 1) yac))))
  (zab (r_if (yaC (zdU rfl hu) (yab 2) (yau rfl Z.cf_Shelf (yab 0)) rfl) (yae (yao (yak rfl C (zdj Z) hr.m (yab 0) (zaa (yab 2) yac)))) yax)
  (yae (yap (r_ix rfl hu (yau rfl Z.cf_Shelf (yab 0)) (yab 2)))))))
theorem zkn : GF P w (mkT K cls exc) mg base 27 "built" ybL:=gf Z.d_built zi6 λ{f cdv A outer s H E} hr C hu nd =>
 (zab (r_if (ybW (zaz rfl (yaq rfl C (zdG Z) hr.m rfl (zaa (yab 1) yac)))) (yae (zaR Z.x_NoText zaQ rfl (zaa yaj yac))) yax)
  (zab (r_if (yaC o_gt (r_bi (b_len rfl) rfl Z.b_len PySem.boot_len (zaa (yab 1) yac)) (r_gI rfl Z.c_MOST_PLAIN) (yaz _)) (yae (zaR Z.x_TooLong zaQ rfl (zaa yaj yac))) yax)
  (zab (r_if (yaC (o_eq rfl hu) (yab 1) yaj (yaz _)) (yae (yap yad)) yax)
  (zab (zdP (jf:=[(0, "shelf"),(1, "plain")]) (zaN (N:=["shelf", "plain", "leaves"]) (sc:=yag yeB) rfl (λ_=>rfl) (by decide +kernel)) rfl (zen (E:=(λ_=>E)) rfl Z.b_range yad (r_bi (b_len rfl) rfl Z.b_len PySem.boot_len (zaa (yab 1) yac)) (r_gI rfl Z.c_LEAF_SIGNS)) (λ_ _ _ _ _=>za0) (λ_ _ _ _ _=>(yak rfl (CA.never rfl) (zcz Z) hr.m (yab 1) (zaa (zbK rfl (yab 2) (zbp (yab 0)) (zbp (yam (yaK rfl) (yab 0) (r_gI rfl Z.c_LEAF_SIGNS)))) yac))) nd (i:=2))
  (yae (yap (yaq rfl C (zdi Z 20) hr.m rfl (zaa (yab 0) (zaa (yab 2) yac)))))))))
theorem za4 : GM P w (mkT K cls exc) mg base 28 1 "give" yaO:=gm Z.d_House_give zeK (show ("give" : Str) ∉ flds 1 by decide +kernel) λhr C hu nd =>
 (zab (yao (yaq rfl C (zcx Z) hr.m rfl (zaa (yab 1) yac)))
  (yae (yao (yak rfl C (zaP Z) hr.m (yab 0) (zaa (yab 1) (zaa (yaq rfl C (zkn Z) hr.m rfl (zaa (yau rfl Z.cf_House (yab 0)) (zaa (yab 2) yac))) yac))))))
theorem zaJ : GM P w (mkT K cls exc) mg base 4 0 "check_text" ya5:=gm Z.d_Shelf_check_text zcd (show ("check_text" : Str) ∉ flds 0 by decide +kernel) λhr C hu nd =>
 (yae (r_if (yaC (o_ne rfl hu) (yab 1) yad (yaz _)) (yae (yao (yak rfl C (zaF Z) hr.m (yab 0) (zaa (yab 1) yac)))) yax))
theorem zao : GM P w (mkT K cls exc) mg base 5 0 "signs" yaB:=gm Z.d_Shelf_signs zd0 (show ("signs" : Str) ∉ flds 0 by decide +kernel) λhr C hu nd =>
 (zab (yao (yak rfl C (zaJ Z) hr.m (yab 0) (zaa (yab 1) yac)))
  (yae (yap (r_ix rfl hu (yau rfl Z.cf_Shelf (yab 0)) (yab 1)))))
theorem zba : GF P w (mkT K cls exc) mg base 1 "check_length" yaP:=gf Z.d_check_length zdA λhr C hu nd =>
 (yae (r_if (yaC o_gt (yab 0) (r_gI rfl Z.c_MOST_SIGNS) (yaz _)) (yae (zaR Z.x_TooLong zaQ rfl (zaa yaj yac))) yax))
theorem zbk : GM P w (mkT K cls exc) mg base 5 0 "last_leaf" ybH:=gm Z.d_Shelf_last_leaf zcu (show ("last_leaf" : Str) ∉ flds 0 by decide +kernel) λhr C hu nd =>
 (zab (yao (yak rfl C (zaJ Z) hr.m (yab 0) (zaa (yab 1) yac)))
  (yae (yap (r_ix rfl hu (yau rfl Z.cf_Shelf (yab 0)) (yab 1)))))
theorem zbh : GM P w (mkT K cls exc) mg base 5 0 "first_leaf" ybC:=gm Z.d_Shelf_first_leaf zce (show ("first_leaf" : Str) ∉ flds 0 by decide +kernel) λhr C hu nd =>
 (zab (yao (yak rfl C (zaJ Z) hr.m (yab 0) (zaa (yab 1) yac)))
  (yae (yap (r_ix rfl hu (yau rfl Z.cf_Shelf (yab 0)) (yab 1)))))
theorem zfW : GF P w (mkT K cls exc) mg base 6 "are_close" ycE:=gf Z.d_are_close zfs λhr C hu nd =>
 (yae (yap (yez o_gt (yam (yaK rfl) (yak rfl C (zao Z) hr.m (yab 0) (zaa (yak rfl C (zbk Z) hr.m (yab 0) (zaa (yab 1) yac)) yac)) (yak rfl C (zao Z) hr.m (yab 0) (zaa (yak rfl C (zbh Z) hr.m (yab 0) (zaa (yab 2) yac)) yac))) (r_gI rfl Z.c_LEAF_SIGNS) (yaz _))))
theorem zau : GM P w (mkT K cls exc) mg base 4 0 "piece" yaH:=gm Z.d_Shelf_piece zd1 (show ("piece" : Str) ∉ flds 0 by decide +kernel) λhr C hu nd =>
 (zab (yao (yak rfl C (zaF Z) hr.m (yab 0) (zaa (yab 1) yac)))
  (yae (yap (r_ix rfl hu (yau rfl Z.cf_Shelf (yab 0)) (yam ydO (yab 1) yad)))))
theorem zcX : ∀ d,GF P w (mkT K cls exc) mg base (5 + d + 1) "with_last" (ybi d)
 | 0=>gf Z.d_with_last zcv λ_ _ _ _=>yb9
 | d + 1=>gf Z.d_with_last zcv λhr C hu nd =>
  (zab (yat (i:=3) nd (yak rfl C (zau Z) (hr.mono (show 4 <= 5 + (d + 1) by lia)) (yab 0) (zaa (yab 1) yac)))
  (zab (r_if (yaC (o_eq rfl hu) (r_ix rfl hu (yab 3) yad) yaj (yaz _)) (yae (yap (yab 2))) yax)
  (yae (yap (yak rfl C (zag Z) (hr.mono (show 5 <= 5 + (d + 1) by lia)) (yab 0) (zaa (r_ix rfl hu (yab 3) yad) (zaa (yaq rfl C (zcX d) (hr.mono (by lia)) rfl (zaa (yab 0) (zaa (r_ix rfl hu (yab 3) yad) (zaa (yab 2) yac)))) yac)))))))
theorem zap : GM P w (mkT K cls exc) mg base 5 0 "height" yaQ:=gm Z.d_Shelf_height zdB (show ("height" : Str) ∉ flds 0 by decide +kernel) λhr C hu nd =>
 (zab (yao (yak rfl C (zaJ Z) hr.m (yab 0) (zaa (yab 1) yac)))
  (yae (yap (r_ix rfl hu (yau rfl Z.cf_Shelf (yab 0)) (yab 1)))))
theorem zcb : GF P w (mkT K cls exc) mg base 6 "turned_left" yaS:=gf Z.d_turned_left zd2 λhr C hu nd =>
 (zab (r_if (yaC o_lt (yam ydO (yak rfl C (zap Z) hr.m (yab 0) (zaa (yab 2) yac)) (yak rfl C (zap Z) hr.m (yab 0) (zaa (yab 1) yac))) yad (yaz _)) (yae (yap (yak rfl C (zag Z) hr.m (yab 0) (zaa (yab 1) (zaa (yab 2) yac))))) yax)
  (zab (yat (i:=3) nd (yak rfl C (zau Z) hr.m (yab 0) (zaa (yab 2) yac)))
  (zab (yat (i:=4) nd (r_ix rfl hu (yab 3) yad))
  (zab (yat (i:=5) nd (r_ix rfl hu (yab 3) yad))
  (zab (r_if (yaC o_le (yak rfl C (zap Z) hr.m (yab 0) (zaa (yab 4) yac)) (yak rfl C (zap Z) hr.m (yab 0) (zaa (yab 5) yac)) (yaz _)) (yae (yap (yak rfl C (zag Z) hr.m (yab 0) (zaa (yak rfl C (zag Z) hr.m (yab 0) (zaa (yab 1) (zaa (yab 4) yac))) (zaa (yab 5) yac))))) yax)
  (zab (yat (i:=6) nd (yak rfl C (zau Z) hr.m (yab 0) (zaa (yab 4) yac)))
  (yae (yap (yak rfl C (zag Z) hr.m (yab 0) (zaa (yak rfl C (zag Z) hr.m (yab 0) (zaa (yab 1) (zaa (r_ix rfl hu (yab 6) yad) yac))) (zaa (yak rfl C (zag Z) hr.m (yab 0) (zaa (r_ix rfl hu (yab 6) yad) (zaa (yab 5) yac))) yac)))))))))))
theorem zbA : ∀ d,GF P w (mkT K cls exc) mg base (6 + d + 1) "without_first" (yaD d)
 | 0=>gf Z.d_without_first zbt λ_ _ _ _=>yb9
 | d + 1=>gf Z.d_without_first zbt λhr C hu nd =>
  (zab (yat (i:=2) nd (yak rfl C (zau Z) (hr.mono (show 4 <= 6 + (d + 1) by lia)) (yab 0) (zaa (yab 1) yac)))
  (zab (r_if (yaC (o_eq rfl hu) (r_ix rfl hu (yab 2) yad) yaj (yaz _)) (yae (yap yad)) yax)
  (zab (yat (i:=3) nd (yaq rfl C (zbA d) (hr.mono (by lia)) rfl (zaa (yab 0) (zaa (r_ix rfl hu (yab 2) yad) yac))))
  (zab (r_if (yaC (o_eq rfl hu) (yab 3) yad (yaz _)) (yae (yap (r_ix rfl hu (yab 2) yad))) yax)
  (yae (yap (yaq rfl C (zcb Z) (hr.mono (show 6 <= 6 + (d + 1) by lia)) rfl (zaa (yab 0) (zaa (yab 3) (zaa (r_ix rfl hu (yab 2) yad) yac))))))))))
theorem zd7 : GF P w (mkT K cls exc) mg base 6 "turned_right" ya3:=gf Z.d_turned_right zdC λhr C hu nd =>
 (zab (r_if (yaC o_lt (yam ydO (yak rfl C (zap Z) hr.m (yab 0) (zaa (yab 1) yac)) (yak rfl C (zap Z) hr.m (yab 0) (zaa (yab 2) yac))) yad (yaz _)) (yae (yap (yak rfl C (zag Z) hr.m (yab 0) (zaa (yab 1) (zaa (yab 2) yac))))) yax)
  (zab (yat (i:=3) nd (yak rfl C (zau Z) hr.m (yab 0) (zaa (yab 1) yac)))
  (zab (yat (i:=4) nd (r_ix rfl hu (yab 3) yad))
  (zab (yat (i:=5) nd (r_ix rfl hu (yab 3) yad))
  (zab (r_if (yaC o_le (yak rfl C (zap Z) hr.m (yab 0) (zaa (yab 5) yac)) (yak rfl C (zap Z) hr.m (yab 0) (zaa (yab 4) yac)) (yaz _)) (yae (yap (yak rfl C (zag Z) hr.m (yab 0) (zaa (yab 4) (zaa (yak rfl C (zag Z) hr.m (yab 0) (zaa (yab 5) (zaa (yab 2) yac))) yac))))) yax)
  (zab (yat (i:=6) nd (yak rfl C (zau Z) hr.m (yab 0) (zaa (yab 5) yac)))
  (yae (yap (yak rfl C (zag Z) hr.m (yab 0) (zaa (yak rfl C (zag Z) hr.m (yab 0) (zaa (yab 4) (zaa (r_ix rfl hu (yab 6) yad) yac))) (zaa (yak rfl C (zag Z) hr.m (yab 0) (zaa (r_ix rfl hu (yab 6) yad) (zaa (yab 2) yac))) yac)))))))))))
theorem zca : ∀ d,GF P w (mkT K cls exc) mg base (6 + d + 1) "linked" (ybb d)
 | 0=>gf Z.d_linked zez λ_ _ _ _=>yb9
 | d + 1=>gf Z.d_linked zez λhr C hu nd =>
  (zab (yat (i:=3) nd (yam ydO (yak rfl C (zap Z) (hr.mono (show 5 <= 6 + (d + 1) by lia)) (yab 0) (zaa (yab 1) yac)) (yak rfl C (zap Z) (hr.mono (show 5 <= 6 + (d + 1) by lia)) (yab 0) (zaa (yab 2) yac))))
  (zab (r_if (yaC o_gt (yab 3) yad (yaz _)) (zab (yat (i:=4) nd (yak rfl C (zau Z) (hr.mono (show 4 <= 6 + (d + 1) by lia)) (yab 0) (zaa (yab 1) yac)))
  (yae (yap (yaq rfl C (zcb Z) (hr.mono (show 6 <= 6 + (d + 1) by lia)) rfl (zaa (yab 0) (zaa (r_ix rfl hu (yab 4) yad) (zaa (yaq rfl C (zca d) (hr.mono (by lia)) rfl (zaa (yab 0) (zaa (r_ix rfl hu (yab 4) yad) (zaa (yab 2) yac)))) yac))))))) yax)
  (zab (r_if (yaC o_lt (yab 3) (ycN yad) (yaz _)) (zab (yat (i:=4) nd (yak rfl C (zau Z) (hr.mono (show 4 <= 6 + (d + 1) by lia)) (yab 0) (zaa (yab 2) yac)))
  (yae (yap (yaq rfl C (zd7 Z) (hr.mono (show 6 <= 6 + (d + 1) by lia)) rfl (zaa (yab 0) (zaa (yaq rfl C (zca d) (hr.mono (by lia)) rfl (zaa (yab 0) (zaa (yab 1) (zaa (r_ix rfl hu (yab 4) yad) yac)))) (zaa (r_ix rfl hu (yab 4) yad) yac))))))) yax)
  (yae (yap (yak rfl C (zag Z) (hr.mono (show 5 <= 6 + (d + 1) by lia)) (yab 0) (zaa (yab 1) (zaa (yab 2) yac))))))))
theorem zi7 : GF P w (mkT K cls exc) mg base 98 "welded" ycq:=gf Z.d_welded zh2 λhr C hu nd =>
 (zab (yat (i:=3) nd (yam (yaK rfl) (r_ix rfl hu (yak rfl C (zau Z) hr.m (yab 0) (zaa (yak rfl C (zbk Z) hr.m (yab 0) (zaa (yab 1) yac)) yac)) yad) (r_ix rfl hu (yak rfl C (zau Z) hr.m (yab 0) (zaa (yak rfl C (zbh Z) hr.m (yab 0) (zaa (yab 2) yac)) yac)) yad)))
  (zab (yat (i:=4) nd (yaq rfl C (zcX Z 90) hr.m rfl (zaa (yab 0) (zaa (yab 1) (zaa (yak rfl C (zcz Z) hr.m (yab 0) (zaa (yab 3) yac)) yac)))))
  (zab (yat (i:=5) nd (yaq rfl C (zbA Z 90) hr.m rfl (zaa (yab 0) (zaa (yab 2) yac))))
  (zab (r_if (yaC (o_eq rfl hu) (yab 5) yad (yaz _)) (yae (yap (yab 4))) yax)
  (yae (yap (yaq rfl C (zca Z 90) hr.m rfl (zaa (yab 0) (zaa (yab 4) (zaa (yab 5) yac))))))))))
theorem zdk : GF P w (mkT K cls exc) mg base 99 "joined" yaF:=gf Z.d_joined zh3 λhr C hu nd =>
 (zab (yao (yaq rfl C (zba Z) hr.m rfl (zaa (yam (yaK rfl) (yak rfl C (zao Z) hr.m (yab 0) (zaa (yab 1) yac)) (yak rfl C (zao Z) hr.m (yab 0) (zaa (yab 2) yac))) yac)))
  (zab (r_if (yaC (o_eq rfl hu) (yab 1) yad (yaz _)) (yae (yap (yab 2))) yax)
  (zab (r_if (yaC (o_eq rfl hu) (yab 2) yad (yaz _)) (yae (yap (yab 1))) yax)
  (zab (r_if (zaz rfl (yaq rfl C (zfW Z) hr.m rfl (zaa (yab 0) (zaa (yab 1) (zaa (yab 2) yac))))) (yae (yap (yaq rfl C (zca Z 90) hr.m rfl (zaa (yab 0) (zaa (yab 1) (zaa (yab 2) yac)))))) yax)
  (yae (yap (yaq rfl C (zi7 Z) hr.m rfl (zaa (yab 0) (zaa (yab 1) (zaa (yab 2) yac))))))))))
theorem zeB : ∀ d,GF P w (mkT K cls exc) mg base (99 + d + 1) "doubled" (yaY d)
 | 0=>gf Z.d_doubled zdD λ_ _ _ _=>yb9
 | d + 1=>gf Z.d_doubled zdD λhr C hu nd =>
  (zab (r_if (yaC (o_eq rfl hu) (yab 2) yad (yaz _)) (yae (yap yad)) yax)
  (zab (yat (i:=3) nd (yaq rfl C (zeB d) (hr.mono (by lia)) rfl (zaa (yab 0) (zaa (yab 1) (zaa (yam yfs (yab 2) yad) yac)))))
  (zab (yat (i:=4) nd (yaq rfl C (zdk Z) (hr.mono (show 99 <= 99 + (d + 1) by lia)) rfl (zaa (yab 0) (zaa (yab 3) (zaa (yab 3) yac)))))
  (zab (r_if (yaC (o_eq rfl hu) (yam ydm (yab 2) yad) yad (yaz _)) (yae (yap (yab 4))) yax)
  (yae (yap (yaq rfl C (zdk Z) (hr.mono (show 99 <= 99 + (d + 1) by lia)) rfl (zaa (yab 0) (zaa (yab 4) (zaa (yab 1) yac))))))))))
theorem zg9 : GF P w (mkT K cls exc) mg base 165 "repeated" ybd:=gf Z.d_repeated zfS λhr C hu nd =>
 (zab (yat (i:=3) nd (yak rfl C (zao Z) hr.m (yab 0) (zaa (yab 1) yac)))
  (zab (r_if (yaC o_lt (yab 2) yad (yaz _)) (yae (zaR Z.x_NoPlace zaQ rfl (zaa yaj yac))) yax)
  (zab (yao (yaq rfl C (zba Z) hr.m rfl (zaa (yam ycM (yab 3) (yab 2)) yac)))
  (zab (r_if (yaC (o_eq rfl hu) (yab 1) yad (yaz _)) (yae (yap yad)) yax)
  (yae (yap (yaq rfl C (zeB Z 64) hr.m rfl (zaa (yab 0) (zaa (yab 1) (zaa (yab 2) yac))))))))))
theorem zak : GM P w (mkT K cls exc) mg base 2 1 "text" yai:=gm Z.d_House_text zeL (show ("text" : Str) ∉ flds 1 by decide +kernel) λhr C hu nd =>
 (zab (r_if (rt_w (ygg (ybW (zaz rfl (yaq rfl C (zeA Z) hr.m rfl (zaa (yab 1) yac)))) (yfN (yaC (zdU rfl hu) (yab 1) (yau rfl Z.cf_House (yab 0)) rfl)))) (yae (zaR Z.x_NoName zaQ rfl (zaa yaj yac))) yax)
  (yae (yap (r_ix rfl hu (yau rfl Z.cf_House (yab 0)) (yab 1)))))
theorem zbR : GM P w (mkT K cls exc) mg base 166 1 "repeat" yaR:=gm Z.d_House_repeat zdE (show ("repeat" : Str) ∉ flds 1 by decide +kernel) λhr C hu nd =>
 (yae (yao (yak rfl C (zaP Z) hr.m (yab 0) (zaa (yab 1) (zaa (yaq rfl C (zg9 Z) hr.m rfl (zaa (yau rfl Z.cf_House (yab 0)) (zaa (yak rfl C (zak Z) hr.m (yab 0) (zaa (yab 1) yac)) (zaa (yab 2) yac)))) yac)))))
theorem zbB : GM P w (mkT K cls exc) mg base 100 1 "join_to" yaL:=gm Z.d_House_join_to zdd (show ("join_to" : Str) ∉ flds 1 by decide +kernel) λhr C hu nd =>
 (yae (yao (yak rfl C (zaP Z) hr.m (yab 0) (zaa (yab 1) (zaa (yaq rfl C (zdk Z) hr.m rfl (zaa (yau rfl Z.cf_House (yab 0)) (zaa (yak rfl C (zak Z) hr.m (yab 0) (zaa (yab 1) yac)) (zaa (yak rfl C (zak Z) hr.m (yab 0) (zaa (yab 2) yac)) yac)))) yac)))))
theorem zfz : GM P w (mkT K cls exc) mg base 2 1 "back" ycS:=gm Z.d_House_back zeM (show ("back" : Str) ∉ flds 1 by decide +kernel) λhr C hu nd =>
 (zab (r_if (yaC (o_eq rfl hu) (yau rfl Z.cf_House (yab 0)) (ybc yac) (yaz _)) yb9 yax)
  (zab (yat (i:=1) nd (yfu rfl PySem.F.plainAttrs_list PySem.F.slot_list_pop PySem.F.type_list_pop (ygj) zav (yau rfl Z.cf_House (yab 0))))
  (zab (yao (r_bm rfl PySem.F.plainAttrs_list PySem.F.slot_list_append PySem.F.type_list_append (zaw) zav (yau rfl Z.cf_House (yab 0)) (zaa (yab 1) yac)))
  (yae (yao (yak rfl C (zaZ Z) hr.m (yab 0) (zaa (r_ix rfl hu (yab 1) yad) (zaa (r_ix rfl hu (yab 1) yad) yac))))))))
theorem zeP : GM P w (mkT K cls exc) mg base 2 1 "again" ycg:=gm Z.d_House_again zd3 (show ("again" : Str) ∉ flds 1 by decide +kernel) λhr C hu nd =>
 (zab (r_if (yaC (o_eq rfl hu) (yau rfl Z.cf_House (yab 0)) (ybc yac) (yaz _)) yb9 yax)
  (zab (yat (i:=1) nd (yfu rfl PySem.F.plainAttrs_list PySem.F.slot_list_pop PySem.F.type_list_pop (ygj) zav (yau rfl Z.cf_House (yab 0))))
  (zab (yao (r_bm rfl PySem.F.plainAttrs_list PySem.F.slot_list_append PySem.F.type_list_append (zaw) zav (yau rfl Z.cf_House (yab 0)) (zaa (yab 1) yac)))
  (yae (yao (yak rfl C (zaZ Z) hr.m (yab 0) (zaa (r_ix rfl hu (yab 1) yad) (zaa (r_ix rfl hu (yab 1) yad) yac))))))))
theorem zfA : GM P w (mkT K cls exc) mg base 1 0 "many" ycT:=gm Z.d_Shelf_many zeN (show ("many" : Str) ∉ flds 0 by decide +kernel) λhr C hu nd =>
 (yae (yap (r_bi (b_len rfl) rfl Z.b_len PySem.boot_len (zaa (yau rfl Z.cf_Shelf (yab 0)) yac))))
theorem zeQ : GM P w (mkT K cls exc) mg base 1 1 "names" ybx:=gm Z.d_House_names zd4 (show ("names" : Str) ∉ flds 1 by decide +kernel) λhr C hu nd =>
 (yae (yap (r_bi (zjW rfl) rfl Z.b_sorted zh1 (zaa (yau rfl Z.cf_House (yab 0)) yac))))
theorem zbj : GM P w (mkT K cls exc) mg base 1 1 "shelf" ya2:=gm Z.d_House_shelf zd5 (show ("shelf" : Str) ∉ flds 1 by decide +kernel) λhr C hu nd =>
 (yae (yap (yau rfl Z.cf_House (yab 0))))
theorem zdH : GF P w (mkT K cls exc) mg base 3 "_law_seen" yce:=gf Z.d_law_seen zfT λ{f cdv A outer s H E} hr C hu nd =>
 (yae (yap (yaI (zaa (yer (jf:=[(0, "house")]) (zaN (N:=["house"]) (sc:=yag ydt) rfl (λ_=>rfl) (by decide +kernel)) rfl (ycP (E:=(λ_=>E)) rfl (za6 rfl C (zeQ Z) hr.m (yab 0))) (λ_ _ _ _ _=>za0) (λ_ _ _ _ _=>(yaI (zaa (yab 0) (zaa (yak rfl (CA.never rfl) (zak Z) hr.m (yab 1) (zaa (yab 0) yac)) yac))))) (zaa (za6 rfl C (zfA Z) hr.m (za6 rfl C (zbj Z) hr.m (yab 0))) yac)))))
theorem zdI : GM P w (mkT K cls exc) mg base 3 1 "copy_of" ybo:=gm Z.d_House_copy_of zde (show ("copy_of" : Str) ∉ flds 1 by decide +kernel) λhr C hu nd =>
 (zab (yao (yaq rfl C (zcx Z) hr.m rfl (zaa (yab 1) yac)))
  (yae (yao (yak rfl C (zaP Z) hr.m (yab 0) (zaa (yab 1) (zaa (yak rfl C (zak Z) hr.m (yab 0) (zaa (yab 2) yac)) yac))))))
theorem zfX : GF P w (mkT K cls exc) mg base 6 "check_gap" ybA:=gf Z.d_check_gap zft λhr C hu nd =>
 (zab (yat (i:=3) nd (yak rfl C (zao Z) hr.m (yab 0) (zaa (yab 1) yac)))
  (yae (r_if (ybW (ziL o_le o_le yad (yab 2) (yab 3))) (yae (zaR Z.x_NoPlace zaQ rfl (zaa yaj yac))) yax)))
theorem zi8 : GF P w (mkT K cls exc) mg base 7 "put_in" yb2:=gf Z.d_put_in zh4 λhr C hu nd =>
 (zab (yat (i:=4) nd (yam (yaK rfl) (yak rfl C (zao Z) hr.m (yab 0) (zaa (yab 1) yac)) (yak rfl C (zao Z) hr.m (yab 0) (zaa (yab 3) yac))))
  (zab (yao (yaq rfl C (zfX Z) hr.m rfl (zaa (yab 0) (zaa (yab 1) (zaa (yab 2) yac)))))
  (zab (yao (yaq rfl C (zba Z) hr.m rfl (zaa (yab 4) yac)))
  yb9)))
theorem zdl : GM P w (mkT K cls exc) mg base 8 1 "put_into" yaM:=gm Z.d_House_put_into zcM (show ("put_into" : Str) ∉ flds 1 by decide +kernel) λhr C hu nd =>
 (yae (yao (yak rfl C (zaP Z) hr.m (yab 0) (zaa (yab 1) (zaa (yaq rfl C (zi8 Z) hr.m rfl (zaa (yau rfl Z.cf_House (yab 0)) (zaa (yak rfl C (zak Z) hr.m (yab 0) (zaa (yab 1) yac)) (zaa (yab 2) (zaa (yak rfl C (zak Z) hr.m (yab 0) (zaa (yab 3) yac)) yac))))) yac)))))
theorem zdJ : GF P w (mkT K cls exc) mg base 6 "check_stretch" ybv:=gf Z.d_check_stretch zdf λhr C hu nd =>
 (zab (yat (i:=4) nd (yak rfl C (zao Z) hr.m (yab 0) (zaa (yab 1) yac)))
  (yae (r_if (ybW (zhM o_le o_le o_le yad (yab 2) (yab 3) (yab 4))) (yae (zaR Z.x_NoPlace zaQ rfl (zaa yaj yac))) yax)))
theorem zfY : GF P w (mkT K cls exc) mg base 7 "taken_out" yci:=gf Z.d_taken_out zfu λhr C hu nd =>
 (zab (yao (yaq rfl C (zdJ Z) hr.m rfl (zaa (yab 0) (zaa (yab 1) (zaa (yab 2) (zaa (yab 3) yac))))))
  yb9)
theorem zcP : GM P w (mkT K cls exc) mg base 8 1 "take_from" ya9:=gm Z.d_House_take_from zcw (show ("take_from" : Str) ∉ flds 1 by decide +kernel) λhr C hu nd =>
 (yae (yao (yak rfl C (zaP Z) hr.m (yab 0) (zaa (yab 1) (zaa (yaq rfl C (zfY Z) hr.m rfl (zaa (yau rfl Z.cf_House (yab 0)) (zaa (yak rfl C (zak Z) hr.m (yab 0) (zaa (yab 1) yac)) (zaa (yab 2) (zaa (yab 3) yac))))) yac)))))
theorem zfB : GM P w (mkT K cls exc) mg base 3 1 "drop" ycb:=gm Z.d_House_drop zeO (show ("drop" : Str) ∉ flds 1 by decide +kernel) λhr C hu nd =>
 (zab (yao (yak rfl C (zak Z) hr.m (yab 0) (zaa (yab 1) yac)))
  (yae (yao (yak rfl C (zaP Z) hr.m (yab 0) (zaa (yab 1) (zaa yeO yac))))))
theorem zeR : GF P w (mkT K cls exc) mg base 167 "_law_refused" yar:=gf Z.d_law_refused zd6 λhr C hu nd =>
 (zab (yat (i:=2) nd (ybc yac))
  (zab (yhp (i:=3) rfl nd rfl Z.ct_SkeinError (λ_ _ Ex2 C2 R2=>(yae (r_if (yaC (o_eq rfl hu) (r_ix rfl hu (yab 1) yad) yaj (yaz _)) (yae (yao (yak rfl C2 (za4 Z) hr.m (yab 0) (zaa (r_ix rfl hu (yab 1) yad) (zaa (r_ix rfl hu (yab 1) yad) yac))))) (yae (r_if (yaC (o_eq rfl hu) (r_ix rfl hu (yab 1) yad) yaj (yaz _)) (yae (yao (yak rfl C2 (zdI Z) hr.m (yab 0) (zaa (r_ix rfl hu (yab 1) yad) (zaa (r_ix rfl hu (yab 1) yad) yac))))) (yae (r_if (yaC (o_eq rfl hu) (r_ix rfl hu (yab 1) yad) yaj (yaz _)) (yae (yao (yak rfl C2 (zbB Z) hr.m (yab 0) (zaa (r_ix rfl hu (yab 1) yad) (zaa (r_ix rfl hu (yab 1) yad) yac))))) (yae (r_if (yaC (o_eq rfl hu) (r_ix rfl hu (yab 1) yad) yaj (yaz _)) (yae (yao (yak rfl C2 (zdl Z) hr.m (yab 0) (zaa (r_ix rfl hu (yab 1) yad) (zaa (r_ix rfl hu (yab 1) yad) (zaa (r_ix rfl hu (yab 1) yad) yac)))))) (yae (r_if (yaC (o_eq rfl hu) (r_ix rfl hu (yab 1) yad) yaj (yaz _)) (yae (yao (yak rfl C2 (zcP Z) hr.m (yab 0) (zaa (r_ix rfl hu (yab 1) yad) (zaa (r_ix rfl hu (yab 1) yad) (zaa (r_ix rfl hu (yab 1) yad) yac)))))) (yae (r_if (yaC (o_eq rfl hu) (r_ix rfl hu (yab 1) yad) yaj (yaz _)) (yae (yao (yak rfl C2 (zbR Z) hr.m (yab 0) (zaa (r_ix rfl hu (yab 1) yad) (zaa (r_ix rfl hu (yab 1) yad) yac))))) (yae (r_if (yaC (o_eq rfl hu) (r_ix rfl hu (yab 1) yad) yaj (yaz _)) (yae (yao (yak rfl C2 (zfB Z) hr.m (yab 0) (zaa (r_ix rfl hu (yab 1) yad) yac)))) (yae (yao (yak rfl C2 (zak Z) hr.m (yab 0) (zaa (r_ix rfl hu (yab 1) yad) yac))))))))))))))))))) (λ_ C3=>(zab (yat (i:=2) nd (ybc (zaa (yeT rfl rfl Z.b_isinstance (yab 3) rfl Z.kx_NoName) (zaa (yeT rfl rfl Z.b_isinstance (yab 3) rfl Z.kx_NoText) (zaa (yeT rfl rfl Z.b_isinstance (yab 3) rfl Z.kx_NoPlace) (zaa (yeT rfl rfl Z.b_isinstance (yab 3) rfl Z.kx_TooLong) yac))))))
  (yae (yat (i:=2) nd (yam (yaK rfl) (yab 2) (ybc (zaa (yeT rfl rfl Z.b_isinstance (yab 3) rfl Z.kx_NothingDone) (zaa (yho rfl rfl Z.b_isinstance (yab 3) rfl Z.b_ValueError yiy Z.kx_ValueError) yac)))))))))
  (yae (yap (yab 2)))))
theorem zbi : GF P w (mkT K cls exc) mg base 168 "_law_all" yaZ:=gf Z.d_law_all zg6 λhr C hu nd =>
 (zab (yat (i:=3) nd (yaq rfl C (zdH Z) hr.m rfl (zaa (yab 0) yac)))
  (zab (yee rfl (ycP (E:=EN) rfl (yab 1)) (za5 (i:=4) nd) (zab (r_if (yaC (o_ne rfl hu) (yaq rfl (C.nox) (zeR Z) hr.m rfl (zaa (yab 0) (zaa (yab 4) yac))) (yer (jf:=[(2, "kind")]) (zaN (N:=["house", "deeds", "kind", "seen", "deed"]) (sc:=yag ydU) rfl (λ_=>rfl) (by decide +kernel)) rfl (zbw (E:=EN) rfl Z.b_range yad) (λ_ _ _ _ _=>za0) (λ_ _ _ _ _=>(r_or (yez (o_eq rfl hu) (yab 0) (yab 1) (yaz _)) (yed (yez (o_eq rfl hu) (yab 0) yad (yaz _)))))) (yaz _)) (yae (yap r_bl)) yax)
  (yae (r_if (yaC (o_ne rfl hu) (yaq rfl (C.nox) (zdH Z) hr.m rfl (zaa (yab 0) yac)) (yab 3) (yaz _)) (yae (yap r_bl)) yax))))
  (yae (yap r_bl))))
theorem zbo : GF P w (mkT K cls exc) mg base 1 "_law_take" ya1:=gf Z.d_law_take zfU λhr C hu nd =>
 (zab (yat (i:=2) nd (yam ydm (r_ix rfl hu (yab 0) yad) (yab 1)))
  (zab (zdT hu (yab 0) yad (yam yfs (r_ix rfl hu (yab 0) yad) (yab 1)))
  (yae (yap (yab 2)))))
theorem zfZ : GF P w (mkT K cls exc) mg base 2 "_law_plain" yb4:=gf Z.d_law_plain zfv λhr C hu nd =>
 (zab (yat (i:=2) nd (r_ix rfl hu (ybc (zaa yaj (zaa yaj (zaa yaj (zaa yaj (zaa yaj yac)))))) (yaq rfl C (zbo Z) hr.m rfl (zaa (yab 0) (zaa yad yac)))))
  (zab (yat (i:=3) nd yaj)
  (zab (yee rfl (zbw (E:=EN) rfl Z.b_range (yaq rfl (C.nox) (zbo Z) hr.m rfl (zaa (yab 0) (zaa (yam (yaK rfl) (yab 1) yad) yac)))) (za5 (i:=4) nd) (yae (yat (i:=3) nd (yam (yaK rfl) (yab 3) (r_ix rfl hu (yab 2) (yaq rfl (C.nox) (zbo Z) hr.m rfl (zaa (yab 0) (zaa (r_bi (b_len rfl) rfl Z.b_len PySem.boot_len (zaa (yab 2) yac)) yac))))))))
  (yae (yap (yab 3))))))
theorem zdK : GF P w (mkT K cls exc) mg base 1 "_law_names_due" ybw:=gf Z.d_law_names_due zdg λhr C hu nd =>
 (zab (yat (i:=1) nd (ybc yac))
  (zab (yee rfl (ycP (E:=EN) rfl (ybc (zaa yaj (zaa yaj (zaa yaj (zaa yaj (zaa yaj (zaa yaj (zaa yaj yac))))))))) (za5 (i:=2) nd) (zab (yat (i:=1) nd (yam (yaK rfl) (yab 1) (ybc (zaa (yaI (zaa yaj (zaa (yab 2) yac))) (zaa (yaI (zaa yaj (zaa (yab 2) yac))) (zaa (yaI (zaa yaj (zaa (yab 2) (zaa (yab 0) yac)))) (zaa (yaI (zaa yaj (zaa (yab 0) (zaa (yab 2) yac)))) yac)))))))
  (zab (yat (i:=1) nd (yam (yaK rfl) (yab 1) (ybc (zaa (yaI (zaa yaj (zaa (yab 2) (zaa (ycN yad) (zaa (yab 0) yac))))) (zaa (yaI (zaa yaj (zaa (yab 0) (zaa (ycN yad) (zaa (yab 2) yac))))) (zaa (yaI (zaa yaj (zaa (yab 2) (zaa yad (zaa yad yac))))) yac))))))
  (yae (yat (i:=1) nd (yam (yaK rfl) (yab 1) (ybc (zaa (yaI (zaa yaj (zaa (yab 2) (zaa (ycN yad) yac)))) (zaa (yaI (zaa yaj (zaa yaj (zaa (yab 2) yac)))) (zaa (yaI (zaa yaj (zaa (yab 2) (zaa yad (zaa (yab 2) yac))))) yac))))))))))
  (@zab _ _ _ _ _ _ _ (@yee _ _ _ _ _ _ _ _ _ _ rfl (@ycP _ EN _ _ _ _ _ rfl (@ybc _ _ _ _ _ _ (@zaf _ _ _ _ _ _ _ yaj (@zaf _ _ _ _ _ _ _ yaj (@zaf _ _ _ _ _ _ _ yaj (@zaf _ _ _ _ _ _ _ yaj (@zaf _ _ _ _ _ _ _ yeO (@zaf _ _ _ _ _ _ _ yad (@zaf _ _ _ _ _ _ _ yad (@zaf _ _ _ _ _ _ _ r_bl (@zaf _ _ _ _ _ _ _ (ybc (zaa yaj yac)) (@zaf _ _ _ _ _ _ _ (yaI (zaa yaj yac)) (@zaf _ _ _ _ _ _ _ zdO (@zaf _ _ _ _ _ _ _ yaj yac rfl) rfl) rfl) rfl) rfl) rfl) rfl) rfl) rfl) rfl) rfl) rfl))) (za5 (i:=2) nd) (zab (yat (i:=1) nd (yam (yaK rfl) (yab 1) (ybc (zaa (yaI (zaa yaj (zaa (yab 2) (zaa yaj yac)))) (zaa (yaI (zaa yaj (zaa (yab 2) (zaa yeO yac)))) (zaa (yaI (zaa yaj (zaa (yab 2) (zaa (yab 0) yac)))) (zaa (yaI (zaa yaj (zaa (yab 2) (zaa yaj yac)))) yac)))))))
  (yae (yat (i:=1) nd (yam (yaK rfl) (yab 1) (ybc (zaa (yaI (zaa yaj (zaa (yab 2) (zaa (yam yd4 yaj yad) yac)))) yac)))))) (λ_=>rfl))
  (yae (yap (yab 1))))))
theorem zdm : GF P w (mkT K cls exc) mg base 1 "_law_places_due" ybh:=gf Z.d_law_places_due zcN λhr C hu nd =>
 (zab (yat (i:=4) nd (ybc yac))
  (zab (yee rfl (ycP (E:=EN) rfl (ybc (zaa (ycN yad) (zaa (yam (yaK rfl) (yab 2) yad) (zaa (yam (yaK rfl) (yam (yaK rfl) (yab 2) yad) (yab 3)) (zaa (yam ydO (ycN yad) (yab 3)) yac)))))) (za5 (i:=5) nd) (zab (yat (i:=4) nd (yam (yaK rfl) (yab 4) (ybc (zaa (yaI (zaa yaj (zaa (yab 0) (zaa (yab 5) (zaa (yab 1) yac))))) (zaa (yaI (zaa yaj (zaa (yab 0) (zaa (yab 5) (zaa (yab 2) yac))))) yac)))))
  (yae (yat (i:=4) nd (yam (yaK rfl) (yab 4) (ybc (zaa (yaI (zaa yaj (zaa (yab 0) (zaa yad (zaa (yab 5) yac))))) (zaa (yaI (zaa yaj (zaa (yab 0) (zaa (yab 5) (zaa yaj yac))))) (zaa (yaI (zaa yaj (zaa (yab 0) (zaa (yab 5) (zaa (yab 5) yac))))) yac)))))))))
  (zab (r_if (yaC o_gt (yab 2) yad (yaz _)) (yae (yat (i:=4) nd (yam (yaK rfl) (yab 4) (ybc (zaa (yaI (zaa yaj (zaa (yab 0) (zaa (yab 2) (zaa (yam ydO (yab 2) yad) yac))))) (zaa (yaI (zaa yaj (zaa (yab 0) (zaa yad (zaa yad yac))))) yac)))))) yax)
  (yae (yap (yam (yaK rfl) (yab 4) (ybc (zaa (yaI (zaa yaj (zaa (yab 0) (zaa (ycN yad) yac)))) (zaa (yaI (zaa yaj (zaa (yab 0) (zaa (yam ydO (ycN yad) (yab 3)) yac)))) (zaa (yaI (zaa yaj (zaa yaj (zaa (ycN yad) yac)))) yac))))))))))
theorem yiN {f : Addr} {fd : FuncData} (h4 : Fun K "law" "law" yeC f fd) : FnOk P w K mg base (CXE P w) 169 f fd ["script"] (spA (mkT K cls exc) yfx):=gl (T:=mkT K cls exc) h4 yhU λ{cdv A outer s H E} hr C hu nd =>
 (zab (yat (i:=1) nd (yaq rfl C (zfw Z) hr.m rfl (zaa (yab 0) (zaa yad yac))))
  (zab (yat (i:=2) nd (zgi rfl C (zfy Z) hr.m rfl))
  (zab (zdP (jf:=[(1, "stream")]) (zaN (N:=["script", "stream", "house", "plains", "names", "name", "plain", "far", "texts", "long"]) (sc:=yag yeC) rfl (λ_=>rfl) (by decide +kernel)) rfl (zbw (E:=(λ_=>E)) rfl Z.b_range (yam (yaK rfl) yad (yaq rfl C (zbo Z) hr.m rfl (zaa (yab 1) (zaa yad yac))))) (λ_ _ _ _ _=>za0) (λ_ _ _ _ _=>(yam (yaK rfl) yaj (yaq rfl (CA.never rfl) (zfZ Z) hr.m rfl (zaa (yab 1) (zaa yad yac))))) nd (i:=3))
  (zab (yat (i:=4) nd (zbK rfl (ybc (zaa yaj (zaa yaj (zaa yaj yac)))) zcD (zbp (r_bi (b_len rfl) rfl Z.b_len PySem.boot_len (zaa (yab 3) yac)))))
  (zab (yhs rfl (zjV (E:=EN) rfl rfl Z.b_zip (yab 4) (yab 3)) (yhi rfl rfl (ze8 (i:=5) nd (ze8 (i:=6) nd zjM))) (yae (yao (yak rfl (C.nox) (za4 Z) hr.m (yab 2) (zaa (yab 5) (zaa (yab 6) yac))))))
  (zab (yao (yak rfl C (za4 Z) hr.m (yab 2) (zaa yaj (zaa yaj yac))))
  (zab (yao (yak rfl C (zbR Z) hr.m (yab 2) (zaa yaj (zaa (yam ydn yad yad) yac))))
  (zab (yao (yak rfl C (zbB Z) hr.m (yab 2) (zaa yaj (zaa yaj yac))))
  (zab (yao (za6 rfl C (zfz Z) hr.m (yab 2)))
  (zab (yat (i:=7) nd (yam ydm (r_bi (b_sum rfl) rfl Z.b_sum PyProof.Rows.boot_sum (zaa (yab 0) yac)) (yam ydn yad yad)))
  (zab (r_if (ybW (zaz rfl (yaq rfl C (zbi Z) hr.m rfl (zaa (yab 2) (zaa (yaq rfl C (zdK Z) hr.m rfl (zaa yaj yac)) (zaa yad yac)))))) (yae (yap r_bl)) yax)
  (@zab _ _ _ _ _ _ _ (@zdP _ _ _ _ _ _ _ _ _ _ [] _ _ _ _ _ _ 8 (zaN (N:=["script", "stream", "house", "plains", "names", "name", "plain", "far", "texts", "long"]) (sc:=yag yeC) rfl (λ_=>rfl) (by decide +kernel)) rfl (@ycP _ (λ_=>E) _ _ _ _ _ rfl (@ybc _ _ _ _ _ _ (@zaf _ _ _ _ _ _ _ yeO (@zaf _ _ _ _ _ _ _ yad (@zaf _ _ _ _ _ _ _ r_bl (@zaf _ _ _ _ _ _ _ (@ybc _ _ _ _ _ _ (@zaf _ _ _ _ _ _ _ yaj yac rfl)) (@zaf _ _ _ _ _ _ _ (@yaI _ _ _ _ _ _ _ (@zaf _ _ _ _ _ _ _ yaj yac rfl)) (@zaf _ _ _ _ _ _ _ (@zdO _ _ _ _) (@zaf _ _ _ _ _ _ _ yaj (@zaf _ _ _ _ _ _ _ yaj (@zaf _ _ _ _ _ _ _ (@yam _ _ _ _ _ _ _ _ _ _ yd4 yaj yad) yac rfl) rfl) rfl) rfl) rfl) rfl) rfl) rfl) rfl))) (λ_ _ _ _ _=>za0) (λ_ _ _ _ _=>(yaI (zaa yaj (zaa yaj (zaa (yab 0) yac))))) nd rfl rfl rfl (λ_=>rfl))
  (zab (r_if (ybW (zaz rfl (yaq rfl C (zbi Z) hr.m rfl (zaa (yab 2) (zaa (yam (yaK rfl) (yab 8) (ybc (zaa (yaI (zaa yaj (zaa yaj (zaa (yam (yaK rfl) (yam yd4 yaj yad) yaj) yac)))) yac))) (zaa yad yac)))))) (yae (yap r_bl)) yax)
  (zab (r_if (ybW (zaz rfl (yaq rfl C (zbi Z) hr.m rfl (zaa (yab 2) (zaa (yaq rfl C (zdm Z) hr.m rfl (zaa yaj (zaa (r_ix rfl hu (yab 4) (ycN yad)) (zaa (r_bi (b_len rfl) rfl Z.b_len PySem.boot_len (zaa (r_ix rfl hu (yab 3) yad) yac)) (zaa (yab 7) yac))))) (zaa yad yac)))))) (yae (yap r_bl)) yax)
  (zab (yat (i:=9) nd (ybc (zaa (yaI (zaa yaj (zaa yaj (zaa (yam yd4 yaj yad) yac)))) (zaa (yaI (zaa yaj (zaa yaj (zaa (yam yd4 yaj yad) yac)))) (zaa (yaI (zaa yaj (zaa yaj (zaa yaj yac)))) yac)))))
  (zab (yat (i:=9) nd (yam (yaK rfl) (yab 9) (ybc (zaa (yaI (zaa yaj (zaa yaj (zaa yaj yac)))) (zaa (yaI (zaa yaj (zaa yaj (zaa yad (zaa yaj yac))))) (zaa (yaI (zaa yaj (zaa yaj (zaa yad (zaa yaj yac))))) yac))))))
  (zab (yat (i:=9) nd (yam (yaK rfl) (yab 9) (ybc (zaa (yaI (zaa yaj (zaa yaj (zaa yad yac)))) yac))))
  (zab (yat (i:=9) nd (yam (yaK rfl) (yab 9) (ybc (zaa (yaI (zaa yaj (zaa yaj (zaa (yam ydn yad yad) yac)))) (zaa (yaI (zaa yaj (zaa yaj (zaa (yam (yaK rfl) yad (yab 7)) yac)))) yac)))))
  (zab (r_if (rt_w (ygg (rt_w (yhh (yaC (o_ne rfl hu) (r_ix rfl hu (yab 3) yad) yaj (yaz _)) (zjK (ybW (zaz rfl (yaq rfl C (zbi Z) hr.m rfl (zaa (yab 2) (zaa (yab 9) (zaa yad yac))))))))) (yfN (ybW (zaz rfl (yaq rfl C (zbi Z) hr.m rfl (zaa (yab 2) (zaa (zbK rfl (yab 9) zcD (zbp yad)) (zaa yad yac))))))))) (yae (yap r_bl)) yax)
  (zab (yao (za6 rfl C (zeP Z) hr.m (yab 2)))
  (zab (yao (yak rfl C (za4 Z) hr.m (yab 2) (zaa yaj (zaa (yam yd4 yaj yad) yac))))
  (zab (r_if (yaC (o_ne rfl hu) (yak rfl C (zao Z) hr.m (za6 rfl C (zbj Z) hr.m (yab 2)) (zaa (yak rfl C (zak Z) hr.m (yab 2) (zaa yaj yac)) yac)) yad (yaz _)) (yae (yap r_bl)) yax)
  (yae (yap (yeP (yez (o_ne rfl hu) (yak rfl C (zak Z) hr.m (yab 2) (zaa yaj yac)) yad (yaz _)) (yed (yez (o_eq rfl hu) (yak rfl C (zao Z) hr.m (za6 rfl C (zbj Z) hr.m (yab 2)) (zaa (yak rfl C (zak Z) hr.m (yab 2) (zaa yaj yac)) yac)) (yam ycM yad (r_bi (b_len rfl) rfl Z.b_len PySem.boot_len (zaa (r_ix rfl hu (yab 3) yad) yac))) (yaz _))))))))))))))))))))))))))))
end
abbrev FX (l : PySem.W.OpenLaw) (w : World) (K : PySem.W.Frag) (mg : Str -> Option Value) (fa : Addr) : Prop:=∃ fd : FuncData,(∀ (s : Shared) (v : Value),BindsTo s fd ⟨[v],[]⟩ [("script",v)]) /\ ∀ base : Heap,K.In base -> base.Ns mainGlobals mg -> FnOk l.prog w K mg base (CXE l.prog w) 169 fa fd ["script"] (spL K)
theorem all_mk {l : PySem.W.OpenLaw} {w : World} {K : PySem.W.Frag} {h : Heap} {mg : Str -> Option Value} {fa C0 C1 X0 X1 X2 X3 X4 X5 X6 X7 X8 : Addr} {tk_LEAF_SIGNS tk_NAME_SIGNS tk_MOST_PLAIN tk_MOST_SIGNS : Tok} (X : K.In h) (G : h.Ns mainGlobals mg) (hfa : mg "law" = some (.ref fa))
  (aC0 : NA K "Shelf" (some (.ref C0))) (aC1 : NA K "House" (some (.ref C1))) (a2 : DN K C0 "__init__" "Shelf.__init__" ydE) (a3 : DN K C1 "__init__" "House.__init__" ydF) (a6 : DN K C1 "set_text" "House.set_text" ycG) (a7 : DN K C1 "do" "House.do" yej) (a9 : DN K C0 "has_piece" "Shelf.has_piece" ycx) (a10 : DN K C0 "check_piece" "Shelf.check_piece" ycj) (a11 : DN K C0 "check_fork" "Shelf.check_fork" ycs) (a12 : DN K C0 "lay" "Shelf.lay" ydX) (a13 : DN K C0 "lay_fork" "Shelf.lay_fork" ycH) (a14 : DN K C0 "fork" "Shelf.fork" ydH) (a20 : DN K C0 "lay_leaf" "Shelf.lay_leaf" ycI) (a21 : DN K C0 "leaf" "Shelf.leaf" ydI) (a23 : DN K C1 "give" "House.give" ydJ) (a24 : DN K C0 "check_text" "Shelf.check_text" yct) (a25 : DN K C0 "signs" "Shelf.signs" ydf) (a27 : DN K C0 "last_leaf" "Shelf.last_leaf" ycy) (a28 : DN K C0 "first_leaf" "Shelf.first_leaf" ycu) (a30 : DN K C0 "piece" "Shelf.piece" ydg) (a32 : DN K C0 "height" "Shelf.height" yc7) (a41 : DN K C1 "text" "House.text" ydK) (a42 : DN K C1 "repeat" "House.repeat" yc9) (a43 : DN K C1 "join_to" "House.join_to" ycZ) (a44 : DN K C1 "back" "House.back" ydL) (a45 : DN K C1 "again" "House.again" ydi) (a46 : DN K C0 "many" "Shelf.many" ydM) (a47 : DN K C1 "names" "House.names" ydj) (a48 : DN K C1 "shelf" "House.shelf" ydk) (a50 : DN K C1 "copy_of" "House.copy_of" yc0) (a53 : DN K C1 "put_into" "House.put_into" ycJ) (a56 : DN K C1 "take_from" "House.take_from" ycz) (a57 : DN K C1 "drop" "House.drop" ydN) (a0 : DK K "_law_mixed" ydW) (a1 : DK K "_law_stream" ycW) (a4 : DK K "is_name" ydT) (a5 : DK K "check_name" ydG) (a8 : DK K "is_whole" yek) (a15 : DK K "halved" yeE) (a16 : DK K "is_plain_sign" ycX) (a17 : DK K "is_plain" yds) (a18 : DK K "is_short" yel) (a19 : DK K "ends_in" yev) (a22 : DK K "built" yeB) (a26 : DK K "check_length" yc6) (a29 : DK K "are_close" ydY) (a31 : DK K "with_last" ydZ) (a33 : DK K "turned_left" ydh) (a34 : DK K "without_first" ycY) (a35 : DK K "turned_right" yc8) (a36 : DK K "linked" yeF) (a37 : DK K "welded" yeG) (a38 : DK K "joined" yeH) (a39 : DK K "doubled" yew) (a40 : DK K "repeated" yem) (a49 : DK K "_law_seen" ydt) (a51 : DK K "check_gap" yd0) (a52 : DK K "put_in" yeI) (a54 : DK K "check_stretch" yc1) (a55 : DK K "taken_out" yd1) (a58 : DK K "_law_refused" ydl) (a59 : DK K "_law_all" ydU) (a60 : DK K "_law_take" yen) (a61 : DK K "_law_plain" yd2) (a62 : DK K "_law_names_due" yc2) (a63 : DK K "_law_places_due" ycK) (a64 : DK K "law" yeC) (kk0 : Cls K C0) (mk0 : PySem.W.makesIn K C0 = true) (kc0 : PySem.W.keepIn K (.ref C0) = true) (nf0_0 : FA K C0 "pieces") (nf0_1 : FA K C0 "numbers") (nf0_2 : FA K C0 "sign_counts") (nf0_3 : FA K C0 "end_counts") (nf0_4 : FA K C0 "leaf_counts") (nf0_5 : FA K C0 "heights") (nf0_6 : FA K C0 "first_leaves") (nf0_7 : FA K C0 "last_leaves") (kk1 : Cls K C1) (mk1 : PySem.W.makesIn K C1 = true) (kc1 : PySem.W.keepIn K (.ref C1) = true) (nf1_0 : FA K C1 "own_shelf") (nf1_1 : FA K C1 "texts") (nf1_2 : FA K C1 "deeds") (nf1_3 : FA K C1 "taken_back") (z_ValueError : NA K "ValueError" none) (z_abs : NA K "abs" none) (z_all : NA K "all" none) (z_bool : NA K "bool" none) (z_int : NA K "int" none) (z_isinstance : NA K "isinstance" none) (z_len : NA K "len" none) (z_max : NA K "max" none) (z_range : NA K "range" none) (z_sorted : NA K "sorted" none) (z_str : NA K "str" none) (z_sum : NA K "sum" none) (z_zip : NA K "zip" none) (e_SkeinError : NA K "SkeinError" (some (.ref X0))) (e_NoText : NA K "NoText" (some (.ref X1))) (x_NoText : XI K X1) (e_NoPiece : NA K "NoPiece" (some (.ref X2))) (e_Loose : NA K "Loose" (some (.ref X3))) (e_Unlevel : NA K "Unlevel" (some (.ref X4))) (e_TooLong : NA K "TooLong" (some (.ref X5))) (x_TooLong : XI K X5) (e_NoPlace : NA K "NoPlace" (some (.ref X6))) (x_NoPlace : XI K X6) (e_NoName : NA K "NoName" (some (.ref X7))) (x_NoName : XI K X7) (e_NothingDone : NA K "NothingDone" (some (.ref X8))) (m_LEAF_SIGNS : NA K "LEAF_SIGNS" (some (.int 8 tk_LEAF_SIGNS))) (m_NAME_SIGNS : NA K "NAME_SIGNS" (some (.int 8 tk_NAME_SIGNS))) (m_MOST_PLAIN : NA K "MOST_PLAIN" (some (.int 10000 tk_MOST_PLAIN))) (m_MOST_SIGNS : NA K "MOST_SIGNS" (some (.int 1000000000000000000 tk_MOST_SIGNS))) (y0 : ExcK K X0) (y1 : ExcK K X1) (y2 : ExcK K X2) (y3 : ExcK K X3) (y4 : ExcK K X4) (y5 : ExcK K X5) (y6 : ExcK K X6) (y7 : ExcK K X7) (y8 : ExcK K X8) (kt_NoName_0 : KO K X0 X7 false) (kt_NoName_1 : KO K X1 X7 false) (kt_NoName_2 : KO K X2 X7 false) (kt_NoName_3 : KO K X3 X7 false) (kt_NoName_4 : KO K X4 X7 false) (kt_NoName_5 : KO K X5 X7 false) (kt_NoName_6 : KO K X6 X7 false) (kt_NoName_7 : KO K X7 X7 true) (kt_NoName_8 : KO K X8 X7 false) (kt_NoPlace_0 : KO K X0 X6 false) (kt_NoPlace_1 : KO K X1 X6 false) (kt_NoPlace_2 : KO K X2 X6 false) (kt_NoPlace_3 : KO K X3 X6 false) (kt_NoPlace_4 : KO K X4 X6 false) (kt_NoPlace_5 : KO K X5 X6 false) (kt_NoPlace_6 : KO K X6 X6 true) (kt_NoPlace_7 : KO K X7 X6 false) (kt_NoPlace_8 : KO K X8 X6 false) (kt_NoText_0 : KO K X0 X1 false) (kt_NoText_1 : KO K X1 X1 true) (kt_NoText_2 : KO K X2 X1 false) (kt_NoText_3 : KO K X3 X1 false) (kt_NoText_4 : KO K X4 X1 false) (kt_NoText_5 : KO K X5 X1 false) (kt_NoText_6 : KO K X6 X1 false) (kt_NoText_7 : KO K X7 X1 false) (kt_NoText_8 : KO K X8 X1 false) (kt_NothingDone_0 : KO K X0 X8 false) (kt_NothingDone_1 : KO K X1 X8 false) (kt_NothingDone_2 : KO K X2 X8 false) (kt_NothingDone_3 : KO K X3 X8 false) (kt_NothingDone_4 : KO K X4 X8 false) (kt_NothingDone_5 : KO K X5 X8 false) (kt_NothingDone_6 : KO K X6 X8 false) (kt_NothingDone_7 : KO K X7 X8 false) (kt_NothingDone_8 : KO K X8 X8 true) (kt_TooLong_0 : KO K X0 X5 false) (kt_TooLong_1 : KO K X1 X5 false) (kt_TooLong_2 : KO K X2 X5 false) (kt_TooLong_3 : KO K X3 X5 false) (kt_TooLong_4 : KO K X4 X5 false) (kt_TooLong_5 : KO K X5 X5 true) (kt_TooLong_6 : KO K X6 X5 false) (kt_TooLong_7 : KO K X7 X5 false) (kt_TooLong_8 : KO K X8 X5 false) (kt_ValueError_0 : PySem.W.kitOne K (.ref X0) (.type "ValueError") = some true) (kt_ValueError_1 : PySem.W.kitOne K (.ref X1) (.type "ValueError") = some true) (kt_ValueError_2 : PySem.W.kitOne K (.ref X2) (.type "ValueError") = some true) (kt_ValueError_3 : PySem.W.kitOne K (.ref X3) (.type "ValueError") = some true) (kt_ValueError_4 : PySem.W.kitOne K (.ref X4) (.type "ValueError") = some true) (kt_ValueError_5 : PySem.W.kitOne K (.ref X5) (.type "ValueError") = some true) (kt_ValueError_6 : PySem.W.kitOne K (.ref X6) (.type "ValueError") = some true) (kt_ValueError_7 : PySem.W.kitOne K (.ref X7) (.type "ValueError") = some true) (kt_ValueError_8 : PySem.W.kitOne K (.ref X8) (.type "ValueError") = some true) (em_SkeinError_0 : XO K X0 X0) (em_SkeinError_1 : XO K X1 X0) (em_SkeinError_2 : XO K X2 X0) (em_SkeinError_3 : XO K X3 X0) (em_SkeinError_4 : XO K X4 X0) (em_SkeinError_5 : XO K X5 X0) (em_SkeinError_6 : XO K X6 X0) (em_SkeinError_7 : XO K X7 X0) (em_SkeinError_8 : XO K X8 X0)
  : FX l w K mg fa:=by
 have Z : ∀ base : Heap,K.In base -> Facts l.prog w K (λn=>[C0,C1][n]?) (λn=>[X0,X1,X2,X3,X4,X5,X6,X7,X8][n]?) mg base:=λbase KB=>{
   b_ValueError:=PySem.W.mg_none_of X G z_ValueError,
   b_abs:=PySem.W.mg_none_of X G z_abs,
   b_all:=PySem.W.mg_none_of X G z_all,
   b_bool:=PySem.W.mg_none_of X G z_bool,
   b_int:=PySem.W.mg_none_of X G z_int,
   b_isinstance:=PySem.W.mg_none_of X G z_isinstance,
   b_len:=PySem.W.mg_none_of X G z_len,
   b_max:=PySem.W.mg_none_of X G z_max,
   b_range:=PySem.W.mg_none_of X G z_range,
   b_sorted:=PySem.W.mg_none_of X G z_sorted,
   b_str:=PySem.W.mg_none_of X G z_str,
   b_sum:=PySem.W.mg_none_of X G z_sum,
   b_zip:=PySem.W.mg_none_of X G z_zip,
   c_LEAF_SIGNS:=⟨_,PySem.W.mg_of X G m_LEAF_SIGNS⟩,
   c_NAME_SIGNS:=⟨_,PySem.W.mg_of X G m_NAME_SIGNS⟩,
   c_MOST_PLAIN:=⟨_,PySem.W.mg_of X G m_MOST_PLAIN⟩,
   c_MOST_SIGNS:=⟨_,PySem.W.mg_of X G m_MOST_SIGNS⟩,
   cf_Shelf:=⟨C0,rfl,kk0,λf hf=>by
   have hf2 : f ∈ flds 0:=hf
   simp only [flds,List.mem_cons,List.not_mem_nil,or_false] at hf2
   rcases hf2 with rfl | rfl | rfl | rfl | rfl | rfl | rfl | rfl
   ·exact nf0_0
   ·exact nf0_1
   ·exact nf0_2
   ·exact nf0_3
   ·exact nf0_4
   ·exact nf0_5
   ·exact nf0_6
   ·exact nf0_7⟩,
   cf_House:=⟨C1,rfl,kk1,λf hf=>by
   have hf2 : f ∈ flds 1:=hf
   simp only [flds,List.mem_cons,List.not_mem_nil,or_false] at hf2
   rcases hf2 with rfl | rfl | rfl | rfl
   ·exact nf1_0
   ·exact nf1_1
   ·exact nf1_2
   ·exact nf1_3⟩,
   x_NoText:=gx KB X G rfl e_NoText x_NoText,
   x_TooLong:=gx KB X G rfl e_TooLong x_TooLong,
   x_NoPlace:=gx KB X G rfl e_NoPlace x_NoPlace,
   x_NoName:=gx KB X G rfl e_NoName x_NoName,
   d_law_mixed:=dg X G a0 bl2,
   d_law_stream:=dg X G a1 bl2,
   d_Shelf_init:=di rfl (PySem.W.mg_of X G aC0) mk0 kc0 a2 bl1,
   d_House_init:=di rfl (PySem.W.mg_of X G aC1) mk1 kc1 a3 bl1,
   d_is_name:=dg X G a4 bl1,
   d_check_name:=dg X G a5 bl1,
   d_House_set_text:=dm rfl kk1 a6 bl3,
   d_House_do:=dm rfl kk1 a7 bl3,
   d_is_whole:=dg X G a8 bl1,
   d_Shelf_has_piece:=dm rfl kk0 a9 bl2,
   d_Shelf_check_piece:=dm rfl kk0 a10 bl2,
   d_Shelf_check_fork:=dm rfl kk0 a11 bl3,
   d_Shelf_lay:=dm rfl kk0 a12 bl2,
   d_Shelf_lay_fork:=dm rfl kk0 a13 bl2,
   d_Shelf_fork:=dm rfl kk0 a14 bl3,
   d_halved:=dg X G a15 bl2,
   d_is_plain_sign:=dg X G a16 bl1,
   d_is_plain:=dg X G a17 bl1,
   d_is_short:=dg X G a18 bl1,
   d_ends_in:=dg X G a19 bl1,
   d_Shelf_lay_leaf:=dm rfl kk0 a20 bl2,
   d_Shelf_leaf:=dm rfl kk0 a21 bl2,
   d_built:=dg X G a22 bl2,
   d_House_give:=dm rfl kk1 a23 bl3,
   d_Shelf_check_text:=dm rfl kk0 a24 bl2,
   d_Shelf_signs:=dm rfl kk0 a25 bl2,
   d_check_length:=dg X G a26 bl1,
   d_Shelf_last_leaf:=dm rfl kk0 a27 bl2,
   d_Shelf_first_leaf:=dm rfl kk0 a28 bl2,
   d_are_close:=dg X G a29 bl3,
   d_Shelf_piece:=dm rfl kk0 a30 bl2,
   d_with_last:=dg X G a31 bl3,
   d_Shelf_height:=dm rfl kk0 a32 bl2,
   d_turned_left:=dg X G a33 bl3,
   d_without_first:=dg X G a34 bl2,
   d_turned_right:=dg X G a35 bl3,
   d_linked:=dg X G a36 bl3,
   d_welded:=dg X G a37 bl3,
   d_joined:=dg X G a38 bl3,
   d_doubled:=dg X G a39 bl3,
   d_repeated:=dg X G a40 bl3,
   d_House_text:=dm rfl kk1 a41 bl2,
   d_House_repeat:=dm rfl kk1 a42 bl3,
   d_House_join_to:=dm rfl kk1 a43 bl3,
   d_House_back:=dm rfl kk1 a44 bl1,
   d_House_again:=dm rfl kk1 a45 bl1,
   d_Shelf_many:=dm rfl kk0 a46 bl1,
   d_House_names:=dm rfl kk1 a47 bl1,
   d_House_shelf:=dm rfl kk1 a48 bl1,
   d_law_seen:=dg X G a49 bl1,
   d_House_copy_of:=dm rfl kk1 a50 bl3,
   d_check_gap:=dg X G a51 bl3,
   d_put_in:=dg X G a52 bl4,
   d_House_put_into:=dm rfl kk1 a53 bl4,
   d_check_stretch:=dg X G a54 bl4,
   d_taken_out:=dg X G a55 bl4,
   d_House_take_from:=dm rfl kk1 a56 bl4,
   d_House_drop:=dm rfl kk1 a57 bl2,
   d_law_refused:=dg X G a58 bl2,
   d_law_all:=dg X G a59 bl3,
   d_law_take:=dg X G a60 bl2,
   d_law_plain:=dg X G a61 bl2,
   d_law_names_due:=dg X G a62 bl1,
   d_law_places_due:=dg X G a63 bl4,
   d_law:=dg X G a64 bl1,
   kx_NoName:=⟨X7,PySem.W.mg_of X G e_NoName,(λc C' h=>match c,C',h with
    | 0,_,rfl=>⟨y0,kt_NoName_0⟩
    | 1,_,rfl=>⟨y1,kt_NoName_1⟩
    | 2,_,rfl=>⟨y2,kt_NoName_2⟩
    | 3,_,rfl=>⟨y3,kt_NoName_3⟩
    | 4,_,rfl=>⟨y4,kt_NoName_4⟩
    | 5,_,rfl=>⟨y5,kt_NoName_5⟩
    | 6,_,rfl=>⟨y6,kt_NoName_6⟩
    | 7,_,rfl=>⟨y7,kt_NoName_7⟩
    | 8,_,rfl=>⟨y8,kt_NoName_8⟩
    | _ + 9,_,h=>nomatch h)⟩,
   kx_NoPlace:=⟨X6,PySem.W.mg_of X G e_NoPlace,(λc C' h=>match c,C',h with
    | 0,_,rfl=>⟨y0,kt_NoPlace_0⟩
    | 1,_,rfl=>⟨y1,kt_NoPlace_1⟩
    | 2,_,rfl=>⟨y2,kt_NoPlace_2⟩
    | 3,_,rfl=>⟨y3,kt_NoPlace_3⟩
    | 4,_,rfl=>⟨y4,kt_NoPlace_4⟩
    | 5,_,rfl=>⟨y5,kt_NoPlace_5⟩
    | 6,_,rfl=>⟨y6,kt_NoPlace_6⟩
    | 7,_,rfl=>⟨y7,kt_NoPlace_7⟩
    | 8,_,rfl=>⟨y8,kt_NoPlace_8⟩
    | _ + 9,_,h=>nomatch h)⟩,
   kx_NoText:=⟨X1,PySem.W.mg_of X G e_NoText,(λc C' h=>match c,C',h with
    | 0,_,rfl=>⟨y0,kt_NoText_0⟩
    | 1,_,rfl=>⟨y1,kt_NoText_1⟩
    | 2,_,rfl=>⟨y2,kt_NoText_2⟩
    | 3,_,rfl=>⟨y3,kt_NoText_3⟩
    | 4,_,rfl=>⟨y4,kt_NoText_4⟩
    | 5,_,rfl=>⟨y5,kt_NoText_5⟩
    | 6,_,rfl=>⟨y6,kt_NoText_6⟩
    | 7,_,rfl=>⟨y7,kt_NoText_7⟩
    | 8,_,rfl=>⟨y8,kt_NoText_8⟩
    | _ + 9,_,h=>nomatch h)⟩,
   kx_NothingDone:=⟨X8,PySem.W.mg_of X G e_NothingDone,(λc C' h=>match c,C',h with
    | 0,_,rfl=>⟨y0,kt_NothingDone_0⟩
    | 1,_,rfl=>⟨y1,kt_NothingDone_1⟩
    | 2,_,rfl=>⟨y2,kt_NothingDone_2⟩
    | 3,_,rfl=>⟨y3,kt_NothingDone_3⟩
    | 4,_,rfl=>⟨y4,kt_NothingDone_4⟩
    | 5,_,rfl=>⟨y5,kt_NothingDone_5⟩
    | 6,_,rfl=>⟨y6,kt_NothingDone_6⟩
    | 7,_,rfl=>⟨y7,kt_NothingDone_7⟩
    | 8,_,rfl=>⟨y8,kt_NothingDone_8⟩
    | _ + 9,_,h=>nomatch h)⟩,
   kx_TooLong:=⟨X5,PySem.W.mg_of X G e_TooLong,(λc C' h=>match c,C',h with
    | 0,_,rfl=>⟨y0,kt_TooLong_0⟩
    | 1,_,rfl=>⟨y1,kt_TooLong_1⟩
    | 2,_,rfl=>⟨y2,kt_TooLong_2⟩
    | 3,_,rfl=>⟨y3,kt_TooLong_3⟩
    | 4,_,rfl=>⟨y4,kt_TooLong_4⟩
    | 5,_,rfl=>⟨y5,kt_TooLong_5⟩
    | 6,_,rfl=>⟨y6,kt_TooLong_6⟩
    | 7,_,rfl=>⟨y7,kt_TooLong_7⟩
    | 8,_,rfl=>⟨y8,kt_TooLong_8⟩
    | _ + 9,_,h=>nomatch h)⟩,
   kx_ValueError:=(λc C' h=>match c,C',h with
    | 0,_,rfl=>⟨y0,kt_ValueError_0⟩
    | 1,_,rfl=>⟨y1,kt_ValueError_1⟩
    | 2,_,rfl=>⟨y2,kt_ValueError_2⟩
    | 3,_,rfl=>⟨y3,kt_ValueError_3⟩
    | 4,_,rfl=>⟨y4,kt_ValueError_4⟩
    | 5,_,rfl=>⟨y5,kt_ValueError_5⟩
    | 6,_,rfl=>⟨y6,kt_ValueError_6⟩
    | 7,_,rfl=>⟨y7,kt_ValueError_7⟩
    | 8,_,rfl=>⟨y8,kt_ValueError_8⟩
    | _ + 9,_,h=>nomatch h),
   ct_SkeinError:=⟨X0,PySem.W.mg_of X G e_SkeinError,(λc C' z h=>match c,C',z,h with
    | 0,_,_,rfl=>em_SkeinError_0
    | 1,_,_,rfl=>em_SkeinError_1
    | 2,_,_,rfl=>em_SkeinError_2
    | 3,_,_,rfl=>em_SkeinError_3
    | 4,_,_,rfl=>em_SkeinError_4
    | 5,_,_,rfl=>em_SkeinError_5
    | 6,_,_,rfl=>em_SkeinError_6
    | 7,_,_,rfl=>em_SkeinError_7
    | 8,_,_,rfl=>em_SkeinError_8
    | _ + 9,_,_,h=>nomatch h)⟩ }
 obtain ⟨fd,h1,F⟩:=dlaw (p := "script") X G hfa a64 bl1
 exact ⟨fd,h1,λbase KB _=>FnOk.imp (yiN (Z base KB) F) (zjU (T:=mkT K (λn=>[C0,C1][n]?) (λn=>[X0,X1,X2,X3,X4,X5,X6,X7,X8][n]?)) law_true)⟩
theorem walk {l : PySem.W.OpenLaw} {q : Program} {loose : List Str} {XP : (Str -> Option Value) -> Heap -> Prop} {YP : World -> Heap -> Prop} {d : DefRec} {K : Params -> PySem.W.Frag} (hn : l.most = some 63) (hdf : d.params.defaults = [])
  (hY : ∀ (w : World) (h : Heap),YP w h -> (K w.params).In h)
  (F : ∀ (w : World) (mg : Str -> Option Value) (fa : Addr) (h : Heap),(K w.params).In h -> h.Ns mainGlobals mg -> mg d.name = some (.ref fa) -> FX l w (K w.params) mg fa) :
  PySem.W.WalkO q loose XP YP l.row.toRowW d [] (λf vs=>PySem.call f vs) :=
 L2.walk_of (n:=63) (k:=169) (x := "script") (CX:=λw=>CXE l.prog w) (sp:=λw=>spL (K w.params)) hn (by decide) hdf ⟨rfl,by decide,by decide⟩ hY F (λ_ _ a ns hl _ hS=>⟨a,ns,rfl,hS,hl,λ_=>rfl⟩) λ_ _ _ _ _ z=>zhL z
end Sk
open PySem PySem.W PyProof.Rows
section
structure PySem.W.Fast:Prop where(tw11952268032258397708 tw17803983856243179644 tw13110083785887827967 tw4769173637782150143 tw9616256614100406175 tw11465091263119883135 tw1639495436538760063 tw8648715663941964639 tw18117927149800993407 tw16659740428275462783 tw1206788986245066367 tw10846059708878891615 tw13901587645414471199 tw6610250198475982271 tw15169899182828918175 tw16769154858245297503 tw3558970874412762463 tw500760547795611935 tw12588367644666799327 tw10332865837904843967 tw4093108130151836799 tw11366594989191412831 tw4881975476738533407 tw2004313233480527903 tw2651224788927041470 tw5800867497142083454 tw12841721616793435998 tw2500785192610272990 tw6270725945490128606 tw9792687754656757406 tw4453897871267987070 tw338584299923178110 tw8727848961473779294 tw18381291865585069566 tw10993615309647971806 tw8597208365049474526 tw6143349235467995582 tw9940942492711647582 tw12651207813452510494 tw8301227214808108286 tw6351742661303801022 tw8148960986490349726 tw10180393657522529406 tw7387458048715119742 tw4325807655122147422 tw3581554898381524062 tw17401209421637429310 tw13183571589059414046 tw15757972398635804669 tw5809091824870414301 tw12664758244264743869 tw2360621976319490909 tw11655601033787222877 tw1993623845908116189 tw17747615337833064125 tw17313713052702055069 tw4412819073000306269 tw7017056597154985565 tw9080365060679371325 tw11482553796112969277 tw11042705393602261469 tw13640100110379165149 tw18137778745269276093 tw3403816053316993469 tw13477774149446936989 tw14509763105294999933 tw12161351156034659613 tw6232736605293097213 tw1225117190229714109 tw6263468704145598621 tw2784553819556494461 tw5834277138449023101 tw15234538602883438653 tw4772016631431907228 tw13283311007413614396 tw12763240493876925212 tw18420653339012845276 tw4353556156897748668 tw3846747210663157372 tw17413918005367497308 tw5482682414007967324 tw4829089000776750620 tw6862271136254924284 tw12903184390851998172 tw12329731695594696124 tw592910690470941116 tw3032173402673452380 tw7041080321288933724 tw9093242657404683580 tw18039132264954467580 tw2326153040276523260 tw16062265221380150460 tw9136247567119867964 tw5501706730423535644 tw2507897398874847260 tw5492902876085780508 tw8066061790520890331 tw7121040892188446651 tw7427157911653699515 tw12608930226989384603 tw2702145490285091707 tw14067582916196343643 tw1087890502519769915 tw15764192368967341851 tw10358846948626433819 tw16739076361396083451 tw3549301062943138523 tw12511556311865327291 tw3141269732317686267 tw4743081407356346619 tw1816910287370701019 tw15084667238355356827 tw1379475370287639707 tw1691071295188182171 tw6326528458903651451 tw1121736513966179419 tw4990177488382766139 tw17055078447296901147 tw8965862700652589050 tw16355885551336371194 tw6611398520864395226 tw11129984760542277594 tw14469789167240083354 tw5580601821293395802 tw17822887702301712186 tw14769714326751687450 tw18049542626839398170 tw13457099025816140474 tw13887769075304639162 tw14240384976582420154 tw10863745619504918138 tw3369958800049949274 tw6536926367342422586 tw12355619373075166746 tw16818865655311506938 tw11266937185594076666 tw6666795799581228506 tw14694301314843246042 tw12420248387844837850 tw17663047197889674682 tw2995965041332912506 tw13742753699066805594 tw14148576150044601690 tw6326570209574322362 tw17284620318458002618 tw12231836293707998362 tw8981325682304081018 tw3138990138397049978 tw12227432751641168986 tw4538687476955643930 tw2152178776133580793 tw385018594100934649 tw12452324002675978137 tw8416114400426319769 tw683042425014649721 tw1824098340231769881 tw1744259528973962009 tw3082689315826750201 tw4602626265537623801 tw17088669158785219289 tw10318764853457386201 tw5614195818727454425 tw6597503806461795001 tw6064723282921679481 tw9040066913987311193 tw11056935703011952217 tw13998262539705659961 tw1706344997535681081 tw2923130839417316889 tw14735023573033593273 tw3557819384500508089 tw2107736144212106681 tw5462814856711722265 tw15309071558295997721 tw14361398144265463065 tw2406094867004588313 tw3505191908842395897 tw7487468247122890937 tw11779349579614472281 tw15564550531681188792 tw13265730549475211128 tw637051609527210840 tw14061269832995039000 tw9974717922051705624 tw2368084166076540696 tw5168717932401012472 tw13467843469019763256 tw17820097066680651288 tw5344782368001142264 tw14296804016453986808 tw3015067809616536056 tw3543582425375576440 tw16771874073143464312 tw8690983793924698456 tw14369620532823570776 tw2883005229962201432 tw10633480362955290936 tw3055222859020277016 tw1207099668815742104 tw2011269132170516600 tw15970050283835198584 tw5673496201316305016 tw13406211949771368439 tw14389831571014125527 tw7179022169698811863 tw12374547560891944887 tw7975641208912511895 tw3004154309161510775 tw10756904478954920823 tw4212953439205093207 tw15406280710579928919 tw8913594553178752695 tw1830770622096635543 tw13175393580234443415 tw9646279557190468215 tw9606399754075724375 tw17251687531630015031 tw4269992581351115255 tw2660352574809734615 tw14216900834833916311 tw9745524585250813271 tw14789212227901983031 tw17147796018138922295 tw5750441025977977111 tw3326187708628736183 tw6628844059741602903 tw8688243893303711702 tw2167113549805805430 tw580371431908622102 tw2573494233109709494 tw5172362185618484822 tw2119459124215074390 tw17715421410313338422 tw1027956096559491574 tw7455779361533454806 tw3572403087048271286 tw16574359792331791798 tw1657376534110804310 tw12429037660897143094 tw14815901531848111382 tw14107393303688147158 tw16202472799177645238 tw9714739969519123606 tw13990525747010052214 tw6594869019640410198 tw5883102620439864406 tw1937542323849164854 tw10771357976399186998 tw4576279063196114933 tw8807127951209592789 tw15872484772474568597 tw1122094376443425653 tw835100076120259285 tw8575467932996977301 tw12838667725832545877 tw12909305765665798709 tw5104581224611929589 tw8570520184127355157 tw12615844818130230421 tw5291204263486966869 tw1027659842642730037 tw6154609809823263797 tw1786263136729973781 tw8433469064508595188 tw2657862139905086356 tw4891051657198652244 tw4531110907210213108 tw16367770426437964500 tw12486403874865160852 tw18406173314316100212 tw1174979126546562644 tw3111025689988310580 tw11969487875869536724 tw5720497069989519732 tw6258338019227431284 tw8837950165612749140 tw1700841292407447860 tw11556508931446062324 tw10461269372256104628 tw2996595856835995764 tw416439039584279668 tw15490890854007995476 tw348971914002304084 tw11072610194029376564 tw18140766200378638356 tw4100205428558524403 tw6348429081156080627 tw15006884098453682035 tw23853911328672467 tw13697958061617778355 tw6331328233829750387 tw1983563263014480499 tw7898928137580909139 tw13094999374452934131 tw9528846767571206611 tw3032619283751952819 tw2016862808479284659 tw1834275391728608403 tw1684978290467951731 tw10748799385015078003 tw5143720250749345811 tw9903033234829011954 tw15002972732443537298 tw490944243655057234 tw6397209476061731666 tw603724723223379634 tw11879176176214651570 tw6048791820554482354 tw15740132332131683954 tw10424205489808820818 tw4916630775300184498 tw10115522604770480498 tw3171186686488130930 tw2968828437059247442 tw12028740784145352978 tw4289118240879945906 tw14829398765017379954 tw15541355079009804306 tw6097809567750855665 tw4729786216892888049 tw7306724740226917361 tw16195965225599963089 tw16814949385640012689 tw13241277464946718577 tw13520069287626583921 tw10170801559884713681 tw10200103313035633329 tw1799054316501766705 tw11881679880621617681 tw8258823655500572177 tw3860318711890470385 tw1984274698021288433 tw15175076549680410065 tw18074417222839268721 tw10061819263685676401 tw6634676312985642353 tw6774025356284582193 tw11448511079754534193 tw4372565059455627473 tw16724627295149445297 tw841813509689021617 tw17251120594551167057 tw8626799614823118832 tw10790835546030111664 tw180121049027854224 tw4289580375818825520 tw13051583500598452880 tw3338485070371949168 tw17194330847447627344 tw2118660222745410032 tw2646979888286878096 tw4979549698288399728 tw4404102154295551344 tw9750993492012966064 tw11853675086161254576 tw15525931488702028783 tw2612354101594903503 tw13426992208197880783 tw1194644311289163663 tw2279225895015982991 tw17409464591786092431 tw11868079213689439119 tw2957091420719802223 tw14865962167716830063 tw12473131930119417711 tw6294870760006396783 tw15336171978465325839 tw14243757136147454735 tw16182796673282127599 tw4774014601239607023 tw11151390344136467183 tw14577476090679074447 tw14336557750685801071 tw8980411548217710191 tw10703299506351241807 tw5292394890919061071 tw11189928478497365551 tw5013154572786972143 tw11952275447126397423 tw14646421983155498383 tw1161779311332387215 tw1823383048544860463 tw8382797871632449775 tw12710255330008158415 tw458990935791917231 tw13743698263214761135 tw6597655849555300527 tw5371227845225317551 tw16630597348924210319 tw8080205373067961455 tw8629552676841641039 tw11375639035266703375 tw10096304383402619854 tw5263764181262840782 tw13600090125449991118 tw13614434620583120846 tw12262829434707891118 tw14972102904175609774 tw2958444388142018382 tw12664400022129408782 tw8822417467849957070 tw9221502500237242062 tw17839424501018330798 tw14525341840330350254 tw13072027667763471022 tw13258421464488531566 tw14638942275912742510 tw12543260992639234606 tw15011546108657089038 tw2512548020974007790 tw7312444999145940430 tw17973873210316774862 tw15878506426781727118 tw7959542560006197518 tw4746319638506806542 tw14916349646060500174 tw15960698288293852334 tw9961623534208843854 tw5951821144077567022 tw11721470098718052269 tw13681590034256629645 tw3401976154460443501 tw2614220753194851149 tw8515605519268443885 tw5219161643306777293 tw12118601588123696813 tw1772975566381804173 tw11143158061444421261 tw9216021987159605901 tw14102908407360310893 tw3668191110121104909 tw11166457361254474221 tw4344303332731671021 tw6678513475581423085 tw1285905724897012045 tw3369727699720260556 tw13964237757320740780 tw4614878092908802988 tw3930100836377989004 tw13732336894069186220 tw3591648330684891788 tw11719151146444858892 tw10515398740865552908 tw11376203577215239596 tw10982221123823807852 tw8791777436346211692 tw5635875925434186028 tw2223603922472075500 tw10024681721327704236 tw2386875490803249228 tw4802961003690442699 tw18392516028690546539 tw2076897325837270859 tw7442470800699004683 tw982866258977204907 tw18217584337025654379 tw4440817440195518059 tw4433702969035701803 tw12303049799662097899 tw17330829229198313963 tw1561419499587446251 tw15743980933574493579 tw4579998131955485035 tw665400619704392011 tw15171177886407548235 tw11273840687455858987 tw12270171057390537963 tw16034904693564072171 tw3799174576192719051 tw17329973515461312490 tw6116655938966815690 tw1937573324825768842 tw11983182820797946730 tw11513692364196553546 tw9345303006347771722 tw8257233564738206506 tw7992180418873541418 tw7162148682228322058 tw8850107861834806026 tw8877804076883772170 tw12523295402061653738 tw7340499324251479786 tw13246730636763121194 tw2862421505856083402 tw1525840959714436522 tw15916734902629802410 tw11268472400550240682 tw16400145293139611018 tw11902682992232716650 tw12033926948519630186 tw13271219717562934634 tw717837320809374858 tw13479008262716783722 tw4703253204080672874 tw13953283061899328586 tw12592487691282389002 tw14590695426048686025 tw5369045135376723849 tw15710282490704961353 tw5786726285175791433 tw14387210590660796137 tw13102772016495039177 tw15897553457301804681 tw5265007592526570057 tw2223342547838031433 tw15130094645330239049 tw14110338243952540201 tw252378012448263721 tw17879765372493593097 tw7672251548154028553 tw12303438034970328553 tw4002783732521703913 tw10196347776065638857 tw12655024342045383049 tw12626537285780772201 tw605736262427742505 tw2391390495532884265 tw10938337612234601737 tw12228156773201259753 tw17284543794974385353 tw626645594577429641 tw17976418374356633737 tw2655287189930267753 tw16843764649289297001 tw18096455113251045385 tw16858123598428844041 tw7307360770718748648 tw14494462806752216008 tw1334756144576318376 tw2096033509945109384 tw2535926492746414952 tw15010421553792330568 tw419252986803032840 tw7677331376114766568 tw10087642986127444648 tw958400088831358600 tw17365680078072771208 tw14050948484713331304 tw6078027496413814376 tw13640283444848992840 tw6556278230240667176 tw14427212226905358824 tw18401339440716521928 tw767338805161866664 tw6145180799131582888 tw3931916406129377480 tw6578171061261951144 tw5234406456213781608 tw5915031554257866856 tw17076632894442498120 tw14737362338577958887 tw9919713488639694823 tw1542426396228812743 tw3086293065867968391 tw9736880962701931367 tw13603271126572818119 tw10666792121608154823 tw17967459513452788391 tw10793335027185287 tw4811025114148131399 tw12157774930403234375 tw17512606190864290343 tw13113473504360974823 tw13981035877891169735 tw8178214596039415239 tw6004120605112531335 tw7213490447919686023 tw16085627680569944423 tw13897805118737764711 tw5465261292806908263 tw15031427811471942919 tw9435497994759176391 tw3401339432811502759 tw13147094424327405639 tw5970807920289636391 tw5466991275808980966 tw4360407407306135526 tw7890045031951831014 tw2949306910842040262 tw3619171462106172326 tw13570703700253086598 tw17398724968029380198 tw11891247113756354150 tw3599483544725379590 tw17954717202353031686 tw10583064377421739494 tw12469237988043298150 tw5182784365763496294 tw2678400014818214214 tw174197273935598854 tw11901066104113250406 tw3383214656764427366 tw9342707594422956005 tw9746159655524396965 tw2184006945400455045 tw5465749273663789893 tw11192756127237927717 tw13728095891189419813 tw15999907479226925861 tw18244675383157410565 tw2586513963328399077 tw13640927332467569349 tw379151881531051717 tw15865546432659674757 tw700841891822124645 tw17002829201275186757 tw5481905644611759621 tw3959933743631184293 tw18174761963608934821 tw1784752975136410981 tw7693254788434344293 tw1838953518181551461 tw3511118382452698437 tw5117011349415843077 tw75518483340469509 tw9273355533296288997 tw8090400842676190373 tw10023433455709431941 tw9650050944409786340 tw11432038202913560516 tw13106420787549832100 tw17031508057409592132 tw4255443462403845892 tw15724218940247209508 tw8658146931337487812 tw5030319409878643140 tw6311472034126828964 tw14641677207155587396 tw2294471444038891812 tw12433789617482827044 tw16403435742452930820 tw5603984967731045636 tw6080417824284225764 tw18112121963991669956 tw2121578667454237860 tw16819648850584558724 tw958418529334164516 tw8204239443676275683 tw2550775493093053315 tw3559681520248116099 tw1163364375447653251 tw4388791671129084803 tw8231258730888169347 tw5643327632968483683 tw8086703993846556483 tw6054179141843911459 tw11559119644653105891 tw16641274359885379267 tw16906581986345905859 tw3106650629879364227 tw3350098804502204003 tw809563047109449251 tw3150255058145112611 tw14607908080558250499 tw12099138115597802979 tw10041271177414987203 tw15224937546701764003 tw13007318459616712067 tw11695475767666856259 tw6531430068735348035 tw1341232746726287619 tw12924040222059095299 tw16301124583418672387 tw7945201370545813635 tw10415912031690453091 tw10337514980685089827 tw5310558878683628514 tw8175168202174112738 tw3528843088279203778 tw3670382640795632578 tw1363797950146558882 tw5831298060813301474 tw6344419696088775394 tw14398421889231181506 tw7926742592167741122 tw5035257752258358882 tw2264557907178938914 tw229183011687622114 tw12088241803457803746 tw2169560784593345954 tw13988792869151510914 tw7829243074247312738 tw4614719990949322018 tw12457739013114008674 tw14045183795878262882 tw6092885869441973314 tw17081337733025344481 tw14299225484489907009 tw1590862083807218497 tw11648899611502868257 tw12640698147165549345 tw2894936941623623393 tw17118815482399760065 tw15691012011353057921 tw14717244886540359297 tw15026302430729739809 tw17732282501749476897 tw10285401908490886657 tw2946544373436828161 tw1335453028292671873 tw15083414459464652161 tw6039343349859119425 tw9454575864269543745 tw8914205841118992705 tw14800267173935589633 tw5975178307891354849 tw8083000408298262721 tw12287207392582742113 tw9361912370908349441 tw17922438682611602400 tw1032873560457784288 tw9110348833992959936 tw10810873573440040800 tw16173643915282349888 tw10830813131510993728 tw1519282060343121728 tw8577233930899228480 tw3659106934809689888 tw6938939602315132704 tw14921134172298320672 tw4572720066018382592 tw17042848500788620032 tw3875290643619783392 tw86174342832434880 tw17304263272300369568 tw11898770651773524384 tw5167449333126441312 tw6148782502568992096 tw17759746860831040832 tw9512141346882496768 tw7564378724765487360 tw767686862930200704 tw7040149457058144352 tw11346674569935159328 tw5139688792559866912 tw8385221337037043712:True)
end
set_option maxRecDepth 100000 in
set_option maxHeartbeats 0 in
theorem PySem.Challenge.cw_skeinwood_k80_house_refused_holds : PySem.Challenge.rw_skeinwood_k80_house_refused.Holds := by
 w_on; o_law; k_head; (case hw => w_witness2)
 k_fill
 refine Sk.walk (l := PySem.Challenge.rw_skeinwood_k80_house_refused) rfl rfl (fun w h Y => PySem.W.kIn_of Y) ?F
 case F =>
  intro w mg fa h KX G hmg
  refine' Sk.all_mk KX G hmg ?aC0 ?aC1 ?a2 ?a3 ?a6 ?a7 ?a9 ?a10 ?a11 ?a12 ?a13 ?a14 ?a20 ?a21 ?a23 ?a24 ?a25 ?a27 ?a28 ?a30 ?a32 ?a41 ?a42 ?a43 ?a44 ?a45 ?a46 ?a47 ?a48 ?a50 ?a53 ?a56 ?a57 ?a0 ?a1 ?a4 ?a5 ?a8 ?a15 ?a16 ?a17 ?a18 ?a19 ?a22 ?a26 ?a29 ?a31 ?a33 ?a34 ?a35 ?a36 ?a37 ?a38 ?a39 ?a40 ?a49 ?a51 ?a52 ?a54 ?a55 ?a58 ?a59 ?a60 ?a61 ?a62 ?a63 ?a64 ?kk0 ?mk0 ?kc0 ?nf0_0 ?nf0_1 ?nf0_2 ?nf0_3 ?nf0_4 ?nf0_5 ?nf0_6 ?nf0_7 ?kk1 ?mk1 ?kc1 ?nf1_0 ?nf1_1 ?nf1_2 ?nf1_3 ?z_ValueError ?z_abs ?z_all ?z_bool ?z_int ?z_isinstance ?z_len ?z_max ?z_range ?z_sorted ?z_str ?z_sum ?z_zip ?e_SkeinError ?e_NoText ?x_NoText ?e_NoPiece ?e_Loose ?e_Unlevel ?e_TooLong ?x_TooLong ?e_NoPlace ?x_NoPlace ?e_NoName ?x_NoName ?e_NothingDone ?m_LEAF_SIGNS ?m_NAME_SIGNS ?m_MOST_PLAIN ?m_MOST_SIGNS ?y0 ?y1 ?y2 ?y3 ?y4 ?y5 ?y6 ?y7 ?y8 ?kt_NoName_0 ?kt_NoName_1 ?kt_NoName_2 ?kt_NoName_3 ?kt_NoName_4 ?kt_NoName_5 ?kt_NoName_6 ?kt_NoName_7 ?kt_NoName_8 ?kt_NoPlace_0 ?kt_NoPlace_1 ?kt_NoPlace_2 ?kt_NoPlace_3 ?kt_NoPlace_4 ?kt_NoPlace_5 ?kt_NoPlace_6 ?kt_NoPlace_7 ?kt_NoPlace_8 ?kt_NoText_0 ?kt_NoText_1 ?kt_NoText_2 ?kt_NoText_3 ?kt_NoText_4 ?kt_NoText_5 ?kt_NoText_6 ?kt_NoText_7 ?kt_NoText_8 ?kt_NothingDone_0 ?kt_NothingDone_1 ?kt_NothingDone_2 ?kt_NothingDone_3 ?kt_NothingDone_4 ?kt_NothingDone_5 ?kt_NothingDone_6 ?kt_NothingDone_7 ?kt_NothingDone_8 ?kt_TooLong_0 ?kt_TooLong_1 ?kt_TooLong_2 ?kt_TooLong_3 ?kt_TooLong_4 ?kt_TooLong_5 ?kt_TooLong_6 ?kt_TooLong_7 ?kt_TooLong_8 ?kt_ValueError_0 ?kt_ValueError_1 ?kt_ValueError_2 ?kt_ValueError_3 ?kt_ValueError_4 ?kt_ValueError_5 ?kt_ValueError_6 ?kt_ValueError_7 ?kt_ValueError_8 ?em_SkeinError_0 ?em_SkeinError_1 ?em_SkeinError_2 ?em_SkeinError_3 ?em_SkeinError_4 ?em_SkeinError_5 ?em_SkeinError_6 ?em_SkeinError_7 ?em_SkeinError_8
  (case aC0 => apply Sm.na;k_is)
  (case aC1 => apply Sm.na;k_is)
  (case a2 => apply Sm.dn<;>k_is)
  (case a3 => apply Sm.dn<;>k_is)
  (case a6 => apply Sm.dn<;>k_is)
  (case a7 => apply Sm.dn<;>k_is)
  (case a9 => apply Sm.dn<;>k_is)
  (case a10 => apply Sm.dn<;>k_is)
  (case a11 => apply Sm.dn<;>k_is)
  (case a12 => apply Sm.dn<;>k_is)
  (case a13 => apply Sm.dn<;>k_is)
  (case a14 => apply Sm.dn<;>k_is)
  (case a20 => apply Sm.dn<;>k_is)
  (case a21 => apply Sm.dn<;>k_is)
  (case a23 => apply Sm.dn<;>k_is)
  (case a24 => apply Sm.dn<;>k_is)
  (case a25 => apply Sm.dn<;>k_is)
  (case a27 => apply Sm.dn<;>k_is)
  (case a28 => apply Sm.dn<;>k_is)
  (case a30 => apply Sm.dn<;>k_is)
  (case a32 => apply Sm.dn<;>k_is)
  (case a41 => apply Sm.dn<;>k_is)
  (case a42 => apply Sm.dn<;>k_is)
  (case a43 => apply Sm.dn<;>k_is)
  (case a44 => apply Sm.dn<;>k_is)
  (case a45 => apply Sm.dn<;>k_is)
  (case a46 => apply Sm.dn<;>k_is)
  (case a47 => apply Sm.dn<;>k_is)
  (case a48 => apply Sm.dn<;>k_is)
  (case a50 => apply Sm.dn<;>k_is)
  (case a53 => apply Sm.dn<;>k_is)
  (case a56 => apply Sm.dn<;>k_is)
  (case a57 => apply Sm.dn<;>k_is)
  (case a0 => apply Sm.dk<;>k_is)
  (case a1 => apply Sm.dk<;>k_is)
  (case a4 => apply Sm.dk<;>k_is)
  (case a5 => apply Sm.dk<;>k_is)
  (case a8 => apply Sm.dk<;>k_is)
  (case a15 => apply Sm.dk<;>k_is)
  (case a16 => apply Sm.dk<;>k_is)
  (case a17 => apply Sm.dk<;>k_is)
  (case a18 => apply Sm.dk<;>k_is)
  (case a19 => apply Sm.dk<;>k_is)
  (case a22 => apply Sm.dk<;>k_is)
  (case a26 => apply Sm.dk<;>k_is)
  (case a29 => apply Sm.dk<;>k_is)
  (case a31 => apply Sm.dk<;>k_is)
  (case a33 => apply Sm.dk<;>k_is)
  (case a34 => apply Sm.dk<;>k_is)
  (case a35 => apply Sm.dk<;>k_is)
  (case a36 => apply Sm.dk<;>k_is)
  (case a37 => apply Sm.dk<;>k_is)
  (case a38 => apply Sm.dk<;>k_is)
  (case a39 => apply Sm.dk<;>k_is)
  (case a40 => apply Sm.dk<;>k_is)
  (case a49 => apply Sm.dk<;>k_is)
  (case a51 => apply Sm.dk<;>k_is)
  (case a52 => apply Sm.dk<;>k_is)
  (case a54 => apply Sm.dk<;>k_is)
  (case a55 => apply Sm.dk<;>k_is)
  (case a58 => apply Sm.dk<;>k_is)
  (case a59 => apply Sm.dk<;>k_is)
  (case a60 => apply Sm.dk<;>k_is)
  (case a61 => apply Sm.dk<;>k_is)
  (case a62 => apply Sm.dk<;>k_is)
  (case a63 => apply Sm.dk<;>k_is)
  (case a64 => apply Sm.dk<;>k_is)
  (case kk0 => constructor<;>k_is)
  (case mk0 => k_is)
  (case kc0 => k_is)
  (case nf0_0 => apply Sm.fatt;k_is)
  (case nf0_1 => apply Sm.fatt;k_is)
  (case nf0_2 => apply Sm.fatt;k_is)
  (case nf0_3 => apply Sm.fatt;k_is)
  (case nf0_4 => apply Sm.fatt;k_is)
  (case nf0_5 => apply Sm.fatt;k_is)
  (case nf0_6 => apply Sm.fatt;k_is)
  (case nf0_7 => apply Sm.fatt;k_is)
  (case kk1 => constructor<;>k_is)
  (case mk1 => k_is)
  (case kc1 => k_is)
  (case nf1_0 => apply Sm.fatt;k_is)
  (case nf1_1 => apply Sm.fatt;k_is)
  (case nf1_2 => apply Sm.fatt;k_is)
  (case nf1_3 => apply Sm.fatt;k_is)
  (case z_ValueError => apply Sm.na;k_is)
  (case z_abs => apply Sm.na;k_is)
  (case z_all => apply Sm.na;k_is)
  (case z_bool => apply Sm.na;k_is)
  (case z_int => apply Sm.na;k_is)
  (case z_isinstance => apply Sm.na;k_is)
  (case z_len => apply Sm.na;k_is)
  (case z_max => apply Sm.na;k_is)
  (case z_range => apply Sm.na;k_is)
  (case z_sorted => apply Sm.na;k_is)
  (case z_str => apply Sm.na;k_is)
  (case z_sum => apply Sm.na;k_is)
  (case z_zip => apply Sm.na;k_is)
  (case e_SkeinError => apply Sm.na;k_is)
  (case e_NoText => apply Sm.na;k_is)
  (case x_NoText => apply Sm.xi;k_exc)
  (case e_NoPiece => apply Sm.na;k_is)
  (case e_Loose => apply Sm.na;k_is)
  (case e_Unlevel => apply Sm.na;k_is)
  (case e_TooLong => apply Sm.na;k_is)
  (case x_TooLong => apply Sm.xi;k_exc)
  (case e_NoPlace => apply Sm.na;k_is)
  (case x_NoPlace => apply Sm.xi;k_exc)
  (case e_NoName => apply Sm.na;k_is)
  (case x_NoName => apply Sm.xi;k_exc)
  (case e_NothingDone => apply Sm.na;k_is)
  (case m_LEAF_SIGNS => apply Sm.na;k_is)
  (case m_NAME_SIGNS => apply Sm.na;k_is)
  (case m_MOST_PLAIN => apply Sm.na;k_is)
  (case m_MOST_SIGNS => apply Sm.na;k_is)
  (case y0 => apply Sm.excK_of<;>k_is)
  (case y1 => apply Sm.excK_of<;>k_is)
  (case y2 => apply Sm.excK_of<;>k_is)
  (case y3 => apply Sm.excK_of<;>k_is)
  (case y4 => apply Sm.excK_of<;>k_is)
  (case y5 => apply Sm.excK_of<;>k_is)
  (case y6 => apply Sm.excK_of<;>k_is)
  (case y7 => apply Sm.excK_of<;>k_is)
  (case y8 => apply Sm.excK_of<;>k_is)
  (case kt_NoName_0 => apply Sm.ko;kit_is)
  (case kt_NoName_1 => apply Sm.ko;kit_is)
  (case kt_NoName_2 => apply Sm.ko;kit_is)
  (case kt_NoName_3 => apply Sm.ko;kit_is)
  (case kt_NoName_4 => apply Sm.ko;kit_is)
  (case kt_NoName_5 => apply Sm.ko;kit_is)
  (case kt_NoName_6 => apply Sm.ko;kit_is)
  (case kt_NoName_7 => apply Sm.ko;kit_is)
  (case kt_NoName_8 => apply Sm.ko;kit_is)
  (case kt_NoPlace_0 => apply Sm.ko;kit_is)
  (case kt_NoPlace_1 => apply Sm.ko;kit_is)
  (case kt_NoPlace_2 => apply Sm.ko;kit_is)
  (case kt_NoPlace_3 => apply Sm.ko;kit_is)
  (case kt_NoPlace_4 => apply Sm.ko;kit_is)
  (case kt_NoPlace_5 => apply Sm.ko;kit_is)
  (case kt_NoPlace_6 => apply Sm.ko;kit_is)
  (case kt_NoPlace_7 => apply Sm.ko;kit_is)
  (case kt_NoPlace_8 => apply Sm.ko;kit_is)
  (case kt_NoText_0 => apply Sm.ko;kit_is)
  (case kt_NoText_1 => apply Sm.ko;kit_is)
  (case kt_NoText_2 => apply Sm.ko;kit_is)
  (case kt_NoText_3 => apply Sm.ko;kit_is)
  (case kt_NoText_4 => apply Sm.ko;kit_is)
  (case kt_NoText_5 => apply Sm.ko;kit_is)
  (case kt_NoText_6 => apply Sm.ko;kit_is)
  (case kt_NoText_7 => apply Sm.ko;kit_is)
  (case kt_NoText_8 => apply Sm.ko;kit_is)
  (case kt_NothingDone_0 => apply Sm.ko;kit_is)
  (case kt_NothingDone_1 => apply Sm.ko;kit_is)
  (case kt_NothingDone_2 => apply Sm.ko;kit_is)
  (case kt_NothingDone_3 => apply Sm.ko;kit_is)
  (case kt_NothingDone_4 => apply Sm.ko;kit_is)
  (case kt_NothingDone_5 => apply Sm.ko;kit_is)
  (case kt_NothingDone_6 => apply Sm.ko;kit_is)
  (case kt_NothingDone_7 => apply Sm.ko;kit_is)
  (case kt_NothingDone_8 => apply Sm.ko;kit_is)
  (case kt_TooLong_0 => apply Sm.ko;kit_is)
  (case kt_TooLong_1 => apply Sm.ko;kit_is)
  (case kt_TooLong_2 => apply Sm.ko;kit_is)
  (case kt_TooLong_3 => apply Sm.ko;kit_is)
  (case kt_TooLong_4 => apply Sm.ko;kit_is)
  (case kt_TooLong_5 => apply Sm.ko;kit_is)
  (case kt_TooLong_6 => apply Sm.ko;kit_is)
  (case kt_TooLong_7 => apply Sm.ko;kit_is)
  (case kt_TooLong_8 => apply Sm.ko;kit_is)
  (case kt_ValueError_0 => kit_is)
  (case kt_ValueError_1 => kit_is)
  (case kt_ValueError_2 => kit_is)
  (case kt_ValueError_3 => kit_is)
  (case kt_ValueError_4 => kit_is)
  (case kt_ValueError_5 => kit_is)
  (case kt_ValueError_6 => kit_is)
  (case kt_ValueError_7 => kit_is)
  (case kt_ValueError_8 => kit_is)
  (case em_SkeinError_0 => apply Sm.xo;kts_exm)
  (case em_SkeinError_1 => apply Sm.xo;kts_exm)
  (case em_SkeinError_2 => apply Sm.xo;kts_exm)
  (case em_SkeinError_3 => apply Sm.xo;kts_exm)
  (case em_SkeinError_4 => apply Sm.xo;kts_exm)
  (case em_SkeinError_5 => apply Sm.xo;kts_exm)
  (case em_SkeinError_6 => apply Sm.xo;kts_exm)
  (case em_SkeinError_7 => apply Sm.xo;kts_exm)
  (case em_SkeinError_8 => apply Sm.xo;kts_exm)
