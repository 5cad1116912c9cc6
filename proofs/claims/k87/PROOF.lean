import PyProof.Rows.All
import Wide.All
import OpenK.AllK
import Wide.FinOn
import Lean
import PyProof.EqAt
import PyProof.EqKinds
import PyProof.TupleCall
import PyProof.StrCalls2
import PyProof.SumAny
import PyProof.Rows.Range3
import PyProof.StrBlockI
import PyProof.SliceStr2
import PyProof.IsRules
import PyProof.StrBlock2
import PyProof.StrLawsChain
import PyProof.StrCalls6
import PyProof.StrLawsReplace
import KE.KTops
import KE.KIntText
import PyProof.StrLawsIn
import PyProof.Rows.ReprOcc
import PyProof.Rows.StrBin
import PyProof.StrLawsTight
import PySem.Challenge.RW_skeinwood_k87_shelves_read
set_option Elab.async false
set_option linter.all false
set_option maxRecDepth 100000
noncomputable section
namespace L2
open PySem PySem.Spec PyProof.Rows
abbrev Key:=Sum Int Str
def ydV : Key -> Value -> Bool
 | .inl k,v=>Value.isInt k v
 | .inr x,v=>Value.isStrOf x v
def keyH (w : World) : Key -> Int
 | .inl k=>hashInt k
 | .inr x=>hashStr w x
theorem zat : ∀ {k : Key} {v : Value},ydV k v = true -> (∃ i t,k = Sum.inl i /\ v = Value.int i t) \/ (∃ x t,k = Sum.inr x /\ v = Value.str x t)
 | .inl i,v,h=>by
  obtain ⟨t,e⟩:=Value.isInt_shape (k:=i) (v:=v) h
  exact .inl ⟨i,t,rfl,e⟩
 | .inr x,v,h=>by
  obtain ⟨t,e⟩:=Value.isStrOf_shape (x:=x) (v:=v) h
  exact .inr ⟨x,t,rfl,e⟩
theorem zf5 (i : Int) (t : Tok) : ydV (.inl i) (.int i t) = true:=by simp [ydV,Value.isInt]
theorem zf6 (x : Str) (t : Tok) : ydV (.inr x) (.str x t) = true:=by simp [ydV,Value.isStrOf]
theorem yd3 (a b : Int) : decide ((Sum.inl a : Key) = Sum.inl b) = (a == b):=by
 by_cases e : a = b
 ·subst e; simp
 ·have h : ¬ (Sum.inl a : Key) = Sum.inl b:=fun q=>e (Sum.inl.inj q)
  rw [decide_eq_false h]
  exact (beq_eq_false_iff_ne.mpr e).symm
theorem ye9 (a b : Str) : decide ((Sum.inr a : Key) = Sum.inr b) = decide (a = b):=by
 by_cases e : a = b
 ·subst e; simp
 ·have h : ¬ (Sum.inr a : Key) = Sum.inr b:=fun q=>e (Sum.inr.inj q)
  rw [decide_eq_false h,decide_eq_false e]
theorem yez (a : Int) (b : Str) : decide ((Sum.inl a : Key) = Sum.inr b) = false:=decide_eq_false (fun q=>nomatch q)
theorem yeA (a : Str) (b : Int) : decide ((Sum.inr a : Key) = Sum.inl b) = false:=decide_eq_false (fun q=>nomatch q)
def ybL (prog : Program) (w : World) : PySem.KeyKind prog w Key where
 is:=ydV
 hash:=keyH w
 inj:=fun v a b ha hb=>by
  rcases zat ha with ⟨i,t,rfl,rfl⟩ | ⟨x,t,rfl,rfl⟩
  ·rcases zat hb with ⟨j,u,rfl,e⟩ | ⟨y,u,rfl,e⟩
   ·injection e with e1 _; rw [e1]
   ·exact nomatch e
  ·rcases zat hb with ⟨j,u,rfl,e⟩ | ⟨y,u,rfl,e⟩
   ·exact nomatch e
   ·injection e with e1 _; rw [e1]
 byValue:=fun k v h=>by
  rcases zat h with ⟨i,t,rfl,rfl⟩ | ⟨x,t,rfl,rfl⟩<;>rfl
 pyHash:=fun hv h=>by
  rcases zat hv with ⟨i,t,rfl,rfl⟩ | ⟨x,t,rfl,rfl⟩
  ·exact wpAny_pyHash_int h
  ·exact wpAny_pyHash_str h
 eqBool:=fun hu hv h=>by
  rcases zat hu with ⟨i,t,rfl,rfl⟩ | ⟨x,t,rfl,rfl⟩
  ·rcases zat hv with ⟨j,u,rfl,rfl⟩ | ⟨y,u,rfl,rfl⟩
   ·rw [yd3] at h; exact wpAny_eqBool_int h
   ·rw [yez] at h; exact SeqAt.EqAt.int_str i t y u _ _ _ _ h
  ·rcases zat hv with ⟨j,u,rfl,rfl⟩ | ⟨y,u,rfl,rfl⟩
   ·rw [yeA] at h; exact SeqAt.EqAt.str_int x t j u _ _ _ _ h
   ·rw [ye9] at h; exact wpAny_eqBool_str h
 «strs» := fun k x t v h=>by
  rcases zat h with ⟨i,u,rfl,e⟩ | ⟨y,u,rfl,e⟩
  ·exact nomatch e
  ·injection e with e1 _
   subst e1
   cases v<;>rfl
abbrev b01 (b : Bool) : Int:=if b then 1 else 0
def yc1 : Key -> Value -> Bool
 | .inl k,.bool b=>decide (k = b01 b)
 | .inl k,v=>Value.isInt k v
 | .inr x,v=>Value.isStrOf x v
theorem zak : ∀ {k : Key} {v : Value},yc1 k v = true -> (∃ i t,k = Sum.inl i /\ v = Value.int i t) \/ (∃ b,k = Sum.inl (b01 b) /\ v = Value.bool b) \/ (∃ x t,k = Sum.inr x /\ v = Value.str x t)
 | .inl i,v,h=>by
  cases v with
  | bool b=>exact .inr (.inl ⟨b,by rw [of_decide_eq_true (show decide (i = b01 b) = true from h)],rfl⟩)
  | int j t =>
   obtain ⟨t,e⟩:=Value.isInt_shape (k:=i) (v:=.int j t) h
   exact .inl ⟨i,t,rfl,e⟩
  | _=>exact absurd h (by simp [yc1,Value.isInt])
 | .inr x,v,h=>by
  obtain ⟨t,e⟩:=Value.isStrOf_shape (x:=x) (v:=v) h
  exact .inr (.inr ⟨x,t,rfl,e⟩)
theorem zca {prog : Program} {w : World} {A : Around} {E : Value -> Shared -> Prop} {s : Shared} {b : Bool} {Q : Int -> Shared -> Prop} (h : Q (hashInt (b01 b)) { s with toks:=s.toks + 1 }) :
  wpAny (model prog w) A (pyHash (.bool b)) Q E s:=by
 unfold pyHash
 unfold pyHashByItsType
 have hv : [Value.bool b].any Value.onHeap = false:=rfl
 refine wpAny_bind ?_
 rw [cRoomFor,if_neg (by rw [hv]; exact Bool.false_ne_true)]; refine wpAny_pure ?_
 refine wpAny_bind (wpAny_specialOf (PySem.typeIs_bool s b) PySem.F.slot_bool_hash.lookup ?_)
 show wpAny _ _ (if (some (Value.builtin "int.__hash__") == some Value.none) = true then _ else _) Q E s
 rw [if_neg (by rw [beq_builtin_none]; exact Bool.false_ne_true)]
 refine wpAny_bind (wpAny_specialOf (PySem.typeIs_bool s b) PySem.F.slot_bool_hash.lookup ?_)
 show wpAny _ _ (callSpecialIfBoundUnlessNone? (.bool b) "__hash__" _ >>= _) Q E s
 cases b with
 | false =>
  refine wpAny_bind (wpAny_callSpecialIfBoundUnlessNone?_slot (PySem.typeIs_bool s false) PySem.F.slot_bool_hash
   (wpAny_call_entry PySem.F.slot_bool_hash (PySem.typeIs_bool s false) entry_int_hash
    (show wpAny _ _ (do ret (<- mkInt 0)) _ _ s from wpAny_ret_mkInt ?_) (args_int_hash _)))
  exact wpAny_pure h
 | true =>
  refine wpAny_bind (wpAny_callSpecialIfBoundUnlessNone?_slot (PySem.typeIs_bool s true) PySem.F.slot_bool_hash
   (wpAny_call_entry PySem.F.slot_bool_hash (PySem.typeIs_bool s true) entry_int_hash
    (show wpAny _ _ (do ret (<- mkInt 1)) _ _ s from wpAny_ret_mkInt ?_) (args_int_hash _)))
  exact wpAny_pure h
theorem zhV (a b : Bool) : (a == b) = decide ((Sum.inl (b01 a) : Key) = Sum.inl (b01 b)):=by cases a<;>cases b<;>decide
def ybH (prog : Program) (w : World) : PySem.KeyKind prog w Key where
 is:=yc1
 hash:=keyH w
 inj:=fun v a b ha hb=>by
  rcases zak ha with ⟨i,t,rfl,rfl⟩ | ⟨c,rfl,rfl⟩ | ⟨x,t,rfl,rfl⟩
  ·rcases zak hb with ⟨j,u,rfl,e⟩ | ⟨d,rfl,e⟩ | ⟨y,u,rfl,e⟩
   ·injection e with e1 _; rw [e1]
   ·exact nomatch e
   ·exact nomatch e
  ·rcases zak hb with ⟨j,u,rfl,e⟩ | ⟨d,rfl,e⟩ | ⟨y,u,rfl,e⟩
   ·exact nomatch e
   ·injection e with e1; rw [e1]
   ·exact nomatch e
  ·rcases zak hb with ⟨j,u,rfl,e⟩ | ⟨d,rfl,e⟩ | ⟨y,u,rfl,e⟩
   ·exact nomatch e
   ·exact nomatch e
   ·injection e with e1 _; rw [e1]
 byValue:=fun k v h=>by
  rcases zak h with ⟨i,t,rfl,rfl⟩ | ⟨c,rfl,rfl⟩ | ⟨x,t,rfl,rfl⟩<;>rfl
 pyHash:=fun hv h=>by
  rcases zak hv with ⟨i,t,rfl,rfl⟩ | ⟨c,rfl,rfl⟩ | ⟨x,t,rfl,rfl⟩
  ·exact wpAny_pyHash_int h
  ·exact zca h
  ·exact wpAny_pyHash_str h
 eqBool:=fun hu hv h=>by
  rcases zak hu with ⟨i,t,rfl,rfl⟩ | ⟨c,rfl,rfl⟩ | ⟨x,t,rfl,rfl⟩
  ·rcases zak hv with ⟨j,u,rfl,rfl⟩ | ⟨d,rfl,rfl⟩ | ⟨y,u,rfl,rfl⟩
   ·rw [yd3] at h; exact wpAny_eqBool_int h
   ·rw [yd3] at h; exact SeqAt.EqAt.int_bool i t d _ _ _ _ h
   ·rw [yez] at h; exact SeqAt.EqAt.int_str i t y u _ _ _ _ h
  ·rcases zak hv with ⟨j,u,rfl,rfl⟩ | ⟨d,rfl,rfl⟩ | ⟨y,u,rfl,rfl⟩
   ·rw [yd3] at h; exact SeqAt.EqAt.bool_int c j u _ _ _ _ h
   ·rw [<- zhV] at h; exact SeqAt.EqAt.bool_bool c d _ _ _ _ h
   ·rw [yez] at h; exact SeqAt.EqAt.bool_str c y u _ _ _ _ h
  ·rcases zak hv with ⟨j,u,rfl,rfl⟩ | ⟨d,rfl,rfl⟩ | ⟨y,u,rfl,rfl⟩
   ·rw [yeA] at h; exact SeqAt.EqAt.str_int x t j u _ _ _ _ h
   ·rw [yeA] at h; exact SeqAt.EqAt.str_bool x t d _ _ _ _ h
   ·rw [ye9] at h; exact wpAny_eqBool_str h
 «strs» := fun k x t v h=>by
  rcases zak h with ⟨i,u,rfl,e⟩ | ⟨d,rfl,e⟩ | ⟨y,u,rfl,e⟩
  ·exact nomatch e
  ·exact nomatch e
  ·injection e with e1 _
   subst e1
   cases v<;>rfl
theorem zd0 (prog : Program) (w : World) (i : Int) (t : Tok) : (ybH prog w).is (.inl i) (.int i t) = true:=by show yc1 (.inl i) (.int i t) = true; simp [yc1,Value.isInt]
theorem zd1 (prog : Program) (w : World) (x : Str) (t : Tok) : (ybH prog w).is (.inr x) (.str x t) = true:=by show yc1 (.inr x) (.str x t) = true; simp [yc1,Value.isStrOf]
theorem zeF (prog : Program) (w : World) (i : Int) (t : Tok) : (ybL prog w).is (.inl i) (.int i t) = true:=zf5 i t
theorem zeG (prog : Program) (w : World) (x : Str) (t : Tok) : (ybL prog w).is (.inr x) (.str x t) = true:=zf6 x t
end L2
namespace L2
open PySem PySem.Spec PyProof.Rows
inductive V where
 | non | bl (b : Bool) | int (i : Int) | str (x : Str) | byt (b : Array UInt8) | flt (b : UInt64) | ref (a : Addr) | ty (n : String)
 deriving DecidableEq
def RelV : V -> Value -> Prop
 | .non,u=>u = Value.none
 | .bl b,u=>u = Value.bool b
 | .int i,u=>∃ t,u = Value.int i t
 | .str x,u=>∃ t,u = Value.str x t
 | .byt b,u=>∃ t,u = Value.bytes b t
 | .flt b,u=>∃ t,u = Value.float b t
 | .ref a,u=>u = Value.ref a
 | .ty n,u=>u = Value.type n
abbrev Vals : List V -> List Value -> Prop:=Paired RelV
theorem Vals.length {xs : List V} {us : List Value} (r : Vals xs us) : xs.length = us.length:=Paired.length r
theorem Vals.get : ∀ {xs : List V} {us : List Value} {i : Nat} {x : V},Vals xs us -> xs[i]? = some x -> ∃ u,us[i]? = some u /\ RelV x u
 | _,_,_,_,.nil,e=>by simp at e
 | _,_,0,_,.cons r _,e=>by simp at e; subst e; exact ⟨_,rfl,r⟩
 | _,_,i + 1,x,.cons _ t,e=>by
  obtain ⟨u,h1,h2⟩:=Vals.get (i:=i) (x:=x) t (by simpa using e)
  exact ⟨u,by simpa using h1,h2⟩
theorem Vals.set {x : V} {u : Value} (r : RelV x u) : ∀ {xs : List V} {us : List Value} (i : Nat),Vals xs us -> Vals (xs.set i x) (us.set i u)
 | _,_,_,.nil=>.nil
 | _,_,0,.cons _ t=>.cons r t
 | _,_,i + 1,.cons q t=>.cons q (Vals.set r i t)
theorem Vals.append : ∀ {xs ys : List V} {us ws : List Value},Vals xs us -> Vals ys ws -> Vals (xs++ys) (us++ws)
 | _,_,_,_,.nil,s=>s
 | _,_,_,_,.cons r t,s=>.cons r (Vals.append t s)
theorem Vals.take : ∀ {xs : List V} {us : List Value} (n : Nat),Vals xs us -> Vals (xs.take n) (us.take n)
 | _,_,0,_=>.nil
 | _,_,_ + 1,.nil=>.nil
 | _,_,n + 1,.cons r t=>.cons r (Vals.take n t)
theorem Vals.drop : ∀ {xs : List V} {us : List Value} (n : Nat),Vals xs us -> Vals (xs.drop n) (us.drop n)
 | _,_,0,r=>r
 | _,_,_ + 1,.nil=>.nil
 | _,_,n + 1,.cons _ t=>Vals.drop n t
def RelO : Option V -> Option Value -> Prop
 | some v,some u=>RelV v u
 | none,none=>True
 | _,_=>False
def KV {κ : Type} : List (κ × V) -> List (κ × Value) -> Prop:=Paired fun (p : κ × V) (q : κ × Value)=>p.1 = q.1 /\ RelV p.2 q.2
def kV : Key -> V
 | .inl i=>.int i
 | .inr x=>.str x
def kOf : V -> Option Key
 | .int i=>some (.inl i)
 | .bl b=>some (.inl (b01 b))
 | .str x=>some (.inr x)
 | _=>none
theorem ygh (k : Key) : kOf (kV k) = some k:=by cases k<;>rfl
inductive HO where
 | lst (xs : List V)
 | tup (xs : List V)
 | dK (kvs : List (Key × V)) | dT (xc : Option (List Addr)) (kvs : List (List Key × V))
 | set (S : Int -> Bool) (n : Nat)
 | ins (C dx : Addr) (fs : List (Str × V))
 | own (x : Addr)
 | xd (fs : List (Str × V))
 | met (f x : Addr)
 | rng (lo hi : Int)
 | frz (o : Obj) (u : HO)
 | tbl (ps : Array Value)
 | ext (φ : Heap -> Prop)
abbrev Hp:=Addr -> Option HO
def upd (H : Hp) (a : Addr) (o : HO) : Hp:=fun b=>if b = a then some o else H b
theorem zaf {H : Hp} {a : Addr} {o : HO} : upd H a o a = some o:=by unfold upd; rw [if_pos rfl]
theorem yal {H : Hp} {a b : Addr} {o : HO} (h : b ≠ a) : upd H a o b = H b:=by unfold upd; rw [if_neg h]
theorem zhW {H : Hp} {a : Addr} {o u : HO} : upd (upd H a o) a u = upd H a u:=by
 funext b; unfold upd; split<;>rfl
theorem yhx {H : Hp} {a b : Addr} {o u : HO} (h : H a = some o) (h' : H b = some u) (d : o ≠ u) : a ≠ b:=by
 intro e; subst e; rw [h] at h'; exact d (Option.some.inj h')
theorem zaj {H : Hp} {a b : Addr} {o : HO} (h : H a = some o) (h' : H b = none) : a ≠ b:=by
 intro e; subst e; rw [h] at h'; cases h'
section
variable (P : Program) (w : World)
def ObjOk (H : Hp) (h : Heap) (a : Addr) : HO -> Prop
 | .lst xs=>xs.length <= sizeLine /\ ∃ (its : List Value) (n : Nat),Vals xs its /\ h.get? a = some { cls:=.type "list",data:=.seq its.toArray n }
 | .tup xs=>xs.length <= sizeLine /\ ∃ its : List Value,Vals xs its /\ IsTup h a its.toArray
 | .dK kvs=>kvs.length <= sizeLine /\ (a == sysModules) = false /\ ∃ vs,KV kvs vs /\ h.DictOf (ybL P w) a vs
 | .dT xc kvs=>kvs.length <= sizeLine /\ (a == sysModules) = false /\ ∃ xs : List (List Key × Addr × Value),
   Paired (fun (p : List Key × V) (q : List Key × Addr × Value)=>p.1 = q.1 /\ (∃ ys,H q.2.1 = some (.tup ys) /\ ys.map kOf = p.1.map some) /\ RelV p.2 q.2.2) kvs xs /\
   ∃ o es ep,h.get? a = some o /\ o.ExactDict /\ o.data = .dict es ep /\ es.toList = xs.map (entryOfKey (tupleKind (ybH P w))) /\ (xs.map (·.1)).Nodup /\ ep = xs.length /\ ∀ as,xc = some as -> xs.map (·.2.1) = as
 | .set S n=>h.SetOf (intKind P w) a S n
 | .ins C dx fs=>H dx = some (.own a) /\ fs.length <= 1000 /\ dx ≠ a /\ h.get? a = some (PySem.W.instObj C dx) /\
   ∃ mA,h.Ns1 dx mA /\ (∀ f,RelO (fs.lookup f) (mA f)) /\ PySem.Within mA (fs.map (·.1))
 | .own _=>∃ o,h.get? a = some o
 | .xd fs=>∃ mA,h.Ns1 a mA /\ ∀ f,RelO (fs.lookup f) (mA f)
 | .rng lo hi=>∃ t u v,h.get? a = some { cls:=.type "range",data:=.fields #[.int lo t,.int hi u,.int 1 v] }
 | .frz o u=>h.get? a = some o /\ ObjOk H h a u
 | .tbl ps=>h.get? a = some { cls:=.none,data:=.fields ps }
 | .met f x=>h.get? a = some (PySem.W.methodObj (.ref f) (.ref x))
 | .ext φ=>φ h /\ (∃ o,h.get? a = some o) /\ ∀ h1 h2 : Heap,φ h1 -> (∀ o,h1.get? a = some o -> h2.get? a = some o) -> φ h2
def HOk (H : Hp) (h : Heap) : Prop:=∀ a o,H a = some o -> ObjOk P w H h a o
end
section
variable {P : Program} {w : World} {H H' : Hp} {h h' : Heap} {a : Addr} {o : HO}
theorem ObjOk.lt (x : ObjOk P w H h a o) : a < h.objs.size:=by
 cases o with
 | lst xs=>obtain ⟨_,_,_,_,e⟩:=x; exact Heap.lt_size e
 | tup xs=>obtain ⟨_,_,_,p⟩:=x; exact p.lt
 | dK kvs=>obtain ⟨_,_,_,_,o,_,_,e,_⟩:=x; exact Heap.lt_size e
 | dT xc kvs=>obtain ⟨_,_,_,_,o,_,_,e,_⟩:=x; exact Heap.lt_size e
 | set S n=>obtain ⟨o,_,_,_,e,_⟩:=x; exact Heap.lt_size e
 | ins C dx fs=>obtain ⟨_,_,_,e,_⟩:=x; exact Heap.lt_size e
 | own y=>obtain ⟨_,e⟩:=x; exact Heap.lt_size e
 | xd fs=>obtain ⟨_,⟨_,_,_,e,_⟩,_⟩:=x; exact Heap.lt_size e
 | rng lo hi=>obtain ⟨_,_,_,e⟩:=x; exact Heap.lt_size e
 | frz ob u=>obtain ⟨e,_⟩:=x; exact Heap.lt_size e
 | tbl ps=>exact Heap.lt_size (show h.get? a = some _ from x)
 | met f y=>exact Heap.lt_size (show h.get? a = some _ from x)
 | ext φ=>obtain ⟨_,⟨_,e⟩,_⟩:=x; exact Heap.lt_size e
theorem Paired.mapP {α β : Type} {F G : α -> β -> Prop} : ∀ {l₁ : List α} {l₂ : List β},Paired F l₁ l₂ -> (∀ a b,F a b -> G a b) -> Paired G l₁ l₂
 | _,_,.nil,_=>.nil
 | _,_,.cons r t,f=>.cons (f _ _ r) (Paired.mapP t f)
theorem ObjOk.stay (x : ObjOk P w H h a o) (k : ∀ b u,(b = a \/ H b = some (.own a)) -> h.get? b = some u -> h'.get? b = some u)
  (ho : ∀ b,H b = some (.own a) -> H' b = some (.own a)) (ht : ∀ b xs,H b = some (.tup xs) -> H' b = some (.tup xs)) : ObjOk P w H' h' a o:=by
 induction o with
 | lst xs=>obtain ⟨z,its,n,r,e⟩:=x; exact ⟨z,its,n,r,k _ _ (.inl rfl) e⟩
 | tup xs=>obtain ⟨z,its,r,ob,e,c⟩:=x; exact ⟨z,its,r,ob,k _ _ (.inl rfl) e,c⟩
 | dK kvs=>obtain ⟨z,y,vs,r,ob,es,ep,e,c⟩:=x; exact ⟨z,y,vs,r,ob,es,ep,k _ _ (.inl rfl) e,c⟩
 | dT xc kvs =>
  obtain ⟨z,y,xs,r,ob,es,ep,e,c⟩:=x
  exact ⟨z,y,xs,Paired.mapP r fun p q z=>⟨z.1,z.2.1.imp fun _ e=>⟨ht _ _ e.1,e.2⟩,z.2.2⟩,ob,es,ep,k _ _ (.inl rfl) e,c⟩
 | set S n=>obtain ⟨ob,es,ep,t,e,c⟩:=x; exact ⟨ob,es,ep,t,k _ _ (.inl rfl) e,c⟩
 | ins C dx fs =>
  obtain ⟨d,z,ne,e,mA,⟨od,es,ep,e2,c⟩,r⟩:=x
  exact ⟨ho _ d,z,ne,k _ _ (.inl rfl) e,mA,⟨od,es,ep,k _ _ (.inr d) e2,c⟩,r⟩
 | own y=>obtain ⟨ob,e⟩:=x; exact ⟨ob,k _ _ (.inl rfl) e⟩
 | xd fs=>obtain ⟨mA,⟨od,es,ep,e,c⟩,r⟩:=x; exact ⟨mA,⟨od,es,ep,k _ _ (.inl rfl) e,c⟩,r⟩
 | rng lo hi=>obtain ⟨t,u,v,e⟩:=x; exact ⟨t,u,v,k _ _ (.inl rfl) e⟩
 | frz ob u ih=>obtain ⟨e,q⟩:=x; exact ⟨k _ _ (.inl rfl) e,ih q⟩
 | tbl ps =>
  have e : h.get? a = some { cls:=.none,data:=.fields ps }:=x
  show h'.get? a = some { cls:=.none,data:=.fields ps }
  exact k a _ (.inl rfl) e
 | met f y =>
  have e : h.get? a = some (PySem.W.methodObj (.ref f) (.ref y)):=x
  show h'.get? a = some (PySem.W.methodObj (.ref f) (.ref y))
  exact k a _ (.inl rfl) e
 | ext φ=>obtain ⟨p,⟨o,e⟩,st⟩:=x; exact ⟨st _ _ p fun o q=>k _ _ (.inl rfl) q,⟨o,k _ _ (.inl rfl) e⟩,st⟩
theorem HOk.lt (x : HOk P w H h) (e : H a = some o) : a < h.objs.size:=(x a o e).lt
theorem HOk.fresh (x : HOk P w H h) (e : h.objs.size <= a) : H a = none:=by
 cases q : H a with
 | none=>rfl
 | some u=>exact absurd (Nat.lt_of_lt_of_le (x.lt q) e) (Nat.lt_irrefl _)
theorem HOk.kept (x : HOk P w H h) (k : ∀ b u,h.get? b = some u -> h'.get? b = some u) : HOk P w H h' := fun a o e =>
 (x a o e).stay (fun b u _ q=>k b u q) (fun _ q=>q) fun _ _ q=>q
theorem HOk.laid (x : HOk P w H h) (k : ∀ b u,h.get? b = some u -> h'.get? b = some u) (hp : h.objs.size <= a) (new : ObjOk P w (upd H a o) h' a o) : HOk P w (upd H a o) h' := fun b u e=>by
 have hn:=x.fresh hp
 by_cases hb : b = a
 ·subst hb; rw [zaf] at e; cases e; exact new
 ·rw [yal hb] at e
  exact (x b u e).stay (fun c v _ q=>k c v q) (fun c q=>by rw [yal (zaj q hn)]; exact q) fun c xs q=>by rw [yal (zaj q hn)]; exact q
end
def Rd (H : Hp) (a : Addr) (u : HO) : Prop:=H a = some u \/ ∃ o,H a = some (.frz o u)
theorem Rd.ok {P : Program} {w : World} {H : Hp} {h : Heap} {a : Addr} {u : HO} (r : Rd H a u) (x : HOk P w H h) : ObjOk P w H h a u:=by
 rcases r with r | ⟨o,r⟩
 ·exact x a u r
 ·obtain ⟨_,q⟩:=x a _ r
  exact q
def Mut : Option HO -> Prop
 | some (.lst _)=>True
 | some (.dK _)=>True
 | some (.dT _ _)=>True
 | some (.set _ _)=>True
 | some (.ins _ _ _)=>True
 | some (.ext _)=>True
 | _=>False
section
variable {P : Program} {w : World} {H : Hp} {h h' : Heap} {x e : Addr} {o' : HO}
theorem HOk.write (ok : HOk P w H h) (mu : Mut (H x)) (he : e = x \/ H e = some (.own x)) (k : ∀ b u,b ≠ e -> h.get? b = some u -> h'.get? b = some u) (heo : ∃ u,h'.get? e = some u)
  (new : ObjOk P w (upd H x o') h' x o') : HOk P w (upd H x o') h' := fun b u q=>by
 have nown : ∀ c y,H c = some (.own y) -> c ≠ x:=fun c y r z=>by subst z; rw [r] at mu; exact mu
 have ntup : ∀ c xs,H c = some (.tup xs) -> c ≠ x:=fun c xs r z=>by subst z; rw [r] at mu; exact mu
 by_cases hb : b = x
 ·subst hb; rw [zaf] at q; cases q; exact new
 ·rw [yal hb] at q
  by_cases hbe : b = e
  ·have q' : H b = some (.own x):=by
    rcases he with z | z
    ·exact absurd (hbe.trans z) hb
    ·rw [hbe]; exact z
   rw [q] at q'; cases q'
   obtain ⟨v,hv⟩:=heo
   exact ⟨v,by rw [hbe]; exact hv⟩
  ·refine (ok b u q).stay (fun c v hc r=>k c v ?_ r) (fun c r=>by rw [yal (nown c b r)]; exact r) fun c xs r=>by rw [yal (ntup c xs r)]; exact r
   rcases hc with rfl | hc
   ·exact hbe
   ·rintro rfl
    rcases he with z | z
    ·exact nown c b hc z
    ·rw [hc] at z; cases z; exact hb rfl
end
structure Un (fs ex : List Addr) (H H' : Hp) (h h' : Heap) : Prop where
 keep : ∀ b o,h.get? b = some o -> H b = none -> b ∉ fs -> b ∉ ex -> h'.get? b = some o
 slot : ∀ b o,h.get? b = some o -> H b = none -> b ∈ fs -> b ∉ ex -> ∃ sl,h'.get? b = some { o with slots:=sl }
 free : ∀ b o,h.get? b = some o -> H b = none -> b ∉ ex -> H' b = none
 there : ∀ b o,h.get? b = some o -> b ∉ ex -> ∃ o',h'.get? b = some o'
 tups : ∀ b xs,H b = some (.tup xs) -> H' b = some (.tup xs)
 frzs : ∀ b o u,H b = some (.frz o u) -> H' b = some (.frz o u)
 tbls : ∀ b ps,H b = some (.tbl ps) -> ∃ more,H' b = some (.tbl (ps++more))
section
variable {fs fs' ex ex' : List Addr} {H H1 H2 : Hp} {h h1 h2 h' : Heap} {a x e : Addr} {o : HO}
theorem Un.any (u : Un fs ex H H1 h h1) {b : Addr} {ob : Obj} (q : h.get? b = some ob) (n : H b = none) (hx : b ∉ ex) : ∃ sl,h1.get? b = some { ob with slots:=sl }:=by
 by_cases hb : b ∈ fs
 ·exact u.slot b ob q n hb hx
 ·exact ⟨ob.slots,u.keep b ob q n hb hx⟩
theorem Un.kept (k : ∀ b u,h.get? b = some u -> h'.get? b = some u) : Un fs ex H H h h' :=
 ⟨fun b ob q _ _ _=>k b ob q,fun b ob q _ _ _=>⟨ob.slots,k b ob q⟩,fun _ _ _ n _=>n,fun b ob q _=>⟨ob,k b ob q⟩,fun _ _ q=>q,fun _ _ _ q=>q,fun _ ps q=>⟨#[],by rw [q]; simp⟩⟩
theorem Un.refl : Un fs ex H H h h:=Un.kept fun _ _ q=>q
theorem Un.laid (k : ∀ b u,h.get? b = some u -> h'.get? b = some u) (hp : h.objs.size <= a) (hn : H a = none) : Un fs ex H (upd H a o) h h' where
 keep:=fun b u q _ _ _=>k b u q
 slot:=fun b u q _ _ _=>⟨u.slots,k b u q⟩
 free:=fun b u q n _=>by rw [yal (Nat.ne_of_lt (Nat.lt_of_lt_of_le (Heap.lt_size q) hp))]; exact n
 there:=fun b u q _=>⟨u,k b u q⟩
 tups:=fun b xs q=>by rw [yal (zaj q hn)]; exact q
 frzs:=fun b u xs q=>by rw [yal (zaj q hn)]; exact q
 tbls:=fun b ps q=>⟨#[],by rw [yal (zaj q hn),q]; simp⟩
theorem Un.write (mu : Mut (H x)) (he : e = x \/ H e = some (.own x)) (k : ∀ b u,b ≠ e -> h.get? b = some u -> h'.get? b = some u) (heo : ∃ u,h'.get? e = some u) : Un fs ex H (upd H x o) h h' := by
 have hx : ∀ b,H b = none -> b ≠ x:=fun b n z=>by subst z; rw [n] at mu; exact mu
 have hb : ∀ b,H b = none -> b ≠ e:=fun b n z=>by
  subst z
  rcases he with r | r
  ·exact hx b n r
  ·rw [n] at r; cases r
 have hm : ∀ b u,H b = some u -> ¬ Mut (some u) -> b ≠ x:=fun b u q nm z=>by subst z; rw [q] at mu; exact nm mu
 refine ⟨fun b u q n _ _=>k b u (hb b n) q,fun b u q n _ _=>⟨u.slots,k b u (hb b n) q⟩,fun b u q n _=>by rw [yal (hx b n)]; exact n,fun b u q _=>?_,
  fun b xs q=>by rw [yal (hm b _ q fun z=>z)]; exact q,fun b u xs q=>by rw [yal (hm b _ q fun z=>z)]; exact q,fun b ps q=>⟨#[],by rw [yal (hm b _ q fun z=>z),q]; simp⟩⟩
 by_cases hbe : b = e
 ·subst hbe; exact heo
 ·exact ⟨u,k b u hbe q⟩
end
def trk (h : Heap) (H : Hp) : List Addr:=(List.range h.objs.size).filter fun a=>(H a).isSome
def hidT (h : Heap) (H : Hp) : Heap:=PySem.W.hideAll h (trk h H)
theorem zf7 (h : Heap) (H : Hp) : (hidT h H).objs.size = h.objs.size:=PySem.W.hideAll_size _ _
theorem zg3 {h : Heap} {H : Hp} {b : Addr} {o : Obj} (e : h.get? b = some o) (n : H b = none) : (hidT h H).get? b = some o :=
 PySem.W.hideAll_get _ e fun hm=>by
  have q : (H b).isSome = true:=(List.mem_filter.mp hm).2
  rw [n] at q; simp at q
theorem zhX {h : Heap} {H : Hp} {b : Addr} {o : Obj} (e : (hidT h H).get? b = some o) : h.get? b = some o /\ H b = none:=by
 have e' : h.get? b = some o:=PySem.W.of_hideAll (trk h H) e
 refine ⟨e',?_⟩
 cases q : H b with
 | none=>rfl
 | some x =>
  have hm : b ∈ trk h H:=List.mem_filter.mpr ⟨List.mem_range.mpr (Heap.lt_size e'),by simp [q]⟩
  have z : (hidT h H).get? b = none:=PySem.W.hideAll_none (trk h H) hm
  rw [z] at e; cases e
end L2
namespace L2
open PySem PySem.Spec PyProof.Rows
structure Mod (K : PySem.W.Frag) (mg : Str -> Option Value) (base : Heap) : Prop where
 kin : K.In base
 glob : base.Ns mainGlobals mg
 blt : ∃ mb,base.Ns builtinsNs mb /\ ∀ x : Str,x ≠ "__name__" -> mb x = bootBuiltins x
 nolimit : base.NoLimit
structure Cx where
 prog : Program
 w : World
 K : PySem.W.Frag
 mg : Str -> Option Value
 base : Heap
 A : Around
 N : List Str
 s₀ : Shared
 H₀ : Hp
 env : Env
 outer : List Env
 stack : List Env
 ex : List Addr
 fn : Str -> Bool
 calm : Bool
 pn : List (Addr × Obj)
 xe : Value -> Shared -> Prop
def frs (l : List Env) : List Addr:=l.filterMap (·.frame)
abbrev Cx.fs (X : Cx) : List Addr:=frs X.outer
def Vis (sc : Scope) (x : Str) : Prop:=sc.names.lookup x = some .local \/ sc.names.lookup x = some .cell \/ sc.names.lookup x = some .free
def Loc (sc : Scope) (x : Str) : Prop:=sc.names.lookup x = some .local \/ sc.names.lookup x = some .cell
def Look (env : Env) (h : Heap) (m : Str -> Option Value) (x : Str) (u : Value) : Prop :=
 (env.kindOf x = some .local /\ m x = some u) \/ ((env.kindOf x = some .cell \/ env.kindOf x = some .free) /\ ∃ c,env.cells.lookup x = some c /\ h.IsCell c (some u))
structure Cx.Ok (X : Cx) : Prop where
 mod : Mod X.K X.mg X.base
 kind : X.env.scope.kind = .function
 glob : X.env.globals = mainGlobals
 blt : X.env.builtins = builtinsNs
 above : X.s₀.heap.objs.size <= X.env.locals
 inj : ∀ x y c,X.env.cells.lookup x = some c -> X.env.cells.lookup y = some c -> x = y
 has : ∀ x,(X.env.kindOf x = some .cell \/ X.env.kindOf x = some .free) -> ∃ c,X.env.cells.lookup x = some c
 cab : ∀ x c,X.fn x = true -> X.env.cells.lookup x = some c -> X.s₀.heap.objs.size <= c
 hd : X.calm = true -> X.A.handled = none
 frames : X.A.frames = some X.stack
 stk : X.stack = X.outer \/ (X.stack = X.env :: X.outer /\ X.env.frame = some X.env.locals)
 exf : ∀ b ∈ X.ex,b ≠ X.env.locals /\ ∀ x c,X.env.cells.lookup x = some c -> c ≠ b
 bs : ∀ b o,X.base.get? b = some o -> X.s₀.heap.get? b = some o /\ X.H₀ b = none
 bsz : X.base.objs.size <= X.s₀.heap.objs.size
 noex : ∀ b o,X.base.get? b = some o -> b ∉ X.ex
 exfs : ∀ b ∈ X.ex,b ∉ X.fs
 funs : X.s₀.heap.FunFrames X.base X.outer
 frf : ∀ b ∈ X.fs,X.H₀ b = none
structure Inv (X : Cx) (pins : List (Addr × Obj)) (σ : List (Option V)) (H : Hp) (s : Shared) : Prop where
 ok : X.Ok
 os : s.os = X.s₀.os
 bare : AllBare s.gens
 base : Un X.fs X.ex X.H₀ H X.s₀.heap s.heap
 loc : ∃ m,s.heap.Ns X.env.locals m /\ ∀ (i : Nat) (x : Str) (v : V),X.N[i]? = some x -> σ[i]? = some (some v) -> Vis X.env.scope x -> ∃ u,RelV v u /\ Look X.env s.heap m x u
 cell : ∀ x c,X.env.cells.lookup x = some c -> ∃ v,s.heap.IsCell c v
 free : H X.env.locals = none
 freeC : ∀ x c,X.env.cells.lookup x = some c -> H c = none
 pin : ∀ p ∈ X.pn++pins,s.heap.get? p.1 = some p.2 /\ H p.1 = none /\ p.1 ≠ X.env.locals /\ p.1 ∉ X.fs /\ ∀ v,p.2.data ≠ .cell v
 hok : HOk X.prog X.w H s.heap
 len : σ.length = X.N.length
section
variable {X : Cx} {pins : List (Addr × Obj)} {σ : List (Option V)} {H H' : Hp} {s : Shared} {h' : Heap}
theorem Cx.Ok.nofr (ok : X.Ok) {b : Addr} {o : Obj} (e : X.base.get? b = some o) : b ∉ X.fs:=fun hb=>by
 have:=(ok.funs.mem hb).1
 rw [e] at this; cases this
theorem Inv.bs (I : Inv X pins σ H s) : ∀ b o,X.base.get? b = some o -> s.heap.get? b = some o /\ H b = none:=fun b o e =>
 ⟨I.base.keep b o (I.ok.bs b o e).1 (I.ok.bs b o e).2 (I.ok.nofr e) (I.ok.noex b o e),I.base.free b o (I.ok.bs b o e).1 (I.ok.bs b o e).2 (I.ok.noex b o e)⟩
theorem Inv.bk (I : Inv X pins σ H s) : ∀ b o,X.base.get? b = some o -> s.heap.get? b = some o:=fun b o e=>(I.bs b o e).1
theorem Inv.mod (I : Inv X pins σ H s) : Mod X.K X.mg X.base:=I.ok.mod
theorem Inv.kIn (I : Inv X pins σ H s) : X.K.In s.heap:=I.ok.mod.kin.keeps I.bk
theorem Inv.fr (I : Inv X pins σ H s) : ∃ m,Fr X.base X.env.locals s.heap m :=
 let ⟨m,hn,_⟩:=I.loc
 ⟨m,hn,I.bk,Nat.le_trans I.ok.bsz I.ok.above⟩
theorem Inv.lt (I : Inv X pins σ H s) : X.env.locals < s.heap.objs.size:=let ⟨_,hn,_⟩:=I.loc; hn.lt
theorem Inv.sz (I : Inv X pins σ H s) : X.s₀.heap.objs.size <= s.heap.objs.size:=Nat.le_trans I.ok.above (Nat.le_of_lt I.lt)
theorem Inv.nofs (I : Inv X pins σ H s) {a : Addr} (h : s.heap.objs.size <= a) : a ∉ X.fs:=fun hb=>by
 obtain ⟨_,o,ho,_⟩:=I.ok.funs.mem hb
 exact absurd (Nat.lt_of_lt_of_le (Heap.lt_size ho) (Nat.le_trans I.sz h)) (Nat.lt_irrefl _)
theorem Inv.cne (I : Inv X pins σ H s) : ∀ x c,X.env.cells.lookup x = some c -> c ≠ X.env.locals:=fun x c e z=>by
 obtain ⟨v,o,ho,hd⟩:=I.cell x c e
 obtain ⟨m,⟨o',es,ep,ho',hd',_⟩,_⟩:=I.loc
 rw [z,ho'] at ho; cases ho; rw [hd'] at hd; cases hd
theorem Inv.funs (I : Inv X pins σ H s) : s.heap.FunFrames X.base X.outer:=by
 have all : ∀ (l : List Env),(∀ b ∈ frs l,b ∈ X.fs) -> X.s₀.heap.FunFrames X.base l -> s.heap.FunFrames X.base l:=by
  intro l
  induction l with
  | nil=>intro _ _; trivial
  | cons env r ih =>
   intro hs hl
   obtain ⟨hk,⟨L,o,hf,hn,ho,hd⟩,hr⟩:=hl
   have hL : L ∈ X.fs:=hs L (by unfold frs; rw [List.filterMap_cons,hf]; exact List.mem_cons_self)
   obtain ⟨sl,e⟩:=I.base.slot L o ho (I.ok.frf L hL) hL fun z=>I.ok.exfs L z hL
   exact ⟨hk,⟨L,_,hf,hn,e,hd⟩,ih (fun b hb=>hs b (by unfold frs; rw [List.filterMap_cons,hf]; exact List.mem_cons_of_mem _ hb)) hr⟩
 exact all X.outer (fun _ hb=>hb) I.ok.funs
theorem Inv.stack (I : Inv X pins σ H s) : s.heap.FunFrames X.base X.stack:=by
 rcases I.ok.stk with e | ⟨e,hf⟩
 ·rw [e]; exact I.funs
 ·rw [e]
  obtain ⟨m,hn,_⟩:=I.loc
  refine .cons (by rw [I.ok.kind]; decide) hf hn ?_ I.funs
  exact Heap.get?_none_of_le (Nat.le_trans I.ok.bsz I.ok.above)
theorem Inv.stkSub (I : Inv X pins σ H s) : ∀ b ∈ frs X.stack,b ∈ X.env.locals :: X.fs:=fun b hb=>by
 rcases I.ok.stk with e | ⟨e,hf⟩
 ·rw [e] at hb; exact List.mem_cons_of_mem _ hb
 ·rw [e] at hb
  unfold frs at hb
  rw [List.filterMap_cons,hf] at hb
  exact hb
theorem Inv.stkFree (I : Inv X pins σ H s) : ∀ b ∈ frs X.stack,H b = none:=fun b hb=>by
 rcases List.mem_cons.mp (I.stkSub b hb) with e | hb
 ·rw [e]; exact I.free
 ·obtain ⟨_,o,ho,_⟩:=I.ok.funs.mem hb
  exact I.base.free b o ho (I.ok.frf b hb) fun z=>I.ok.exfs b z hb
theorem Inv.step {g' : Array GenState} {t' : Nat} {d' : Drawn} {ch : List Addr} (I : Inv X pins σ H s)
  (hch : ∀ b ∈ ch,(b ∈ X.ex \/ X.s₀.heap.objs.size <= b) /\ b ≠ X.env.locals /\ (∀ x c,X.env.cells.lookup x = some c -> c ≠ b) /\ ∀ p ∈ X.pn++pins,p.1 ≠ b)
  (keep : ∀ b o,b ≠ X.env.locals -> b ∉ X.fs -> b ∉ ch -> s.heap.get? b = some o -> H b = none -> h'.get? b = some o)
  (slot : ∀ b o,b ≠ X.env.locals -> b ∈ X.fs -> b ∉ ch -> s.heap.get? b = some o -> H b = none -> ∃ sl,h'.get? b = some { o with slots:=sl }) (free : ∀ b o,b ∉ ch -> s.heap.get? b = some o -> H b = none -> H' b = none)
  (there : ∀ b o,b ∉ ch -> s.heap.get? b = some o -> ∃ o',h'.get? b = some o')
  (tups : ∀ b xs,H b = some (.tup xs) -> H' b = some (.tup xs)) (frzs : ∀ b o u,H b = some (.frz o u) -> H' b = some (.frz o u)) (tbls : ∀ b ps,H b = some (.tbl ps) -> ∃ more,H' b = some (.tbl (ps++more)))
  (ns : ∀ m,s.heap.Ns X.env.locals m -> h'.Ns X.env.locals m) (hok : HOk X.prog X.w H' h') (hg : AllBare g') :
  Inv X pins σ H' { s with heap:=h',gens:=g',drawn:=d',toks:=t' }:=by
 have neL : ∀ b o,X.s₀.heap.get? b = some o -> b ≠ X.env.locals:=fun b o e=>Nat.ne_of_lt (Nat.lt_of_lt_of_le (Heap.lt_size e) I.ok.above)
 have neC : ∀ b o,X.s₀.heap.get? b = some o -> b ∉ X.ex -> b ∉ ch:=fun b o e hx hb=>by
  rcases (hch b hb).1 with z | z
  ·exact hx z
  ·exact absurd (Nat.lt_of_lt_of_le (Heap.lt_size e) z) (Nat.lt_irrefl _)
 have cellK : ∀ x c,X.env.cells.lookup x = some c -> ∀ v,s.heap.IsCell c v -> h'.IsCell c v:=fun x c e v ⟨o,ho,hd⟩=>by
  have nch : c ∉ ch:=fun z=>(hch c z).2.2.1 x c e rfl
  by_cases hc : c ∈ X.fs
  ·obtain ⟨sl,q⟩:=slot c o (I.cne x c e) hc nch ho (I.freeC x c e)
   exact ⟨_,q,hd⟩
  ·exact ⟨o,keep c o (I.cne x c e) hc nch ho (I.freeC x c e),hd⟩
 refine ⟨I.ok,I.os,hg,⟨fun b o e n hb hx=>?_,fun b o e n hb hx=>?_,fun b o e n hx=>?_,fun b o e hx=>?_,fun b xs e=>tups b xs (I.base.tups b xs e),fun b o xs e=>frzs b o xs (I.base.frzs b o xs e),fun b ps e=>?_⟩,?_,fun x c e=>?_,?_,fun x c e=>?_,fun p hp=>?_,hok,I.len⟩
 ·exact keep b o (neL b o e) hb (neC b o e hx) (I.base.keep b o e n hb hx) (I.base.free b o e n hx)
 ·obtain ⟨sl,e1⟩:=I.base.slot b o e n hb hx
  obtain ⟨sl',e2⟩:=slot b _ (neL b o e) hb (neC b o e hx) e1 (I.base.free b o e n hx)
  exact ⟨sl',e2⟩
 ·obtain ⟨o',e1⟩:=I.base.there b o e hx
  exact free b o' (neC b o e hx) e1 (I.base.free b o e n hx)
 ·obtain ⟨o',e1⟩:=I.base.there b o e hx
  exact there b o' (neC b o e hx) e1
 ·obtain ⟨m1,e1⟩:=I.base.tbls b ps e
  obtain ⟨m2,e2⟩:=tbls b _ e1
  exact ⟨m1++m2,by rw [e2,Array.append_assoc]⟩
 ·obtain ⟨m,hn,hl⟩:=I.loc
  refine ⟨m,ns m hn,fun i x v e1 e2 e3=>?_⟩
  obtain ⟨u,r,l⟩:=hl i x v e1 e2 e3
  refine ⟨u,r,?_⟩
  rcases l with l | ⟨k,c,e,z⟩
  ·exact .inl l
  ·exact .inr ⟨k,c,e,cellK x c e _ z⟩
 ·obtain ⟨v,z⟩:=I.cell x c e
  exact ⟨v,cellK x c e v z⟩
 ·obtain ⟨m,⟨o,_,_,ho,_⟩,_⟩:=I.loc
  exact free _ o (fun z=>(hch _ z).2.1 rfl) ho I.free
 ·obtain ⟨v,o,ho,hd⟩:=I.cell x c e
  exact free c o (fun z=>(hch c z).2.2.1 x c e rfl) ho (I.freeC x c e)
 ·obtain ⟨e,n,ne,nf,d⟩:=I.pin p hp
  have nch : p.1 ∉ ch:=fun z=>(hch p.1 z).2.2.2 p hp rfl
  exact ⟨keep p.1 p.2 ne nf nch e n,free p.1 p.2 nch e n,ne,nf,d⟩
theorem Inv.un {t' : Nat} (I : Inv X pins σ H s) (u : Un X.fs [] H H' s.heap h') (hok : HOk X.prog X.w H' h') : Inv X pins σ H' { s with heap:=h',toks:=t' }:=by
 obtain ⟨m,⟨o,es,ep,ho,r⟩,_⟩:=id I.loc
 obtain ⟨sl,hL⟩:=u.any ho I.free (by simp)
 exact I.step (g' := s.gens) (d' := s.drawn) (ch:=[]) (fun _ z=>nomatch z) (fun b o _ hb _ e n=>u.keep b o e n hb (by simp)) (fun b o _ hb _ e n=>u.slot b o e n hb (by simp)) (fun b o _ e n=>u.free b o e n (by simp)) (fun b o _ e=>u.there b o e (by simp)) u.tups u.frzs u.tbls (fun m' hm=>by
  obtain ⟨o',es',ep',ho',r'⟩:=hm
  rw [ho] at ho'; cases ho'
  exact ⟨_,es',ep',hL,r'⟩) hok I.bare
theorem Inv.call {g' : Array GenState} {t' : Nat} {d' : Drawn} {ch : List Addr} (I : Inv X pins σ H s) (u : Un (frs X.stack) ch H H' s.heap h') (hok : HOk X.prog X.w H' h') (hg : AllBare g')
  (hch : ∀ b ∈ ch,(b ∈ X.ex \/ X.s₀.heap.objs.size <= b) /\ b ≠ X.env.locals /\ (∀ x c,X.env.cells.lookup x = some c -> c ≠ b) /\ ∀ p ∈ X.pn++pins,p.1 ≠ b) :
  Inv X pins σ H' { s with heap:=h',gens:=g',drawn:=d',toks:=t' }:=by
 obtain ⟨m,⟨o,es,ep,ho,r⟩,_⟩:=id I.loc
 obtain ⟨sl,hL⟩:=u.any ho I.free fun z=>(hch _ z).2.1 rfl
 exact I.step (ch:=ch) hch (fun b o hL hb hc e n=>u.keep b o e n (fun z=>(List.mem_cons.mp (I.stkSub b z)).elim hL hb) hc) (fun b o _ _ hc e n=>u.any e n hc) (fun b o hc e n=>u.free b o e n hc) (fun b o hc e=>u.there b o e hc) u.tups u.frzs u.tbls (fun m' hm=>by
  obtain ⟨o',es',ep',ho',r'⟩:=hm
  rw [ho] at ho'; cases ho'
  exact ⟨_,es',ep',hL,r'⟩) hok hg
theorem Inv.turned {t' : Nat} {it : Addr} (I : Inv X pins σ H s) (k : ∀ b o,b ≠ it -> s.heap.get? b = some o -> h'.get? b = some o) (hn : H it = none) (hL : it ≠ X.env.locals)
  (h1 : it ∈ X.ex \/ X.s₀.heap.objs.size <= it) (h2 : ∀ x c,X.env.cells.lookup x = some c -> c ≠ it) (h3 : ∀ p ∈ X.pn++pins,p.1 ≠ it) : Inv X pins σ H { s with heap:=h',toks:=t' }:=by
 have nit : ∀ b u,H b = some u -> b ≠ it:=fun b u e z=>by rw [z,hn] at e; cases e
 refine I.step (g' := s.gens) (d' := s.drawn) (ch:=[it]) (fun b hb=>?_) (fun b o _ _ hc e _=>k b o (fun z=>hc (by simp [z])) e) (fun b o _ _ hc e _=>⟨o.slots,k b o (fun z=>hc (by simp [z])) e⟩) (fun _ _ _ _ n=>n)
  (fun b o hc e=>⟨o,k b o (fun z=>hc (by simp [z])) e⟩) (fun _ _ e=>e) (fun _ _ _ e=>e) (fun b ps e=>⟨#[],by rw [e]; simp⟩) (fun m hm=>?_) (fun b u e=>?_) I.bare
 ·have e : b = it:=by simpa using hb
  subst e
  exact ⟨h1,hL,h2,h3⟩
 ·obtain ⟨o,es,ep,ho,r⟩:=hm
  exact ⟨o,es,ep,k _ o (Ne.symm hL) ho,r⟩
 ·refine (I.hok b u e).stay (fun c v hc q=>k c v ?_ q) (fun _ q=>q) fun _ _ q=>q
  rcases hc with z | z
  ·rw [z]; exact nit b u e
  ·exact nit c _ z
theorem Inv.tok (I : Inv X pins σ H s) (t : Nat) : Inv X pins σ H { s with toks:=t }:=I.un (h' := s.heap) (t' := t) Un.refl I.hok
theorem Inv.kept {t' : Nat} (I : Inv X pins σ H s) (k : ∀ b u,s.heap.get? b = some u -> h'.get? b = some u) : Inv X pins σ H { s with heap:=h',toks:=t' }:=I.un (Un.kept k) (I.hok.kept k)
theorem Inv.laid {a : Addr} {o : HO} {t' : Nat} (I : Inv X pins σ H s) (k : ∀ b u,s.heap.get? b = some u -> h'.get? b = some u) (hp : s.heap.objs.size <= a) (new : ObjOk X.prog X.w (upd H a o) h' a o) :
  Inv X pins σ (upd H a o) { s with heap:=h',toks:=t' }:=I.un (Un.laid k hp (I.hok.fresh hp)) (I.hok.laid k hp new)
theorem Inv.write {x e : Addr} {o : HO} {t' : Nat} (I : Inv X pins σ H s) (mu : Mut (H x)) (he : e = x \/ H e = some (.own x)) (k : ∀ b u,b ≠ e -> s.heap.get? b = some u -> h'.get? b = some u) (heo : ∃ u,h'.get? e = some u)
  (new : ObjOk X.prog X.w (upd H x o) h' x o) : Inv X pins σ (upd H x o) { s with heap:=h',toks:=t' }:=I.un (Un.write mu he k heo) (I.hok.write mu he k heo new)
theorem Inv.weak {σ' : List (Option V)} (I : Inv X pins σ H s) (hl : σ'.length = σ.length) (w : ∀ (i : Nat) v,σ'[i]? = some (some v) -> σ[i]? = some (some v)) : Inv X pins σ' H s :=
 ⟨I.ok,I.os,I.bare,I.base,let ⟨m,hn,hl'⟩:=I.loc; ⟨m,hn,fun i x v e1 e2 e3=>hl' i x v e1 (w i v e2) e3⟩,I.cell,I.free,I.freeC,I.pin,I.hok,hl.trans I.len⟩
theorem Inv.pins_of {pins' : List (Addr × Obj)} (I : Inv X pins σ H s) (h : ∀ p ∈ pins',s.heap.get? p.1 = some p.2 /\ H p.1 = none /\ p.1 ≠ X.env.locals /\ p.1 ∉ X.fs /\ ∀ v,p.2.data ≠ .cell v) : Inv X pins' σ H s :=
 ⟨I.ok,I.os,I.bare,I.base,I.loc,I.cell,I.free,I.freeC,fun p hp=>(List.mem_append.mp hp).elim (fun z=>I.pin p (List.mem_append_left _ z)) (h p),I.hok,I.len⟩
theorem zco {N : List Str} (hN : N.Nodup) {i j : Nat} {x : Str} (a : N[i]? = some x) (b : N[j]? = some x) : i = j:=by
 obtain ⟨h1,e1⟩:=List.getElem?_eq_some_iff.mp a
 obtain ⟨h2,e2⟩:=List.getElem?_eq_some_iff.mp b
 exact (List.getElem_inj hN).mp (e1.trans e2.symm)
theorem zdo {M : Model} {A : Around} {E : Value -> Shared -> Prop} {i : Nat} {x : Str} {v : V} {u : Value} {Q : Unit -> Shared -> Prop} (I : Inv X pins σ H s) (hN : X.N.Nodup) (hi : X.N[i]? = some x) (hx : Loc X.env.scope x) (r : RelV v u)
  (h : ∀ s',Inv X pins (σ.set i (some v)) H s' -> (∃ a,Heap.SameBut a s.heap s'.heap /\ (a = X.env.locals \/ X.env.cells.lookup x = some a)) -> Q () s') (hf : X.fn x = true \/ X.env.scope.names.lookup x = some .local:=by first | exact .inl rfl | exact .inr rfl | assumption) : wpAny M A (storeName X.env x u) Q E s:=by
 obtain ⟨m,hn,hl⟩:=id I.loc
 have hcls : (X.env.scope.kind == .class || (X.env.scope.kind == .module && X.env.locals != X.env.globals)) = false:=by rw [I.ok.kind]; rfl
 have hiσ : i < σ.length:=by rw [I.len]; exact (List.getElem?_eq_some_iff.mp hi).1
 have cne:=I.cne
 have tracked : ∀ {a : Addr} {h' : Heap},(∃ o,s.heap.get? a = some o /\ H a = none) -> Heap.SameBut a s.heap h' -> HOk X.prog X.w H h' := fun {a h'} ha hs b ob e=>by
  obtain ⟨_,_,hfree⟩:=ha
  refine (I.hok b ob e).stay (fun c w' hc q=>(hs.2 c ?_).trans q) (fun _ q=>q) fun _ _ q=>q
  rintro rfl
  rcases hc with rfl | hc
  ·rw [hfree] at e; cases e
  ·rw [hfree] at hc; cases hc
 rcases hx with hk | hk
 ·refine wpAny_storeName_local hk hn (fun h' hn' hs=>?_) hcls
  obtain ⟨oL,_,_,hoL,_⟩:=id hn
  refine h _ ⟨I.ok,I.os,I.bare,⟨fun b o e n hb hx=>?_,fun b o e n hb hx=>?_,I.base.free,fun b o e hx=>?_,I.base.tups,I.base.frzs,I.base.tbls⟩,⟨_,hn',fun j y v' e1 e2 e3=>?_⟩,fun y c e=>?_,I.free,I.freeC,fun p hp=>?_,tracked ⟨oL,hoL,I.free⟩ hs,by simpa using I.len⟩ ⟨_,hs,.inl rfl⟩
  ·exact (hs.2 b (Nat.ne_of_lt (Nat.lt_of_lt_of_le (Heap.lt_size e) I.ok.above))).trans (I.base.keep b o e n hb hx)
  ·obtain ⟨sl,e1⟩:=I.base.slot b o e n hb hx
   exact ⟨sl,(hs.2 b (Nat.ne_of_lt (Nat.lt_of_lt_of_le (Heap.lt_size e) I.ok.above))).trans e1⟩
  ·obtain ⟨o',e1⟩:=I.base.there b o e hx
   exact ⟨o',(hs.2 b (Nat.ne_of_lt (Nat.lt_of_lt_of_le (Heap.lt_size e) I.ok.above))).trans e1⟩
  ·by_cases hj : j = i
   ·subst hj
    rw [hi] at e1; cases e1
    rw [List.getElem?_set_self hiσ] at e2
    cases e2
    exact ⟨u,r,.inl ⟨hk,by simp⟩⟩
   ·rw [List.getElem?_set_ne (Ne.symm hj)] at e2
    obtain ⟨u',r',q⟩:=hl j y v' e1 e2 e3
    refine ⟨u',r',?_⟩
    rcases q with ⟨k,e⟩ | ⟨k,c,e,z⟩
    ·refine .inl ⟨k,?_⟩
     have : y ≠ x:=fun e=>hj (zco hN e1 (e ▸ hi))
     simp [this,e]
    ·exact .inr ⟨k,c,e,z.sameBut hs (cne y c e)⟩
  ·obtain ⟨w',z⟩:=I.cell y c e
   exact ⟨w',z.sameBut hs (cne y c e)⟩
  ·obtain ⟨e,n,ne,nf,d⟩:=I.pin p hp
   exact ⟨(hs.2 p.1 ne).trans e,n,ne,nf,d⟩
 ·have hfn : X.fn x = true:=by
   rcases hf with z | z
   ·exact z
   ·rw [z] at hk; cases hk
  obtain ⟨c,hc⟩:=I.ok.has x (.inl hk)
  obtain ⟨w',z⟩:=I.cell x c hc
  refine wpAny_storeName_cell I.ok.kind hk hc z (fun h' hc' hs=>?_)
  obtain ⟨oc,hoc,hocd⟩:=id z
  refine h { s with heap:=h' } ⟨I.ok,I.os,I.bare,⟨fun b o e n hb hx=>?_,fun b o e n hb hx=>?_,I.base.free,fun b o e hx=>?_,I.base.tups,I.base.frzs,I.base.tbls⟩,⟨m,hn.sameBut hs (Ne.symm (cne x c hc)),fun j y v' e1 e2 e3=>?_⟩,fun y c' e=>?_,I.free,I.freeC,fun p hp=>?_,tracked ⟨oc,hoc,I.freeC x c hc⟩ hs,by simpa using I.len⟩ ⟨c,hs,.inr hc⟩
  ·exact (hs.2 b (Nat.ne_of_lt (Nat.lt_of_lt_of_le (Heap.lt_size e) (I.ok.cab x c hfn hc)))).trans (I.base.keep b o e n hb hx)
  ·obtain ⟨sl,e1⟩:=I.base.slot b o e n hb hx
   exact ⟨sl,(hs.2 b (Nat.ne_of_lt (Nat.lt_of_lt_of_le (Heap.lt_size e) (I.ok.cab x c hfn hc)))).trans e1⟩
  ·obtain ⟨o',e1⟩:=I.base.there b o e hx
   exact ⟨o',(hs.2 b (Nat.ne_of_lt (Nat.lt_of_lt_of_le (Heap.lt_size e) (I.ok.cab x c hfn hc)))).trans e1⟩
  ·by_cases hj : j = i
   ·subst hj
    rw [hi] at e1; cases e1
    rw [List.getElem?_set_self hiσ] at e2
    cases e2
    exact ⟨u,r,.inr ⟨.inl hk,c,hc,hc'⟩⟩
   ·rw [List.getElem?_set_ne (Ne.symm hj)] at e2
    obtain ⟨u',r',q⟩:=hl j y v' e1 e2 e3
    refine ⟨u',r',?_⟩
    rcases q with q | ⟨k,c',e,z'⟩
    ·exact .inl q
    ·refine .inr ⟨k,c',e,z'.sameBut hs ?_⟩
     rintro rfl
     exact hj (zco hN e1 (I.ok.inj _ _ _ e hc ▸ hi))
  ·by_cases hcc : c' = c
   ·subst hcc; exact ⟨_,hc'⟩
   ·obtain ⟨w2,z2⟩:=I.cell y c' e
    exact ⟨w2,z2.sameBut hs hcc⟩
  ·obtain ⟨e,n,ne,nf,d⟩:=I.pin p hp
   refine ⟨(hs.2 p.1 ?_).trans e,n,ne,nf,d⟩
   intro q
   rw [q,hoc] at e
   have q' : oc = p.2:=Option.some.inj e
   exact d w' (by rw [<- q']; exact hocd)
theorem zcp {M : Model} {A : Around} {E : Value -> Shared -> Prop} {i : Nat} {x : Str} {v : V} {u : Value} {Q : Unit -> Shared -> Prop} (I : Inv X pins σ H s) (hN : X.N.Nodup) (hi : X.N[i]? = some x) (hx : Loc X.env.scope x) (r : RelV v u)
  (h : ∀ s',Inv X pins (σ.set i (some v)) H s' -> Q () s') (hf : X.fn x = true \/ X.env.scope.names.lookup x = some .local:=by first | exact .inl rfl | exact .inr rfl | assumption) : wpAny M A (storeName X.env x u) Q E s :=
 zdo I hN hi hx r (fun s' I' _=>h s' I') hf
theorem Inv.call' {s' : Shared} {ch : List Addr} (I : Inv X pins σ H s) (ho : s'.os = s.os) (u : Un (frs X.stack) ch H H' s.heap s'.heap) (hok : HOk X.prog X.w H' s'.heap) (hg : AllBare s'.gens)
  (hch : ∀ b ∈ ch,(b ∈ X.ex \/ X.s₀.heap.objs.size <= b) /\ b ≠ X.env.locals /\ (∀ x c,X.env.cells.lookup x = some c -> c ≠ b) /\ ∀ p ∈ X.pn++pins,p.1 ≠ b) : Inv X pins σ H' s' := by
 obtain ⟨h',g',d',t',o'⟩:=s'
 have e : o' = s.os:=ho
 subst e
 exact I.call (g' := g') (t' := t') (d' := d') u hok hg hch
end
abbrev XK:=Value -> Option Addr -> Hp -> Prop
abbrev St:=List (Option V)
abbrev VK:=V -> Hp -> Prop
abbrev TE:=St -> Hp -> VK -> Prop
abbrev TT:=St -> Hp -> (Bool -> Hp -> Prop) -> Prop
abbrev TA:=St -> Hp -> (List V -> Hp -> Prop) -> Prop
structure Ends where
 nx : St -> Hp -> Prop
 rt : VK
 bk : St -> Hp -> Prop:=fun _ _=>False
 ct : St -> Hp -> Prop:=fun _ _=>False
abbrev TS:=Ends -> St -> Hp -> Prop
def EP (X : Cx) (pins : List (Addr × Obj)) (σ : St) (Q : VK) (u : Value) (s' : Shared) : Prop:=∃ v H',Inv X pins σ H' s' /\ RelV v u /\ Q v H'
def TP (X : Cx) (pins : List (Addr × Obj)) (σ : St) (Q : Bool -> Hp -> Prop) (b : Bool) (s' : Shared) : Prop:=∃ H',Inv X pins σ H' s' /\ Q b H'
def AP (X : Cx) (pins : List (Addr × Obj)) (σ : St) (Q : List V -> Hp -> Prop) (us : List Value) (s' : Shared) : Prop:=∃ vs H',Inv X pins σ H' s' /\ Vals vs us /\ Q vs H'
def SP (X : Cx) (pins : List (Addr × Obj)) (D : Ends) (f : Flow) (s' : Shared) : Prop :=
 match f with
 | .next=>∃ σ' H',Inv X pins σ' H' s' /\ D.nx σ' H'
 | .brk=>∃ σ' H',Inv X pins σ' H' s' /\ D.bk σ' H'
 | .cont=>∃ σ' H',Inv X pins σ' H' s' /\ D.ct σ' H'
 | .ret u=>∃ v σ' H',Inv X pins σ' H' s' /\ RelV v u /\ D.rt v H'
def PE (X : Cx) (e : Expr) (t : TE) : Prop :=
 ∀ (pins : List (Addr × Obj)) (s : Shared) (σ : St) (H : Hp) (Q : VK),Inv X pins σ H s -> t σ H Q -> wpAny (model X.prog X.w) X.A (eval e X.env) (EP X pins σ Q) X.xe s
def PT (X : Cx) (e : Expr) (t : TT) : Prop :=
 ∀ (pins : List (Addr × Obj)) (s : Shared) (σ : St) (H : Hp) (Q : Bool -> Hp -> Prop),Inv X pins σ H s -> t σ H Q -> wpAny (model X.prog X.w) X.A (isTrue e X.env (eval e X.env)) (TP X pins σ Q) X.xe s
def PW (X : Cx) (e : Expr) (t : TT) : Prop :=
 ∀ (whole : Sem Value) (pins : List (Addr × Obj)) (s : Shared) (σ : St) (H : Hp) (Q : Bool -> Hp -> Prop),Inv X pins σ H s -> t σ H Q -> wpAny (model X.prog X.w) X.A (isTrue e X.env whole) (TP X pins σ Q) X.xe s
theorem PW.pt {X : Cx} {e : Expr} {t : TT} (h : PW X e t) : PT X e t:=h _
def PA (X : Cx) (es : List Expr) (t : TA) : Prop :=
 ∀ (pos : Pos) (pins : List (Addr × Obj)) (s : Shared) (σ : St) (H : Hp) (Q : List V -> Hp -> Prop),Inv X pins σ H s -> t σ H Q -> wpAny (model X.prog X.w) X.A (spliced (backTo pos (starEach es X.env))) (AP X pins σ Q) X.xe s
def PS (X : Cx) (st : Stmt) (t : TS) : Prop :=
 ∀ (pins : List (Addr × Obj)) (s : Shared) (σ : St) (H : Hp) (D : Ends),Inv X pins σ H s -> t D σ H -> wpAny (model X.prog X.w) X.A (exec st X.env) (SP X pins D) X.xe s
def PSs (X : Cx) (st : List Stmt) (t : TS) : Prop :=
 ∀ (pins : List (Addr × Obj)) (s : Shared) (σ : St) (H : Hp) (D : Ends),Inv X pins σ H s -> t D σ H -> wpAny (model X.prog X.w) X.A (execs st X.env) (SP X pins D) X.xe s
theorem thn {α : Type} {t : Sem α} {Q Q' : α -> Shared -> Prop} {M : Model} {A : Around} {E : Value -> Shared -> Prop} {s : Shared} (h : wpAny M A t Q E s) (hQ : ∀ a s,Q a s -> Q' a s) : wpAny M A t Q' E s:=wpAny_mono h hQ fun _ _ x=>x
end L2
namespace L2
open PySem PySem.Spec PyProof.Rows
section
variable {X : Cx}
theorem bin {a b : Expr} {ta tb : TE} (ha : PE X a ta) (hb : PE X b tb) {pins : List (Addr × Obj)} {s : Shared} {σ : St} {H : Hp} {R : V -> V -> Hp -> Prop} (I : Inv X pins σ H s) (h : ta σ H fun x H1=>tb σ H1 fun y H2=>R x y H2)
  {α : Type} {Q : α -> Shared -> Prop} {f : Value -> Value -> Sem α}
  (hf : ∀ v u s2 x y H2,Inv X pins σ H2 s2 -> RelV x v -> RelV y u -> R x y H2 -> wpAny (model X.prog X.w) X.A (f v u) Q X.xe s2) :
  wpAny (model X.prog X.w) X.A (eval a X.env) (fun v s₁=>wpAny (model X.prog X.w) X.A (eval b X.env) (fun u s₂=>wpAny (model X.prog X.w) X.A (f v u) Q X.xe s₂) X.xe s₁) X.xe s:=by
 refine thn (ha pins s σ H _ I h) fun v s1 ⟨x,H1,I1,r1,q1⟩=>?_
 refine thn (hb pins s1 σ H1 _ I1 q1) fun u s2 ⟨y,H2,I2,r2,q2⟩=>?_
 exact hf v u s2 x y H2 I2 r1 r2 q2
def tVar (i : Nat) : TE:=fun σ H Q=>∃ v,σ[i]? = some (some v) /\ Q v H
def tC (v : V) : TE:=fun _ H Q=>Q v H
theorem ygi {i : Nat} {x : Str} {pos : Pos} (hN : X.N[i]? = some x) (hv : Vis X.env.scope x) (hd : (x == ("__debug__" : Str)) = false:=by decide) (hcd : (x == ("__classdict__" : Str)) = false:=by decide) : PE X (.Name x pos) (tVar i):=by
 intro pins s σ H Q I h
 obtain ⟨v,e,h⟩:=h
 obtain ⟨m,hn,hl⟩:=I.loc
 obtain ⟨u,r,l⟩:=hl i x v hN e hv
 have fin : EP X pins σ Q u s:=⟨v,H,I,r,h⟩
 rcases l with ⟨hk,hm⟩ | ⟨hk,c,hc,hcell⟩
 ·exact wpAny_Name (wpAny_loadName_local I.ok.kind hk hn hm fin) hd
 ·rcases hk with hk | hk
  ·exact wpAny_Name (wpAny_loadName_cell I.ok.kind hk hc hcell fin) hd
  ·exact wpAny_Name (wpAny_loadName_free I.ok.kind hk hc hcell fin hcd) hd
theorem ygj {i j pos} : PE X (.Constant (.int i) j pos) (tC (.int i)):=fun _ _ _ H _ I h=>wpAny_Constant_int ⟨.int i,H,I.tok _,⟨_,rfl⟩,h⟩
theorem yhy {b j pos} : PE X (.Constant (.bool b) j pos) (tC (.bl b)):=fun _ _ _ H _ I h=>Constant_bool ⟨.bl b,H,I,rfl,h⟩
theorem ygk {j pos} : PE X (.Constant .none j pos) (tC .non):=fun _ _ _ H _ I h=>Constant_none ⟨.non,H,I,rfl,h⟩
theorem ydL {x j pos} : PE X (.Constant (.str x) j pos) (tC (.str x)):=fun _ _ _ H _ I h=>Calls.Constant_str ⟨.str x,H,I.tok _,⟨_,rfl⟩,h⟩
def Gl (X : Cx) (x : Str) : Prop:=X.env.kindOf x = some .globalImplicit
theorem zaT {E : Value -> Shared -> Prop} {pins : List (Addr × Obj)} {s : Shared} {σ : St} {H : Hp} {x : Str} {u : Value} {pos : Pos} {Q : Value -> Shared -> Prop} (I : Inv X pins σ H s) (hg : Gl X x) (hm : X.mg x = some u) (h : Q u s)
  (hd : (x == ("__debug__" : Str)) = false:=by decide) : wpAny (model X.prog X.w) X.A (eval (.Name x pos) X.env) Q E s :=
 Calls.Name_function_global I.ok.kind hg (Calls.loadGlobal_global (by rw [I.ok.glob]; exact I.mod.glob.keeps I.bk) hm h) hd
theorem ycK {E : Value -> Shared -> Prop} {pins : List (Addr × Obj)} {s : Shared} {σ : St} {H : Hp} {x : Str} {u : Value} {pos : Pos} {Q : Value -> Shared -> Prop} (I : Inv X pins σ H s) (hg : Gl X x) (hm : X.mg x = none) (hv : bootBuiltins x = some u) (h : Q u s)
  (hn : x ≠ "__name__" := by decide) (hd : (x == ("__debug__" : Str)) = false:=by decide) : wpAny (model X.prog X.w) X.A (eval (.Name x pos) X.env) Q E s:=by
 obtain ⟨mb,h1,h2⟩:=I.mod.blt
 exact Calls.Name_function_global I.ok.kind hg (Calls.loadGlobal_builtin (by rw [I.ok.glob]; exact I.mod.glob.keeps I.bk) hm (by rw [I.ok.blt]; exact h1.keeps I.bk) ((h2 x hn).trans hv) h) hd
theorem zb2 {x : Str} {v : V} {u : Value} {pos : Pos} (hg : Gl X x) (hm : X.mg x = some u) (r : RelV v u) (hd : (x == ("__debug__" : Str)) = false:=by decide) : PE X (.Name x pos) (tC v) :=
 fun _ _ _ H _ I h=>zaT I hg hm ⟨v,H,I,r,h⟩ hd
theorem zhY {x : Str} {v : V} {u : Value} {pos : Pos} (hg : Gl X x) (hm : X.mg x = none) (hv : bootBuiltins x = some u) (r : RelV v u) (hn : x ≠ "__name__" := by decide) (hd : (x == ("__debug__" : Str)) = false:=by decide) : PE X (.Name x pos) (tC v) :=
 fun _ _ _ H _ I h=>ycK I hg hm hv ⟨v,H,I,r,h⟩ hn hd
variable {a b : Expr} {ta tb : TE} {pos : Pos}
variable {tA tB' : TT} {rest : List Expr}
def tAnd (t u : TT) : TT:=fun σ H Q=>t σ H fun c H1=>if c = true then u σ H1 Q else Q false H1
def tOr (t u : TT) : TT:=fun σ H Q=>t σ H fun c H1=>if c = true then Q true H1 else u σ H1 Q
def tNot (t : TT) : TT:=fun σ H Q=>t σ H fun c H1=>Q (!c) H1
theorem zhZ (ha : PT X a tA) : PW X (.BoolOp .And [a] pos) tA:=by
 intro wh pins s σ H Q I h
 refine isTrue_and (thn (ha pins s σ H Q I h) fun c s1 e=>?_)
 cases c with
 | true=>exact isTrue_and_nil e
 | false=>exact e
theorem ygl (ha : PT X a tA) : PW X (.BoolOp .Or [a] pos) tA:=by
 intro wh pins s σ H Q I h
 refine isTrue_or (thn (ha pins s σ H Q I h) fun c s1 e=>?_)
 cases c with
 | false=>exact isTrue_or_nil e
 | true=>exact e
theorem ygm (ha : PT X a tA) (hb : PW X (.BoolOp .And (b :: rest) pos) tB') : PW X (.BoolOp .And (a :: b :: rest) pos) (tAnd tA tB'):=by
 intro wh pins s σ H Q I h
 refine isTrue_and (thn (ha pins s σ H _ I h) fun c s1 ⟨H1,I1,q1⟩=>?_)
 cases c with
 | true=>exact hb wh pins s1 σ H1 Q I1 q1
 | false=>exact ⟨H1,I1,q1⟩
theorem yhz (ha : PT X a tA) (hb : PW X (.BoolOp .Or (b :: rest) pos) tB') : PW X (.BoolOp .Or (a :: b :: rest) pos) (tOr tA tB'):=by
 intro wh pins s σ H Q I h
 refine isTrue_or (thn (ha pins s σ H _ I h) fun c s1 ⟨H1,I1,q1⟩=>?_)
 cases c with
 | true=>exact ⟨H1,I1,q1⟩
 | false=>exact hb wh pins s1 σ H1 Q I1 q1
theorem ygn (ha : PT X a tA) : PT X (.UnaryOp .Not a pos) (tNot tA):=by
 intro pins s σ H Q I h
 exact isTrue_not (ha pins s σ H (fun c H1=>Q (!c) H1) I h)
def yhA (ta tb : TE) : TE:=fun σ H Q=>ta σ H fun x H1=>∃ c,x = .bl c /\ if c = true then tb σ H1 Q else Q (.bl false) H1
def tOrV (ta tb : TE) : TE:=fun σ H Q=>ta σ H fun x H1=>∃ c,x = .bl c /\ if c = true then Q (.bl true) H1 else tb σ H1 Q
def yhB (ta : TE) : TE:=fun σ H Q=>ta σ H fun x H1=>∃ c,x = .bl c /\ Q (.bl (!c)) H1
theorem ygo {op} {t : TE} (h : PE X a t) : PE X (.BoolOp op [a] pos) t:=fun pins s σ H Q I hw=>BoolOp_one (h pins s σ H Q I hw)
theorem ygp (ha : PE X a ta) (hb : PE X (.BoolOp .And (b :: rest) pos) tb) : PE X (.BoolOp .And (a :: b :: rest) pos) (yhA ta tb):=by
 intro pins s σ H Q I h
 refine BoolOp_and (thn (ha pins s σ H _ I h) fun v s1 ⟨x,H1,I1,r1,q1⟩=>?_)
 obtain ⟨c,rfl,q1⟩:=q1
 cases r1
 refine wpAny_truthy_bool ?_
 cases c with
 | true=>exact hb pins s1 σ H1 Q I1 q1
 | false=>exact ⟨.bl false,H1,I1,rfl,q1⟩
theorem yhC (ha : PE X a ta) (hb : PE X (.BoolOp .Or (b :: rest) pos) tb) : PE X (.BoolOp .Or (a :: b :: rest) pos) (tOrV ta tb):=by
 intro pins s σ H Q I h
 refine BoolOp_or (thn (ha pins s σ H _ I h) fun v s1 ⟨x,H1,I1,r1,q1⟩=>?_)
 obtain ⟨c,rfl,q1⟩:=q1
 cases r1
 refine wpAny_truthy_bool ?_
 cases c with
 | false=>exact hb pins s1 σ H1 Q I1 q1
 | true=>exact ⟨.bl true,H1,I1,rfl,q1⟩
theorem ygq (ha : PE X a ta) : PE X (.UnaryOp .Not a pos) (yhB ta):=by
 intro pins s σ H Q I h
 refine UnaryOp_ (thn (ha pins s σ H _ I h) fun v s1 ⟨x,H1,I1,r1,q1⟩=>?_)
 obtain ⟨c,rfl,q1⟩:=q1
 cases r1
 exact not_of (wpAny_truthy_bool ⟨.bl (!c),H1,I1,rfl,q1⟩)
def tIf (t : TT) (ta tb : TE) : TE:=fun σ H Q=>t σ H fun c H1=>if c = true then ta σ H1 Q else tb σ H1 Q
theorem zg4 {c : Expr} (hc : PT X c tA) (ha : PE X a ta) (hb : PE X b tb) : PE X (.IfExp c a b pos) (tIf tA ta tb):=by
 intro pins s σ H Q I h
 refine wpAny_IfExp (thn (hc pins s σ H _ I h) fun d s1 ⟨H1,I1,q1⟩=>?_)
 cases d with
 | true=>exact ha pins s1 σ H1 Q I1 q1
 | false=>exact hb pins s1 σ H1 Q I1 q1
end
end L2
namespace L2
open PySem PySem.Spec PyProof.Rows
def SqL (K : PySem.W.Frag) (H : Hp) (a : Addr) (xs : List V) : Prop :=
 Rd H a (.lst xs) \/
  ∃ (o : Obj) (its : Array Value) (n : Nat),K.lookup a = some o /\ o.cls = .type "list" /\ o.dict = none /\ o.data = .seq its n /\ its.size <= sizeLine /\ Vals xs its.toList
def SqT (K : PySem.W.Frag) (H : Hp) (a : Addr) (xs : List V) : Prop :=
 Rd H a (.tup xs) \/
  ∃ (o : Obj) (its : Array Value) (n : Nat),K.lookup a = some o /\ o.cls = .type "tuple" /\ o.data = .seq its n /\ its.size <= sizeLine /\ Vals xs its.toList
def absV : Value -> Option V
 | .none=>some .non
 | .bool b=>some (.bl b)
 | .int i _=>some (.int i)
 | .str x _=>some (.str x)
 | .bytes b _=>some (.byt b)
 | .float b _=>some (.flt b)
 | .ref a=>some (.ref a)
 | .type n=>some (.ty n)
 | _=>none
theorem RelV.abs {x : V} {u : Value} (r : RelV x u) : absV u = some x:=by
 cases x with
 | non=>cases r; rfl
 | bl _=>cases r; rfl
 | int _=>obtain ⟨t,rfl⟩:=r; rfl
 | str _=>obtain ⟨t,rfl⟩:=r; rfl
 | byt _=>obtain ⟨t,rfl⟩:=r; rfl
 | flt _=>obtain ⟨t,rfl⟩:=r; rfl
 | ref _=>cases r; rfl
 | ty _=>cases r; rfl
theorem RelV.inj {x y : V} {u : Value} (r : RelV x u) (q : RelV y u) : x = y:=Option.some.inj (r.abs.symm.trans q.abs)
theorem Vals.inj : ∀ {xs ys : List V} {us : List Value},Vals xs us -> Vals ys us -> xs = ys
 | _,_,_,.nil,.nil=>rfl
 | _,_,_,.cons r t,.cons r' t' => by rw [r.inj r',Vals.inj t t']
section
variable {X : Cx} {pins : List (Addr × Obj)} {σ : St} {H : Hp} {s : Shared} {a : Addr} {xs ys : List V}
theorem SqL.of {K : PySem.W.Frag} (h : H a = some (.lst xs)) : SqL K H a xs:=.inl (.inl h)
theorem SqT.of {K : PySem.W.Frag} (h : H a = some (.tup xs)) : SqT K H a xs:=.inl (.inl h)
theorem Inv.list (I : Inv X pins σ H s) (h : SqL X.K H a xs) : ∃ its : List Value,Vals xs its /\ PlainL s.heap a its.toArray /\ xs.length <= sizeLine:=by
 rcases h with h | ⟨o,its,n,hk,hc,hd,hs,hz,r⟩
 ·obtain ⟨z,its,n,r,e⟩:=h.ok I.hok
  exact ⟨its,r,⟨_,n,e,rfl,rfl,rfl⟩,z⟩
 ·refine ⟨its.toList,r,⟨o,n,I.kIn a o hk,hc,hd,by simpa using hs⟩,?_⟩
  have e:=r.length
  simp only [Array.length_toList] at e
  omega
theorem Inv.tuple (I : Inv X pins σ H s) (h : SqT X.K H a xs) : ∃ its : List Value,Vals xs its /\ IsTup s.heap a its.toArray /\ xs.length <= sizeLine:=by
 rcases h with h | ⟨o,its,n,hk,hc,hs,hz,r⟩
 ·obtain ⟨z,its,r,p⟩:=h.ok I.hok
  exact ⟨its,r,p,z⟩
 ·refine ⟨its.toList,r,⟨o,I.kIn a o hk,hc,n,by simpa using hs⟩,?_⟩
  have e:=r.length
  simp only [Array.length_toList] at e
  omega
theorem Inv.list_inj (I : Inv X pins σ H s) (h : SqL X.K H a xs) (h' : SqL X.K H a ys) : xs = ys:=by
 obtain ⟨its,r,⟨o,n,e,_,_,d⟩,_⟩:=I.list h
 obtain ⟨its',r',⟨o',n',e',_,_,d'⟩,_⟩:=I.list h'
 rw [e] at e'; cases e'
 rw [d] at d'
 injection d' with d1 _
 have : its = its' := by simpa using congrArg Array.toList d1
 subst this
 exact r.inj r'
theorem Inv.tuple_inj (I : Inv X pins σ H s) (h : SqT X.K H a xs) (h' : SqT X.K H a ys) : xs = ys:=by
 obtain ⟨its,r,⟨o,e,_,n,d⟩,_⟩:=I.tuple h
 obtain ⟨its',r',⟨o',e',_,n',d'⟩,_⟩:=I.tuple h'
 rw [e] at e'; cases e'
 rw [d] at d'
 injection d' with d1 _
 have : its = its' := by simpa using congrArg Array.toList d1
 subst this
 exact r.inj r'
end
abbrev Cx.wish (X : Cx) (E : Value -> Shared -> Prop) : Cx:={ X with xe:=E }
abbrev Cx.nox (X : Cx) : Cx:=X.wish fun _ _=>False
theorem Cx.Ok.wish {X : Cx} (ok : X.Ok) (E : Value -> Shared -> Prop) : (X.wish E).Ok :=
 ⟨ok.mod,ok.kind,ok.glob,ok.blt,ok.above,ok.inj,ok.has,ok.cab,ok.hd,ok.frames,ok.stk,ok.exf,ok.bs,ok.bsz,ok.noex,ok.exfs,ok.funs,ok.frf⟩
theorem Cx.Ok.unwish {X : Cx} {E : Value -> Shared -> Prop} (ok : (X.wish E).Ok) : X.Ok :=
 ⟨ok.mod,ok.kind,ok.glob,ok.blt,ok.above,ok.inj,ok.has,ok.cab,ok.hd,ok.frames,ok.stk,ok.exf,ok.bs,ok.bsz,ok.noex,ok.exfs,ok.funs,ok.frf⟩
section
variable {X : Cx} {pins : List (Addr × Obj)} {σ : St} {H : Hp} {s : Shared} {E : Value -> Shared -> Prop}
theorem Inv.wish (I : Inv X pins σ H s) (E : Value -> Shared -> Prop) : Inv (X.wish E) pins σ H s:=⟨I.ok.wish E,I.os,I.bare,I.base,I.loc,I.cell,I.free,I.freeC,I.pin,I.hok,I.len⟩
theorem Inv.unwish (I : Inv (X.wish E) pins σ H s) : Inv X pins σ H s:=⟨I.ok.unwish,I.os,I.bare,I.base,I.loc,I.cell,I.free,I.freeC,I.pin,I.hok,I.len⟩
theorem SP.unwish {D : Ends} {f : Flow} {s' : Shared} (h : SP (X.wish E) pins D f s') : SP X pins D f s' := by
 cases f with
 | next=>obtain ⟨σ',H',I,q⟩:=h; exact ⟨σ',H',I.unwish,q⟩
 | brk=>obtain ⟨σ',H',I,q⟩:=h; exact ⟨σ',H',I.unwish,q⟩
 | cont=>obtain ⟨σ',H',I,q⟩:=h; exact ⟨σ',H',I.unwish,q⟩
 | ret u=>obtain ⟨v,σ',H',I,r,q⟩:=h; exact ⟨v,σ',H',I.unwish,r,q⟩
end
section
variable {X : Cx} {st : Stmt} {rest : List Stmt} {t u : TS} {e : Expr} {te : TE} {pos : Pos}
def yhD : TS:=fun D σ H=>D.nx σ H
def tSeq (t u : TS) : TS:=fun D σ H=>t { D with nx:=u D } σ H
theorem zh0 : PSs X [] yhD:=fun _ _ σ H _ I h=>wpAny_execs_nil ⟨σ,H,I,h⟩
theorem zg5 (h1 : PS X st t) (h2 : PSs X rest u) : PSs X (st :: rest) (tSeq t u):=by
 intro pins s σ H D I h
 refine wpAny_execs_cons (thn (h1 pins s σ H { D with nx:=u D } I h) fun f s1 q=>?_)
 cases f with
 | next =>
  obtain ⟨σ',H',I',q⟩:=q
  exact h2 pins s1 σ' H' D I' q
 | ret v=>exact q
 | brk=>exact q
 | cont=>exact q
theorem zeW (h1 : PS X st t) : PSs X [st] t:=by
 intro pins s σ H D I h
 refine wpAny_execs_cons (thn (h1 pins s σ H D I h) fun f s1 q=>?_)
 cases f with
 | next=>exact wpAny_execs_nil q
 | ret v=>exact q
 | brk=>exact q
 | cont=>exact q
theorem Inv.quiet {pins : List (Addr × Obj)} {σ : St} {H : Hp} {s : Shared} (I : Inv X pins σ H s) : interactive X.env = false:=by simp [interactive,I.ok.kind]
def yhE (te : TE) : TS:=fun D σ H=>te σ H fun _ H1=>D.nx σ H1
theorem zh1 (he : PE X e te) (hs : swapsWith e none pos.line X.env = pure false:=by rfl) : PS X (.Expr e pos) (yhE te):=by
 intro pins s σ H D I h
 exact wpAny_Expr_any (thn (he pins s σ H _ I h) fun v s1 ⟨x,H1,I1,r1,q1⟩=>⟨σ,H1,I1,q1⟩) I.quiet hs
def tRet (te : TE) : TS:=fun D σ H=>te σ H D.rt
theorem ygr (he : PE X e te) : PS X (.Return (some e) pos) (tRet te):=by
 intro pins s σ H D I h
 exact wpAny_Return_some (thn (he pins s σ H _ I h) fun v s1 ⟨x,H1,I1,r1,q1⟩=>⟨x,σ,H1,I1,r1,q1⟩)
def tIfS (c : TT) (t u : TS) : TS:=fun D σ H=>c σ H fun b H1=>if b = true then t D σ H1 else u D σ H1
theorem yhF {c : Expr} {a b : List Stmt} {tc : TT} (hc : PT X c tc) (ha : PSs X a t) (hb : PSs X b u) : PS X (.If c a b pos) (tIfS tc t u):=by
 intro pins s σ H D I h
 refine wpAny_If (thn (hc pins s σ H _ I h) fun d s1 ⟨H1,I1,q1⟩=>?_)
 cases d with
 | true=>exact ha pins s1 σ H1 D I1 q1
 | false=>exact hb pins s1 σ H1 D I1 q1
end
abbrev TG:=V -> St -> Hp -> (St -> Hp -> Prop) -> Prop
abbrev TGs:=List V -> St -> Hp -> (St -> Hp -> Prop) -> Prop
def PG (X : Cx) (target : Expr) (t : TG) : Prop :=
 ∀ (pins : List (Addr × Obj)) (s : Shared) (σ : St) (H : Hp) (v : V) (u : Value) (Q : St -> Hp -> Prop),Inv X pins σ H s -> RelV v u -> t v σ H Q ->
  wpAny (model X.prog X.w) X.A (assign target X.env u) (fun _ s' => ∃ σ' H',Inv X pins σ' H' s' /\ Q σ' H') X.xe s
def PGs (X : Cx) (ts : List Expr) (t : TGs) : Prop :=
 ∀ (pins : List (Addr × Obj)) (s : Shared) (σ : St) (H : Hp) (vs : List V) (us : List Value) (Q : St -> Hp -> Prop),Inv X pins σ H s -> Vals vs us -> t vs σ H Q ->
  wpAny (model X.prog X.w) X.A (assignInOrder ((assignEach ts X.env).map (·.2)) us) (fun _ s' => ∃ σ' H',Inv X pins σ' H' s' /\ Q σ' H') X.xe s
abbrev TSet:=V -> V -> V -> Hp -> (Hp -> Prop) -> Prop
def PSet (X : Cx) (t : TSet) : Prop :=
 ∀ (pins : List (Addr × Obj)) (s : Shared) (σ : St) (H : Hp) (o i v : V) (ov iv u : Value) (Q : Hp -> Prop),Inv X pins σ H s -> RelV o ov -> RelV i iv -> RelV v u -> t o i v H Q ->
  wpAny (model X.prog X.w) X.A (setItem ov iv u) (fun _ s' => ∃ H',Inv X pins σ H' s' /\ Q H') X.xe s
section
variable {X : Cx} {pos : Pos}
def yeo (i : Nat) : TG:=fun v σ H Q=>Q (σ.set i (some v)) H
theorem zeX {i : Nat} {x : Str} (hN : X.N.Nodup) (hi : X.N[i]? = some x) (hx : Loc X.env.scope x) (hf : X.fn x = true \/ X.env.scope.names.lookup x = some .local:=by first | exact .inl rfl | exact .inr rfl | assumption) : PG X (.Name x pos) (yeo i):=by
 intro pins s σ H v u Q I r h
 exact wpAny_assign_Name (zcp I hN hi hx r (fun s' I' => ⟨_,H,I',h⟩) hf)
def gNil : TGs:=fun vs σ H Q=>vs = [] /\ Q σ H
def yhG (t : TG) (u : TGs) : TGs:=fun vs σ H Q=>∃ v r,vs = v :: r /\ t v σ H fun σ' H' => u r σ' H' Q
theorem zh2 : PGs X [] gNil:=by
 intro pins s σ H vs us Q I r h
 obtain ⟨e,h⟩:=h
 subst e
 cases r
 exact assignInOrder_nil ⟨σ,H,I,h⟩
theorem zg6 {e : Expr} {es : List Expr} {t : TG} {u : TGs} (h1 : PG X e t) (h2 : PGs X es u)
  (hs : (assignEach (e :: es) X.env).map (·.2) = assign e X.env :: (assignEach es X.env).map (·.2):=by rfl) : PGs X (e :: es) (yhG t u):=by
 intro pins s σ H vs us Q I r h
 obtain ⟨v,vr,e1,h⟩:=h
 subst e1
 cases r with
 | cons r rr =>
  rw [hs]
  refine assignInOrder_cons (thn (h1 pins s σ H _ _ _ I r h) fun _ s1 ⟨σ1,H1,I1,q1⟩=>?_)
  exact h2 pins s1 σ1 H1 _ _ Q I1 rr q1
def gTup (K : PySem.W.Frag) (n : Nat) (t : TGs) : TG:=fun v σ H Q=>∃ a xs,v = .ref a /\ SqT K H a xs /\ xs.length = n /\ t xs σ H Q
theorem ygs {es : List Expr} {k : Nat} {t : TGs} {n : Nat} (hc : X.calm = true) (h : PGs X es t)
  (hn : (assignEach es X.env).length = n:=by rfl) (hst : (assignEach es X.env).findIdx? (·.1) = none:=by rfl) : PG X (.Tuple es k pos) (gTup X.K n t):=by
 intro pins s σ H v u Q I r hw
 obtain ⟨a,xs,e1,hq,hl,hw⟩:=hw
 subst e1
 cases r
 obtain ⟨its,rv,ht,hz⟩:=I.tuple hq
 refine assign_Tuple_tuple (I.ok.hd hc) ht (by simp [hn,<- hl,rv.length]) hst fun h' hx=>?_
 have I1 : Inv X pins σ H { s with heap:=h' }:=I.kept (t' := s.toks) fun b o e=>hx b o (Nat.ne_of_lt (Heap.lt_size e)) e
 exact h pins _ σ H xs _ Q I1 (by simpa using rv) hw
def gSub (to ti : TE) (t : TSet) : TG:=fun v σ H Q=>to σ H fun o H1=>ti σ H1 fun i H2=>t o i v H2 fun H3=>Q σ H3
theorem ygt {o i : Expr} {to ti : TE} {t : TSet} (ho : PE X o to) (hi : PE X i ti) (hs : PSet X t)
  (ha : ∀ v,assign (.Subscript o i pos) X.env v = (do
   let ov <- holding [v] (eval o X.env)
   let iv <- holding [v,ov] (eval i X.env)
   standAt pos
   holding [v,ov,iv] (setItem ov iv v)
   release [v,ov,iv] []):=by intro _; rfl) : PG X (.Subscript o i pos) (gSub to ti t):=by
 intro pins s σ H v u Q I r h
 rw [ha]
 refine wpAny_bind (wpAny_holding (thn (ho pins s σ H _ I h) fun ov s1 ⟨x,H1,I1,r1,q1⟩=>?_))
 refine wpAny_bind (wpAny_holding (thn (hi pins s1 σ H1 _ I1 q1) fun iv s2 ⟨y,H2,I2,r2,q2⟩=>?_))
 refine wpAny_bind (wpAny_standAt (wpAny_bind (wpAny_holding (thn (hs pins s2 σ H2 x y v ov iv u _ I2 r1 r2 r q2) fun _ s3 ⟨H3,I3,q3⟩=>?_))))
 exact wpAny_release ⟨σ,H3,I3,q3⟩
def tAsg (te : TE) (g : TG) : TS:=fun D σ H=>te σ H fun x H1=>g x σ H1 D.nx
theorem yfa {tg e : Expr} {te : TE} {g : TG} (he : PE X e te) (hg : PG X tg g) (hs : swapsWithSole [tg] e pos.line X.env = pure false:=by rfl) (hw : swappedStores [tg] e X.env = pure none:=by rfl)
  (h1 : (assignEach [tg] X.env).map (·.2) = [assign tg X.env]:=by rfl) : PS X (.Assign [tg] e pos) (tAsg te g):=by
 intro pins s σ H D I h
 refine wpAny_Assign_stores (thn (he pins s σ H _ I h) fun v s1 ⟨x,H1,I1,r1,q1⟩=>?_) hs hw
 rw [h1]
 exact thn (hg pins s1 σ H1 x v _ I1 r1 q1) fun _ s2 q=>q
theorem ygu {i : Nat} {x : Str} {e : Expr} {te : TE} {pos' : Pos} (hN : X.N.Nodup) (hi : X.N[i]? = some x) (hx : Loc X.env.scope x) (he : PE X e te) (hs : swapsWith e (some (.Name x pos')) pos.line X.env = pure false:=by rfl) (hf : X.fn x = true \/ X.env.scope.names.lookup x = some .local:=by first | exact .inl rfl | exact .inr rfl | assumption) :
  PS X (.Assign [.Name x pos'] e pos) (tAsg te (yeo i)):=by
 intro pins s σ H D I h
 refine wpAny_Assign_Name (thn (he pins s σ H _ I h) fun v s1 ⟨y,H1,I1,r1,q1⟩=>?_) hs
 exact zcp I1 hN hi hx r1 (fun s2 I2=>⟨_,H1,I2,q1⟩) hf
end
section
variable {X : Cx} {pos : Pos}
end
structure It where
 go : Nat -> Hp -> Prop
 yld : Nat -> Hp -> V -> Hp -> Prop
 stop : Nat -> Hp -> Prop
def FpOk (X : Cx) (pins : List (Addr × Obj)) (H : Hp) (b : Addr) : Prop :=
 H b = none /\ b ≠ X.env.locals /\ b ∉ X.fs /\ (b ∈ X.ex \/ X.s₀.heap.objs.size <= b) /\ (∀ x c,X.env.cells.lookup x = some c -> c ≠ b) /\ ∀ p ∈ X.pn++pins,p.1 ≠ b
theorem Inv.fpOk {X : Cx} {pins : List (Addr × Obj)} {σ : St} {H H' : Hp} {s : Shared} {b : Addr} (I : Inv X pins σ H s) (hb : s.heap.objs.size <= b) (hn : H' b = none) : FpOk X pins H' b:=by
 refine ⟨hn,Nat.ne_of_gt (Nat.lt_of_lt_of_le I.lt hb),I.nofs hb,.inr (Nat.le_trans I.sz hb),fun x c e z=>?_,fun p hp z=>?_⟩
 ·obtain ⟨v,q⟩:=I.cell x c e
  exact absurd (Nat.lt_of_lt_of_le q.lt (by rw [z]; exact hb)) (Nat.lt_irrefl _)
 ·exact absurd (Nat.lt_of_lt_of_le (Heap.lt_size (I.pin p hp).1) (by rw [z]; exact hb)) (Nat.lt_irrefl _)
structure Turn (P : Program) (w : World) (K : PySem.W.Frag) (tg : Expr) (J : It) (fp : List Addr) (it : Addr) (tn : Nat -> Heap -> Prop) : Prop where
 mem : it ∈ fp
 obj : ∀ i h,tn i h -> ∀ b ∈ fp,∃ o,h.get? b = some o /\ ∀ v,o.data ≠ .cell v
 keep : ∀ i h h',tn i h -> (∀ b ∈ fp,∀ o,h.get? b = some o -> h'.get? b = some o) -> tn i h'
 item : ∀ (X : Cx),X.prog = P -> X.w = w -> X.K = K -> X.calm = true -> ∀ (i : Nat) (pins : List (Addr × Obj)) (s : Shared) (σ : St) (H : Hp) (E : Value -> Shared -> Prop),Inv X pins σ H s -> (∀ b ∈ fp,FpOk X pins H b) -> tn i s.heap -> J.go i H ->
  wpAny (model P w) X.A (pyNext (.ref it)) (fun r s1=>∃ u,r = some u /\
   wpAny (model P w) X.A (letOwnedTupleGo tg (.ref it) u) (fun _ s2=>∃ x H',Inv X pins σ H' s2 /\ RelV x u /\ J.yld i H x H' /\ tn (i + 1) s2.heap /\ ∀ b ∈ fp,H' b = none) E s1) E s
 done : ∀ (X : Cx),X.prog = P -> X.w = w -> X.K = K -> X.calm = true -> ∀ (i : Nat) (pins : List (Addr × Obj)) (s : Shared) (σ : St) (H : Hp) (E : Value -> Shared -> Prop),Inv X pins σ H s -> (∀ b ∈ fp,FpOk X pins H b) -> tn i s.heap -> J.stop i H ->
  wpAny (model P w) X.A (pyNext (.ref it)) (fun r s1=>r = none /\ Inv X pins σ H s1) E s
 self : ∀ (A : Around) (i : Nat) (s : Shared) (Q : Value -> Shared -> Prop) (E : Value -> Shared -> Prop),tn i s.heap -> Q (.ref it) s -> wpAny (model P w) A (pyIter (.ref it)) Q E s
abbrev TI:=St -> Hp -> (It -> Hp -> Prop) -> Prop
def PIE (X : Cx) (pins : List (Addr × Obj)) (σ : St) (tg : Expr) (R : It -> Hp -> Prop) (itv : Value) (s2 : Shared) : Prop :=
 ∃ (it : Addr) (fp : List Addr) (tn : Nat -> Heap -> Prop) (J : It) (H' : Hp),itv = .ref it /\ Inv X pins σ H' s2 /\ Turn X.prog X.w X.K tg J fp it tn /\ tn 0 s2.heap /\ (∀ b ∈ fp,FpOk X pins H' b) /\ R J H'
def PI (X : Cx) (tg iter : Expr) (wi : TI) : Prop :=
 ∀ (pins : List (Addr × Obj)) (s : Shared) (σ : St) (H : Hp) (R : It -> Hp -> Prop),Inv X pins σ H s -> wi σ H R ->
  wpAny (model X.prog X.w) X.A (eval iter X.env) (fun v s1=>wpAny (model X.prog X.w) X.A (pyIter v) (PIE X pins σ tg R) X.xe s1) X.xe s
theorem yep {M : Model} {A : Around} {E : Value -> Shared -> Prop} {s : Shared} {tg : Expr} {it : Addr} {u : Value} {o : Obj} {n : String} {vs : Array Value} {Q : Unit -> Shared -> Prop} (ho : s.heap.get? it = some o) (hc : o.cls = .type n) (hd : o.data = .fields vs)
  (hn : ["enumerate", "zip", "dict_itemiterator", "dict_reverseitemiterator", "odict_iterator", "itertools.zip_longest", "itertools.pairwise"].contains n = false) (hQ : Q () s) : wpAny M A (letOwnedTupleGo tg (.ref it) u) Q E s:=by
 unfold letOwnedTupleGo
 cases tg<;>first
  | exact wpAny_pure hQ
  | (cases u<;>first
    | exact wpAny_pure hQ
    | (refine wpAny_bind (wpAny_load ho ?_)
       rw [hc,hd]
       show wpAny M A (if (["enumerate", "zip", "dict_itemiterator", "dict_reverseitemiterator", "odict_iterator", "itertools.zip_longest", "itertools.pairwise"].contains n && vs[0]? == some (rawInt _)) = true then _ else _) Q E s
       rw [if_neg (by intro h; rw [hn,Bool.false_and] at h; cases h)]
       exact wpAny_pure hQ))
def Itl (K : PySem.W.Frag) (a : Addr) : It :=
 ⟨fun i H=>∃ xs x,SqL K H a xs /\ xs[i]? = some x,fun i H x H' => H' = H /\ ∀ xs,SqL K H a xs -> xs[i]? = some x,fun i H=>∃ xs,SqL K H a xs /\ xs.length <= i⟩
def Itt (K : PySem.W.Frag) (a : Addr) : It :=
 ⟨fun i H=>∃ xs x,SqT K H a xs /\ xs[i]? = some x,fun i H x H' => H' = H /\ ∀ xs,SqT K H a xs -> xs[i]? = some x,fun i H=>∃ xs,SqT K H a xs /\ xs.length <= i⟩
def Itr (lo : Int) (n : Nat) : It:=⟨fun i _=>i < n,fun i H x H' => H' = H /\ x = .int (lo + i),fun i _=>n <= i⟩
theorem zf8 {P : Program} {w : World} {K : PySem.W.Frag} {tg : Expr} (a it : Addr) : Turn P w K tg (Itl K a) [it] it (fun i h=>h.IsListIter it a i) where
 mem:=by simp
 obj:=fun i h st b hb=>by
  have e : b = it:=by simpa using hb
  subst e
  obtain ⟨o,e,c,d⟩:=st
  exact ⟨o,e,fun v z=>by rw [d] at z; cases z⟩
 keep:=fun i h h' st k=>st.at fun o e=>k it (by simp) o e
 item:=by
  intro X hP hw hK hc i pins s σ H E I hf st hg
  subst hP hw hK
  obtain ⟨xs,x,hq,hx⟩:=hg
  obtain ⟨its,rv,p,hz⟩:=I.list hq
  obtain ⟨u,hu,ru⟩:=rv.get hx
  obtain ⟨f0,f1,f2,f3,f4,f5⟩:=hf it (by simp)
  refine wpAny_pyNext_list_item st p.isList (x:=u) (by simpa using hu) fun h' st' sb=>?_
  have I1 : Inv X pins σ H { s with heap:=h' }:=I.turned (t' := s.toks) (fun b o hb e=>(sb.2 b hb).trans e) f0 f1 f3 f4 f5
  obtain ⟨o,e,c,d⟩:=id st'
  exact ⟨u,rfl,yep (s:={ s with heap:=h' }) e c d (by decide) ⟨x,H,I1,ru,⟨rfl,fun ys hy=>by rw [I.list_inj hy hq]; exact hx⟩,st',fun b hb=>(hf b hb).1⟩⟩
 done:=by
  intro X hP hw hK hc i pins s σ H E I hf st hg
  subst hP hw hK
  obtain ⟨xs,hq,hx⟩:=hg
  obtain ⟨its,rv,p,hz⟩:=I.list hq
  obtain ⟨f0,f1,f2,f3,f4,f5⟩:=hf it (by simp)
  have hl:=rv.length
  exact wpAny_pyNext_list_end (I.ok.hd hc) st p.isList (by simp; omega) fun h' eb=>⟨rfl,I.turned (t' := s.toks) (fun b o hb e=>eb b o hb e) f0 f1 f3 f4 f5⟩
 self:=fun _ _ _ _ _ st h=>wpAny_pyIter_listiter st h
theorem zfB {P : Program} {w : World} {K : PySem.W.Frag} {tg : Expr} (a it : Addr) : Turn P w K tg (Itt K a) [it] it (fun i h=>h.IsTupleIter it a i) where
 mem:=by simp
 obj:=fun i h st b hb=>by
  have e : b = it:=by simpa using hb
  subst e
  obtain ⟨o,e,c,d⟩:=st
  exact ⟨o,e,fun v z=>by rw [d] at z; cases z⟩
 keep:=fun i h h' st k=>st.at fun o e=>k it (by simp) o e
 item:=by
  intro X hP hw hK hc i pins s σ H E I hf st hg
  subst hP hw hK
  obtain ⟨xs,x,hq,hx⟩:=hg
  obtain ⟨its,rv,p,hz⟩:=I.tuple hq
  obtain ⟨u,hu,ru⟩:=rv.get hx
  obtain ⟨f0,f1,f2,f3,f4,f5⟩:=hf it (by simp)
  refine wpAny_pyNext_tuple_item st (show s.heap.IsTuple a its.toArray from p) (x:=u) (by simpa using hu) fun h' st' sb=>?_
  have I1 : Inv X pins σ H { s with heap:=h' }:=I.turned (t' := s.toks) (fun b o hb e=>(sb.2 b hb).trans e) f0 f1 f3 f4 f5
  obtain ⟨o,e,c,d⟩:=id st'
  exact ⟨u,rfl,yep (s:={ s with heap:=h' }) e c d (by decide) ⟨x,H,I1,ru,⟨rfl,fun ys hy=>by rw [I.tuple_inj hy hq]; exact hx⟩,st',fun b hb=>(hf b hb).1⟩⟩
 done:=by
  intro X hP hw hK hc i pins s σ H E I hf st hg
  subst hP hw hK
  obtain ⟨xs,hq,hx⟩:=hg
  obtain ⟨its,rv,p,hz⟩:=I.tuple hq
  obtain ⟨f0,f1,f2,f3,f4,f5⟩:=hf it (by simp)
  have hl:=rv.length
  exact wpAny_pyNext_tuple_end (I.ok.hd hc) st (show s.heap.IsTuple a its.toArray from p) (by simp; omega) fun h' eb=>⟨rfl,I.turned (t' := s.toks) (fun b o hb e=>eb b o hb e) f0 f1 f3 f4 f5⟩
 self:=fun _ _ _ _ _ st h=>wpAny_pyIter_tupleiter st h
theorem zfC {P : Program} {w : World} {K : PySem.W.Frag} {tg : Expr} (it : Addr) (lo : Int) (n : Nat) : Turn P w K tg (Itr lo n) [it] it (fun i h=>IsRangeIter h it (lo + (i : Nat) * 1) ((n : Int) - (i : Nat)) 1) where
 mem:=by simp
 obj:=fun i h st b hb=>by
  have e : b = it:=by simpa using hb
  subst e
  exact ⟨_,st,fun v z=>by
   have z' : Data.fields _ = Data.cell v:=z
   cases z'⟩
 keep:=fun i h h' st k=>k it (by simp) _ st
 item:=by
  intro X hP hw hK hc i pins s σ H E I hf st hg
  subst hP hw hK
  obtain ⟨f0,f1,f2,f3,f4,f5⟩:=hf it (by simp)
  have W:=Walks.range (prog:=X.prog) (w:=X.w) (I.ok.hd hc) it lo 1 n
  refine W.item i s _ _ hg st fun v h' tk hv st' kk=>?_
  obtain ⟨t,rfl⟩:=hv
  have I1 : Inv X pins σ H { s with heap:=h',toks:=tk }:=I.turned (fun b o hb e=>kk b o (by simpa using hb) e) f0 f1 f3 f4 f5
  refine ⟨_,rfl,yep (s:={ s with heap:=h',toks:=tk }) (n := "range_iterator") st' rfl rfl (by decide) ⟨.int (lo + i),H,I1,⟨t,?_⟩,⟨rfl,rfl⟩,st',fun b hb=>(hf b hb).1⟩⟩
  rw [Int.mul_one]
 done:=by
  intro X hP hw hK hc i pins s σ H E I hf st hg
  subst hP hw hK
  obtain ⟨f0,f1,f2,f3,f4,f5⟩:=hf it (by simp)
  exact wpAny_pyNext_range_end (I.ok.hd hc) st (by have : n <= i:=hg; omega) fun h' eb=>⟨rfl,I.turned (t' := s.toks) (fun b o hb e=>eb b o hb e) f0 f1 f3 f4 f5⟩
 self:=fun _ _ _ _ _ st h=>wpAny_pyIter_rangeiter st h
end L2
namespace L2
open PySem PySem.Spec PyProof.Rows
section
variable {X : Cx} {tg : Expr}
def yfP (K : PySem.W.Frag) (tl : TE) : TI:=fun σ H R=>tl σ H fun x H1=>∃ a,x = .ref a /\ (∃ xs,SqL K H1 a xs) /\ R (Itl K a) H1
def iTup (K : PySem.W.Frag) (tl : TE) : TI:=fun σ H R=>tl σ H fun x H1=>∃ a,x = .ref a /\ (∃ xs,SqT K H1 a xs) /\ R (Itt K a) H1
theorem zh3 {l : Expr} {tl : TE} (hl : PE X l tl) : PI X tg l (yfP X.K tl):=by
 intro pins s σ H R I h
 refine thn (hl pins s σ H _ I h) fun v s1 ⟨x,H1,I1,r1,q1⟩=>?_
 obtain ⟨a,e,⟨xs,hq⟩,q⟩:=q1
 subst e
 cases r1
 obtain ⟨its,rv,p,hz⟩:=I1.list hq
 refine wpAny_pyIter_list p.isList ?_
 refine ⟨s1.heap.objs.size,[s1.heap.objs.size],_,_,H1,rfl,I1.kept (t' := s1.toks) fun b o e=>Heap.get?_push_of_some _ e,zf8 a _,⟨_,Heap.get?_push_size _ rfl,rfl,rfl⟩,fun b hb=>?_,q⟩
 have e : b = s1.heap.objs.size:=by simpa using hb
 subst e
 exact I1.fpOk (Nat.le_refl _) (I1.hok.fresh (Nat.le_refl _))
theorem ygv {l : Expr} {tl : TE} (hl : PE X l tl) : PI X tg l (iTup X.K tl):=by
 intro pins s σ H R I h
 refine thn (hl pins s σ H _ I h) fun v s1 ⟨x,H1,I1,r1,q1⟩=>?_
 obtain ⟨a,e,⟨xs,hq⟩,q⟩:=q1
 subst e
 cases r1
 obtain ⟨its,rv,p,hz⟩:=I1.tuple hq
 refine wpAny_pyIter_tuple (show s1.heap.IsTuple a its.toArray from p) ?_
 refine ⟨s1.heap.objs.size,[s1.heap.objs.size],_,_,H1,rfl,I1.kept (t' := s1.toks) fun b o e=>Heap.get?_push_of_some _ e,zfB a _,⟨_,Heap.get?_push_size _ rfl,rfl,rfl⟩,fun b hb=>?_,q⟩
 have e : b = s1.heap.objs.size:=by simpa using hb
 subst e
 exact I1.fpOk (Nat.le_refl _) (I1.hok.fresh (Nat.le_refl _))
theorem zd2 {pins : List (Addr × Obj)} {σ : St} {H : Hp} {s : Shared} {R : It -> Hp -> Prop} {E : Value -> Shared -> Prop} {lo hi : Int} {t u v : Tok} {tk : Nat} (I : Inv X pins σ H s) (h1 : -(2 ^ 62) <= lo) (h2 : lo < 2 ^ 62) (h3 : -(2 ^ 62) <= hi) (h4 : hi < 2 ^ 62)
  (q : R (Itr lo (hi - lo).toNat) H) : wpAny (model X.prog X.w) X.A (pyIter (.ref s.heap.objs.size)) (PIE X pins σ tg R) E { s with heap:=s.heap.push { cls:=.type "range",data:=.fields #[.int lo t,.int hi u,.int 1 v] },toks:=tk }:=by
 refine wpAny_pyIter_range (IsRange.new ..) (small_one h1 h2 h3 h4) ?_
 have I1 : Inv X pins σ H { s with heap:=s.heap.push { cls:=.type "range",data:=.fields #[.int lo t,.int hi u,.int 1 v] },toks:=tk }:=I.kept fun b o e=>Heap.get?_push_of_some _ e
 refine ⟨(s.heap.push { cls:=.type "range",data:=.fields #[.int lo t,.int hi u,.int 1 v] }).objs.size,[(s.heap.push { cls:=.type "range",data:=.fields #[.int lo t,.int hi u,.int 1 v] }).objs.size],_,_,H,rfl,
  I1.kept (t' := tk) fun b o e=>Heap.get?_push_of_some _ e,zfC _ lo (hi - lo).toNat,?_,fun b hb=>?_,q⟩
 ·have e1 : lo + ((0 : Nat) : Int) * 1 = lo:=by simp
  have e2 : (((hi - lo).toNat : Nat) : Int) - ((0 : Nat) : Int) = Builtin.Range.rangeSize lo hi 1:=by rw [rangeSize_one]; split<;>omega
  show IsRangeIter _ _ (lo + ((0 : Nat) : Int) * 1) ((((hi - lo).toNat : Nat) : Int) - ((0 : Nat) : Int)) 1
  rw [e1,e2]
  exact Heap.get?_push_size _ rfl
 ·have e : b = (s.heap.push { cls:=.type "range",data:=.fields #[.int lo t,.int hi u,.int 1 v] }).objs.size:=by simpa using hb
  subst e
  exact I1.fpOk (Nat.le_refl _) (I1.hok.fresh (Nat.le_refl _))
def yhH (ta : TA) : TI:=fun σ H R=>ta σ H fun vs H1=>∃ j : Int,vs = [.int j] /\ -(2 ^ 62) <= j /\ j < 2 ^ 62 /\ R (Itr 0 j.toNat) H1
def yhI (ta : TA) : TI:=fun σ H R=>ta σ H fun vs H1=>∃ i j : Int,vs = [.int i,.int j] /\ (-(2 ^ 62) <= i /\ i < 2 ^ 62 /\ -(2 ^ 62) <= j /\ j < 2 ^ 62) /\ R (Itr i (j - i).toNat) H1
theorem zf9 {a : Expr} {ta : TA} {p pos : Pos} (hg : Gl X "range") (hm : X.mg "range" = none) (ha : PA X [a] ta) (hs : starEach [a] X.env = [(false,eval a X.env)]:=by rfl) : PI X tg (.Call (.Name "range" p) [a] [] pos) (yhH ta):=by
 intro pins s σ H R I h
 refine Call_ (ycK I hg hm boot_range (PyProof.Rows.callWith_type1 (thn (ha pos pins s σ H _ I h) fun us s1 ⟨vs,H1,I1,r1,q1⟩=>?_) hs rfl))
 obtain ⟨j,e,q1,q2,q⟩:=q1
 subst e
 cases r1 with
 | cons r rr =>
  cases rr
  obtain ⟨t,rfl⟩:=r
  exact call_range_1 (zd2 I1 (by omega) (by omega) q1 q2 (by simpa using q))
theorem zga {a b : Expr} {ta : TA} {p pos : Pos} (hg : Gl X "range") (hm : X.mg "range" = none) (ha : PA X [a,b] ta) (hs : starEach [a,b] X.env = [(false,eval a X.env),(false,eval b X.env)]:=by rfl) (hs2 : starEach [b] X.env = [(false,eval b X.env)]:=by rfl) :
  PI X tg (.Call (.Name "range" p) [a,b] [] pos) (yhI ta):=by
 intro pins s σ H R I h
 refine Call_ (ycK I hg hm boot_range (PyProof.Rows.callWith_type1 (thn (ha pos pins s σ H _ I h) fun us s1 ⟨vs,H1,I1,r1,q1⟩=>?_) (by rw [hs,hs2]) (by rw [hs2]; rfl)))
 obtain ⟨i,j,e,⟨q1,q2,q3,q4⟩,q⟩:=q1
 subst e
 cases r1 with
 | cons r rr =>
  cases rr with
  | cons r' rr =>
   cases rr
   obtain ⟨t,rfl⟩:=r
   obtain ⟨t',rfl⟩:=r'
   exact call_range_2 (zd2 I1 q1 q2 q3 q4 q)
def tFor (wi : TI) (g : TG) (tb : TS) : TS:=fun D σ H=>wi σ H fun J H1=>∃ W : Nat -> Nat -> St -> Hp -> Prop,(∃ m,W 0 m σ H1) /\ ∀ i m σ H,W i m σ H ->
 (J.stop i H /\ D.nx σ H) \/ (J.go i H /\ ∃ N : St -> Hp -> Prop,(∀ σ' H',N σ' H' -> ∃ m',m' < m /\ W (i + 1) m' σ' H') /\ ∀ x H',J.yld i H x H' -> g x σ H' fun σ2 H2=>tb { D with nx:=N,ct:=N,bk:=D.nx } σ2 H2)
def ycq (fp : List Addr) (h : Heap) : List (Addr × Obj):=fp.filterMap fun b=>(h.get? b).map fun o=>(b,o)
theorem za6 {fp : List Addr} {h : Heap} {b : Addr} {o : Obj} (hb : b ∈ fp) (e : h.get? b = some o) : (b,o) ∈ ycq fp h:=List.mem_filterMap.mpr ⟨b,hb,by rw [e]; rfl⟩
theorem zgb {fp : List Addr} {h : Heap} {p : Addr × Obj} (hp : p ∈ ycq fp h) : p.1 ∈ fp /\ h.get? p.1 = some p.2:=by
 obtain ⟨b,hb,e⟩:=List.mem_filterMap.mp hp
 cases q : h.get? b with
 | none=>rw [q] at e; cases e
 | some o =>
  rw [q] at e
  have e' : (b,o) = p:=Option.some.inj e
  subst e'
  exact ⟨hb,q⟩
theorem Inv.pinned {pins : List (Addr × Obj)} {σ : St} {H : Hp} {s : Shared} {fp : List Addr} (I : Inv X pins σ H s) (hf : ∀ b ∈ fp,FpOk X pins H b) (ho : ∀ b ∈ fp,∃ o,s.heap.get? b = some o /\ ∀ v,o.data ≠ .cell v) : Inv X (pins++ycq fp s.heap) σ H s :=
 I.pins_of fun p hp=>(List.mem_append.mp hp).elim (fun z=>I.pin p (List.mem_append_right _ z)) fun z=>by
  obtain ⟨hb,e⟩:=zgb z
  obtain ⟨f0,f1,f2,_⟩:=hf p.1 hb
  obtain ⟨o,e',d⟩:=ho p.1 hb
  rw [e] at e'; cases e'
  exact ⟨e,f0,f1,f2,d⟩
theorem Inv.unpinned {pins pl : List (Addr × Obj)} {σ : St} {H : Hp} {s : Shared} (I : Inv X (pins++pl) σ H s) : Inv X pins σ H s:=I.pins_of fun p hp=>I.pin p (List.mem_append_right _ (List.mem_append_left _ hp))
theorem ygw {iter : Expr} {body : List Stmt} {wi : TI} {g : TG} {tb : TS} {pos : Pos} (hp : PassesOwn (model X.prog X.w) X.A X.env X.xe) (hc : X.calm = true) (hi : PI X tg iter wi) (hg : PG X tg g) (hb : PSs X body tb)
  (hs : ∀ x,foldedSetIterable iter X.env x = pure x:=by intro _; rfl) : PS X (.For tg iter body [] pos) (tFor wi g tb):=by
 intro pins s σ H D I h
 refine wpAny_For (thn (hi pins s σ H _ I h) fun v s1 h1=>thn h1 fun itv s2 h2=>?_) hs
 obtain ⟨it,fp,tn,J,H2,e,I2,T,st2,f2,W,⟨m0,w0⟩,turn⟩:=h2
 subst e
 have stat : ∀ {H' : Hp},(∀ b ∈ fp,H' b = none) -> ∀ b ∈ fp,FpOk X pins H' b:=fun hn b hb=>⟨hn b hb,(f2 b hb).2⟩
 refine codeAny_forLoop_any (fun n s' => ∃ i σ' H',Inv X pins σ' H' s' /\ tn i s'.heap /\ (∀ b ∈ fp,H' b = none) /\ W i n σ' H') ?_ m0 ⟨0,σ,H2,I2,st2,fun b hb=>(f2 b hb).1,w0⟩
 rintro n s3 ⟨i,σ3,H3,I3,st3,fr3,w3⟩
 rcases turn i n σ3 H3 w3 with ⟨stop,qn⟩ | ⟨go,N,hN,step⟩
 ·refine wpAny_passesOwn hp (thn (T.done X rfl rfl rfl hc i pins s3 σ3 H3 X.xe I3 (stat fr3) st3 stop) fun r s4 ⟨hr,I4⟩=>?_)
  subst hr
  exact wpAny_execs_nil ⟨σ3,H3,I4,qn⟩
 ·refine wpAny_passesOwn hp (thn (T.item X rfl rfl rfl hc i pins s3 σ3 H3 X.xe I3 (stat fr3) st3 go) fun r s4 ⟨u,hr,h4⟩=>?_)
  subst hr
  refine wpAny_passesOwn hp (thn h4 fun _ s5 ⟨x,H5,I5,r5,y5,st5,fr5⟩=>?_)
  have I5' := I5.pinned (stat fr5) (T.obj _ _ st5)
  refine wpAny_passesOwn hp (thn (hg _ s5 σ3 H5 x u _ I5' r5 (step x H5 y5)) fun _ s6 ⟨σ6,H6,I6,q6⟩=>?_)
  refine wpAny_passesOwn hp (thn (hb _ s6 σ6 H6 _ I6 q6) fun f s7 q7=>?_)
  have again : ∀ {σ7 : St} {H7 : Hp},Inv X (pins++ycq fp s5.heap) σ7 H7 s7 -> N σ7 H7 -> ∃ m,m < n /\ ∃ i σ' H',Inv X pins σ' H' s7 /\ tn i s7.heap /\ (∀ b ∈ fp,H' b = none) /\ W i m σ' H' := fun {σ7 H7} I7 n7=>by
   obtain ⟨m',hm,w7⟩:=hN σ7 H7 n7
   refine ⟨m',hm,i + 1,σ7,H7,I7.unpinned,T.keep _ _ _ st5 fun b hb o e=>(I7.pin (b,o) (List.mem_append_right _ (List.mem_append_right _ (za6 hb e)))).1,fun b hb=>?_,w7⟩
   obtain ⟨o,e,d⟩:=T.obj _ _ st5 b hb
   exact (I7.pin (b,o) (List.mem_append_right _ (List.mem_append_right _ (za6 hb e)))).2.1
  cases f with
  | next=>obtain ⟨σ7,H7,I7,n7⟩:=q7; exact again I7 n7
  | cont=>obtain ⟨σ7,H7,I7,n7⟩:=q7; exact again I7 n7
  | brk=>obtain ⟨σ7,H7,I7,q7⟩:=q7; exact ⟨σ7,H7,I7.unpinned,q7⟩
  | ret v=>obtain ⟨x7,σ7,H7,I7,r7,q7⟩:=q7; exact ⟨x7,σ7,H7,I7.unpinned,r7,q7⟩
end
end L2
namespace L2
open PySem PySem.Spec PyProof.Rows
abbrev R2:=V -> V -> Hp -> VK -> Prop
def OpR (X : Cx) (f : Value -> Value -> Sem Value) (r : R2) : Prop :=
 ∀ (pins : List (Addr × Obj)) (s : Shared) (σ : St) (H : Hp) (x y : V) (v u : Value) (Q : VK),Inv X pins σ H s -> RelV x v -> RelV y u -> r x y H Q ->
  wpAny (model X.prog X.w) X.A (f v u) (EP X pins σ Q) X.xe s
def UnR (X : Cx) (f : Value -> Sem Value) (r : V -> Hp -> VK -> Prop) : Prop :=
 ∀ (pins : List (Addr × Obj)) (s : Shared) (σ : St) (H : Hp) (x : V) (v : Value) (Q : VK),Inv X pins σ H s -> RelV x v -> r x H Q ->
  wpAny (model X.prog X.w) X.A (f v) (EP X pins σ Q) X.xe s
def CallR (X : Cx) (f : Value) (r : List V -> Hp -> VK -> Prop) : Prop :=
 ∀ (pins : List (Addr × Obj)) (s : Shared) (σ : St) (H : Hp) (xs : List V) (us : List Value) (Q : VK),Inv X pins σ H s -> Vals xs us -> r xs H Q ->
  wpAny (model X.prog X.w) X.A (call f us) (EP X pins σ Q) X.xe s
def TruR (X : Cx) (r : V -> Hp -> (Bool -> Hp -> Prop) -> Prop) : Prop :=
 ∀ (pins : List (Addr × Obj)) (s : Shared) (σ : St) (H : Hp) (x : V) (v : Value) (Q : Bool -> Hp -> Prop),Inv X pins σ H s -> RelV x v -> r x H Q ->
  wpAny (model X.prog X.w) X.A (truthy v) (TP X pins σ Q) X.xe s
def tOp (r : R2) (ta tb : TE) : TE:=fun σ H Q=>ta σ H fun x H1=>tb σ H1 fun y H2=>r x y H2 Q
def tUn (r : V -> Hp -> VK -> Prop) (ta : TE) : TE:=fun σ H Q=>ta σ H fun x H1=>r x H1 Q
def rI (C : Int -> Int -> Prop) (g : Int -> Int -> V) : R2:=fun x y H Q=>∃ i j,x = .int i /\ y = .int j /\ C i j /\ Q (g i j) H
def rI0 (g : Int -> Int -> V) : R2:=fun x y H Q=>∃ i j,x = .int i /\ y = .int j /\ Q (g i j) H
def rU (g : Int -> V) : V -> Hp -> VK -> Prop:=fun x H Q=>∃ i,x = .int i /\ Q (g i) H
section
variable {X : Cx} {a b c : Expr} {ta tb tc : TE} {pos : Pos}
theorem binT (ha : PE X a ta) (hb : PE X b tb) {pins : List (Addr × Obj)} {s : Shared} {σ : St} {H : Hp} {R : V -> V -> Hp -> Prop} (I : Inv X pins σ H s)
  (h : ta σ H fun x H1=>tb σ H1 fun y H2=>R x y H2) {Q : Value -> Shared -> Prop} {f : Value -> Value -> Sem Value}
  (hf : ∀ v u s2 x y H2,Inv X pins σ H2 s2 -> RelV x v -> RelV y u -> R x y H2 -> wpAny (model X.prog X.w) X.A (f v u) Q X.xe s2) :
  wpAny (model X.prog X.w) X.A (eval a X.env) (fun v s₁=>wpAny (model X.prog X.w) X.A (eval b X.env) (fun u s₂=>wpAny (model X.prog X.w) X.A (f v u) Q X.xe s₂) X.xe s₁) X.xe s:=by
 refine thn (ha pins s σ H _ I h) fun v s1 ⟨x,H1,I1,r1,q1⟩=>?_
 refine thn (hb pins s1 σ H1 _ I1 q1) fun u s2 ⟨y,H2,I2,r2,q2⟩=>?_
 exact hf v u s2 x y H2 I2 r1 r2 q2
theorem yhJ {op : Operator} {r : R2} (ho : OpR X (binaryOp op) r) (ha : PE X a ta) (hb : PE X b tb) : PE X (.BinOp a op b pos) (tOp r ta tb):=by
 intro pins s σ H Q I h
 exact wpAny_BinOp (binT ha hb I h fun v u s2 x y H2 I2 rx ry q=>ho pins s2 σ H2 x y v u Q I2 rx ry q)
theorem yhK {op : UnaryOp} {r : V -> Hp -> VK -> Prop} (ho : UnR X (unaryOp op) r) (ha : PE X a ta) : PE X (.UnaryOp op a pos) (tUn r ta):=by
 intro pins s σ H Q I h
 exact UnaryOp_ (thn (ha pins s σ H _ I h) fun v s1 ⟨x,H1,I1,r1,q1⟩=>ho pins s1 σ H1 x v Q I1 r1 q1)
theorem opI {f : Value -> Value -> Sem Value} {C : Int -> Int -> Prop} {g : Int -> Int -> Int}
  (rule : ∀ (i j : Int) (t u : Tok) (s : Shared) (Q : Value -> Shared -> Prop) (E : Value -> Shared -> Prop),C i j -> Q (.int (g i j) s.toks) { s with toks:=s.toks + 1 } -> wpAny (model X.prog X.w) X.A (f (.int i t) (.int j u)) Q E s) :
  OpR X f (rI C fun i j=>.int (g i j)):=by
 intro pins s σ H x y v u Q I rx ry h
 obtain ⟨i,j,rfl,rfl,hc,q⟩:=h
 obtain ⟨t,rfl⟩:=rx
 obtain ⟨t',rfl⟩:=ry
 exact rule i j t t' s _ _ hc ⟨.int (g i j),H,I.tok _,⟨_,rfl⟩,q⟩
theorem opI0 {f : Value -> Value -> Sem Value} {g : Int -> Int -> Int}
  (rule : ∀ (i j : Int) (t u : Tok) (s : Shared) (Q : Value -> Shared -> Prop) (E : Value -> Shared -> Prop),Q (.int (g i j) s.toks) { s with toks:=s.toks + 1 } -> wpAny (model X.prog X.w) X.A (f (.int i t) (.int j u)) Q E s) :
  OpR X f (rI0 fun i j=>.int (g i j)):=by
 intro pins s σ H x y v u Q I rx ry h
 obtain ⟨i,j,rfl,rfl,q⟩:=h
 obtain ⟨t,rfl⟩:=rx
 obtain ⟨t',rfl⟩:=ry
 exact rule i j t t' s _ _ ⟨.int (g i j),H,I.tok _,⟨_,rfl⟩,q⟩
theorem opB0 {f : Value -> Value -> Sem Value} {g : Int -> Int -> Bool}
  (rule : ∀ (i j : Int) (t u : Tok) (s : Shared) (Q : Value -> Shared -> Prop) (E : Value -> Shared -> Prop),Q (.bool (g i j)) s -> wpAny (model X.prog X.w) X.A (f (.int i t) (.int j u)) Q E s) :
  OpR X f (rI0 fun i j=>.bl (g i j)):=by
 intro pins s σ H x y v u Q I rx ry h
 obtain ⟨i,j,rfl,rfl,q⟩:=h
 obtain ⟨t,rfl⟩:=rx
 obtain ⟨t',rfl⟩:=ry
 exact rule i j t t' s _ _ ⟨.bl (g i j),H,I,rfl,q⟩
def CPow (i j : Int) : Prop:=0 <= j /\ j <= 1000000 /\ i.natAbs < 2 ^ 64
def CMul (i j : Int) : Prop:=(-(2 ^ 64) < i /\ i < 2 ^ 64) \/ (-(2 ^ 64) < j /\ j < 2 ^ 64)
theorem CMul.ok {i j : Int} (h : CMul i j) : IntMulOk i j:=by
 rcases h with ⟨h1,h2⟩ | ⟨h1,h2⟩
 ·exact .of_left (intBits_le_64 h1 h2)
 ·exact .of_right (intBits_le_64 h1 h2)
theorem op_add : OpR X (binaryOp .Add) (rI0 fun i j=>.int (i + j)):=opI0 fun _ _ _ _ _ _ _ q=>add_int q
theorem ygx : OpR X (binaryOp .Sub) (rI0 fun i j=>.int (i - j)):=opI0 fun _ _ _ _ _ _ _ q=>sub_int q
theorem ygy : OpR X (binaryOp .Mod) (rI (fun _ j=>0 < j) fun i j=>.int (i % j)):=opI fun i j _ _ _ _ _ hc q=>by
 have h1 : (0 : Int) < j:=hc
 exact mod_int' (by omega) (by rw [Int.fmod_eq_emod_of_nonneg i (by omega)]; exact q)
theorem ygz : OpR X (binaryOp .Pow) (rI CPow fun i j=>.int (i ^ j.toNat)):=opI fun _ _ _ _ _ _ _ hc q=>pow_int_small hc.1 hc.2.1 hc.2.2 q
theorem unI {f : Value -> Sem Value} {g : Int -> Int}
  (rule : ∀ (i : Int) (t : Tok) (s : Shared) (Q : Value -> Shared -> Prop) (E : Value -> Shared -> Prop),Q (.int (g i) s.toks) { s with toks:=s.toks + 1 } -> wpAny (model X.prog X.w) X.A (f (.int i t)) Q E s) :
  UnR X f (rU fun i=>.int (g i)):=by
 intro pins s σ H x v Q I rx h
 obtain ⟨i,rfl,q⟩:=h
 obtain ⟨t,rfl⟩:=rx
 exact rule i t s _ _ ⟨.int (g i),H,I.tok _,⟨_,rfl⟩,q⟩
theorem ygA : UnR X (unaryOp .USub) (rU fun i=>.int (-i)):=unI fun _ _ _ _ _ q=>neg_int q
end
def scal : V -> V -> Bool
 | .non,.non=>true | .non,.int _=>true | .int _,.non=>true | .non,.bl _=>true | .bl _,.non=>true | .non,.str _=>true | .str _,.non=>true
 | .int _,.int _=>true | .bl _,.bl _=>true | .str _,.str _=>true | .byt _,.byt _=>true
 | .int _,.str _=>true | .str _,.int _=>true | .bl _,.str _=>true | .str _,.bl _=>true
 | _,_=>false
def rEq : R2:=fun x y H Q=>scal x y = true /\ Q (.bl (decide (x = y))) H
def rNe : R2:=fun x y H Q=>scal x y = true /\ Q (.bl (!decide (x = y))) H
theorem zeY {i j : Int} : decide (V.int i = V.int j) = (i == j):=by
 rw [Bool.eq_iff_iff]
 simp
theorem yfb {i j : Bool} : decide (V.bl i = V.bl j) = (i == j):=by
 rw [Bool.eq_iff_iff]
 simp
theorem zeZ {i j : Str} : decide (V.str i = V.str j) = (i == j):=by
 rw [Bool.eq_iff_iff]
 simp
theorem ze0 {i j : Array UInt8} : decide (V.byt i = V.byt j) = (i.toList == j.toList):=by
 rw [Bool.eq_iff_iff]
 cases i
 cases j
 simp
section
variable {X : Cx} {a b c : Expr} {ta tb tc : TE} {pos : Pos}
theorem yaH {pins : List (Addr × Obj)} {σ : St} {H : Hp} {s : Shared} {Q : VK} {k k' : Bool} (I : Inv X pins σ H s) (q : Q (.bl k) H) (e : k = k') : EP X pins σ Q (.bool k') s:=by
 subst e
 exact ⟨.bl k,H,I,rfl,q⟩
theorem op_eq : OpR X (compareOp .Eq) rEq:=by
 intro pins s σ H x y v u Q I rx ry h
 obtain ⟨hs,q⟩:=h
 cases x with
 | non =>
  cases rx
  cases y with
  | non=>cases ry; exact PySem.EqNone.eq_none_none (yaH I q (by simp))
  | bl j=>cases ry; exact PySem.EqNone.eq_none_bool (yaH I q (by simp))
  | int j=>obtain ⟨t',rfl⟩:=ry; exact PySem.EqNone.eq_none_int (yaH I q (by simp))
  | str j=>obtain ⟨t',rfl⟩:=ry; exact PySem.EqNone.eq_none_str (yaH I q (by simp))
  | _=>exact absurd (show false = true from hs) Bool.false_ne_true
 | bl i =>
  cases rx
  cases y with
  | non=>cases ry; exact PySem.EqNone.eq_bool_none (yaH I q (by simp))
  | bl j=>cases ry; exact eq_bool (yaH I q yfb)
  | str j=>obtain ⟨t',rfl⟩:=ry; exact PySem.EqMixed.eq_bool_str (yaH I q (by simp))
  | _=>exact absurd (show false = true from hs) Bool.false_ne_true
 | int i =>
  obtain ⟨t,rfl⟩:=rx
  cases y with
  | non=>cases ry; exact PySem.EqNone.eq_int_none (yaH I q (by simp))
  | int j=>obtain ⟨t',rfl⟩:=ry; exact eq_int (yaH I q zeY)
  | str j=>obtain ⟨t',rfl⟩:=ry; exact PySem.EqMixed.eq_int_str (yaH I q (by simp))
  | _=>exact absurd (show false = true from hs) Bool.false_ne_true
 | str i =>
  obtain ⟨t,rfl⟩:=rx
  cases y with
  | non=>cases ry; exact PySem.EqNone.eq_str_none (yaH I q (by simp))
  | bl j=>cases ry; exact PySem.EqMixed.eq_str_bool (yaH I q (by simp))
  | int j=>obtain ⟨t',rfl⟩:=ry; exact PySem.EqMixed.eq_str_int (yaH I q (by simp))
  | str j=>obtain ⟨t',rfl⟩:=ry; exact eq_str (yaH I q zeZ)
  | _=>exact absurd (show false = true from hs) Bool.false_ne_true
 | byt i =>
  obtain ⟨t,rfl⟩:=rx
  cases y with
  | byt j=>obtain ⟨t',rfl⟩:=ry; exact PySem.W.eq_bytes (yaH I q ze0)
  | _=>exact absurd (show false = true from hs) Bool.false_ne_true
 | _=>cases y<;>exact absurd (show false = true from hs) Bool.false_ne_true
theorem op_ne : OpR X (compareOp .NotEq) rNe:=by
 intro pins s σ H x y v u Q I rx ry h
 obtain ⟨hs,q⟩:=h
 cases x with
 | non =>
  cases rx
  cases y with
  | non=>cases ry; exact PySem.EqNone.ne_none_none (yaH I q (by simp))
  | bl j=>cases ry; exact PySem.EqNone.ne_none_bool (yaH I q (by simp))
  | int j=>obtain ⟨t',rfl⟩:=ry; exact PySem.EqNone.ne_none_int (yaH I q (by simp))
  | str j=>obtain ⟨t',rfl⟩:=ry; exact PySem.EqNone.ne_none_str (yaH I q (by simp))
  | _=>exact absurd (show false = true from hs) Bool.false_ne_true
 | bl i =>
  cases rx
  cases y with
  | non=>cases ry; exact PySem.EqNone.ne_bool_none (yaH I q (by simp))
  | bl j=>cases ry; exact ne_bool (yaH I q (congrArg not yfb))
  | str j=>obtain ⟨t',rfl⟩:=ry; exact PySem.EqMixed.ne_bool_str (yaH I q (by simp))
  | _=>exact absurd (show false = true from hs) Bool.false_ne_true
 | int i =>
  obtain ⟨t,rfl⟩:=rx
  cases y with
  | non=>cases ry; exact PySem.EqNone.ne_int_none (yaH I q (by simp))
  | int j=>obtain ⟨t',rfl⟩:=ry; exact ne_int (yaH I q (congrArg not zeY))
  | str j=>obtain ⟨t',rfl⟩:=ry; exact PySem.EqMixed.ne_int_str (yaH I q (by simp))
  | _=>exact absurd (show false = true from hs) Bool.false_ne_true
 | str i =>
  obtain ⟨t,rfl⟩:=rx
  cases y with
  | non=>cases ry; exact PySem.EqNone.ne_str_none (yaH I q (by simp))
  | bl j=>cases ry; exact PySem.EqMixed.ne_str_bool (yaH I q (by simp))
  | int j=>obtain ⟨t',rfl⟩:=ry; exact PySem.EqMixed.ne_str_int (yaH I q (by simp))
  | str j=>obtain ⟨t',rfl⟩:=ry; exact ne_str (yaH I q (congrArg not zeZ))
  | _=>exact absurd (show false = true from hs) Bool.false_ne_true
 | byt i =>
  obtain ⟨t,rfl⟩:=rx
  cases y with
  | byt j=>obtain ⟨t',rfl⟩:=ry; exact PySem.W.ne_bytes (yaH I q (congrArg not ze0))
  | _=>exact absurd (show false = true from hs) Bool.false_ne_true
 | _=>cases y<;>exact absurd (show false = true from hs) Bool.false_ne_true
theorem op_le : OpR X (compareOp .LtE) (rI0 fun i j=>.bl (decide (i <= j))):=opB0 fun _ _ _ _ _ _ _ q=>le_int q
theorem yhL : OpR X (compareOp .Gt) (rI0 fun i j=>.bl (decide (j < i))):=opB0 fun _ _ _ _ _ _ _ q=>gt_int q
theorem yhM : OpR X (compareOp .GtE) (rI0 fun i j=>.bl (decide (j <= i))):=opB0 fun _ _ _ _ _ _ _ q=>ge_int q
theorem ygB : OpR X (compareOp .Is) (fun x y H Q=>y = .non /\ Q (.bl (decide (x = .non))) H):=by
 intro pins s σ H x y v u Q I rx ry h
 obtain ⟨rfl,q⟩:=h
 cases ry
 refine is_none_gen (yaH I q ?_)
 cases x<;>first
  | (cases rx; rfl)
  | (obtain ⟨t,rfl⟩:=rx; rfl)
theorem OpR.or {f : Value -> Value -> Sem Value} {r r' : R2} (h : OpR X f r) (h' : OpR X f r') : OpR X f (fun x y H Q=>r x y H Q \/ r' x y H Q):=by
 intro pins s σ H x y v u Q I rx ry q
 rcases q with q | q
 ·exact h pins s σ H x y v u Q I rx ry q
 ·exact h' pins s σ H x y v u Q I rx ry q
theorem yar (b : Expr) {op : CmpOp} (h : op ≠ .In:=by decide) (h2 : op ≠ .NotIn:=by decide) : behindInMarks op b = false:=by
 have e1 : (op == CmpOp.In) = false:=by cases op<;>first | rfl | exact absurd rfl h
 have e2 : (op == CmpOp.NotIn) = false:=by cases op<;>first | rfl | exact absurd rfl h2
 cases b<;>simp [behindInMarks,e1,e2]
theorem zh4 {op : CmpOp} {r : R2} (ho : OpR X (compareOp op) r) (ha : PE X a ta) (hb : PE X b tb) (hm : behindInMarks op b = false) : PE X (.Compare a [op] [b] pos) (tOp r ta tb):=by
 intro pins s σ H Q I h
 exact wpAny_Compare1 (binT ha hb I h fun v u s2 x y H2 I2 rx ry q=>ho pins s2 σ H2 x y v u Q I2 rx ry q) hm
def yfQ (t : TE) : TT:=fun σ H Q=>t σ H fun x H' => ∃ k,x = .bl k /\ Q k H'
theorem zh5 {op : CmpOp} {r : R2} (ho : OpR X (compareOp op) r) (ha : PE X a ta) (hb : PE X b tb) (hm : behindInMarks op b = false) : PT X (.Compare a [op] [b] pos) (yfQ (tOp r ta tb)):=by
 intro pins s σ H Q I h
 refine wpAny_isTrue_Compare1 (thn (ha pins s σ H _ I h) fun v s1 ⟨x,H1,I1,r1,q1⟩=>thn (hb pins s1 σ H1 _ I1 q1) fun u s2 ⟨y,H2,I2,r2,q2⟩ =>
  thn (ho pins s2 σ H2 x y v u _ I2 r1 r2 q2) fun c s3 ⟨z,H3,I3,r3,k,e,q3⟩=>?_) hm
 subst e
 cases r3
 exact wpAny_truthy_bool ⟨H3,I3,q3⟩
def yeB (r r' : R2) (ta tb tc : TE) : TE:=fun σ H Q=>ta σ H fun x H1=>tb σ H1 fun y H2=>r x y H2 fun z H3=>∃ k,z = .bl k /\
 (if k = true then tc σ H3 fun w' H4=>r' y w' H4 Q else Q (.bl false) H3)
theorem zg7 {op op' : CmpOp} {r r' : R2} (ho : OpR X (compareOp op) r) (ho' : OpR X (compareOp op') r') (ha : PE X a ta) (hb : PE X b tb) (hc : PE X c tc)
  (hm : lastMarks [op,op'] [b,c] = false:=by with_unfolding_all rfl) : PE X (.Compare a [op,op'] [b,c] pos) (yeB r r' ta tb tc):=by
 intro pins s σ H Q I h
 refine Compare_chain (thn (ha pins s σ H _ I h) fun v s1 ⟨x,H1,I1,r1,q1⟩=>chain_link (thn (hb pins s1 σ H1 _ I1 q1) fun u s2 ⟨y,H2,I2,r2,q2⟩ =>
  thn (ho pins s2 σ H2 x y v u _ I2 r1 r2 q2) fun d s3 ⟨z,H3,I3,r3,k,e,q3⟩=>?_)) hm
 subst e
 cases r3
 refine wpAny_truthy_bool ?_
 cases k with
 | false=>exact ite_ff ⟨.bl false,H3,I3,rfl,q3⟩
 | true=>exact ite_tt (chain_last (thn (hc pins s3 σ H3 _ I3 q3) fun w' s4 ⟨z',H4,I4,r4,q4⟩=>ho' pins s4 σ H4 y z' u w' Q I4 r2 r4 q4))
theorem zg8 {op op' : CmpOp} {r r' : R2} (ho : OpR X (compareOp op) r) (ho' : OpR X (compareOp op') r') (ha : PE X a ta) (hb : PE X b tb) (hc : PE X c tc)
  (hm : lastMarks [op,op'] [b,c] = false:=by with_unfolding_all rfl) : PT X (.Compare a [op,op'] [b,c] pos) (yfQ (yeB r r' ta tb tc)):=by
 intro pins s σ H Q I h
 refine isTrue_chain (thn (ha pins s σ H _ I h) fun v s1 ⟨x,H1,I1,r1,q1⟩=>test_link (thn (hb pins s1 σ H1 _ I1 q1) fun u s2 ⟨y,H2,I2,r2,q2⟩ =>
  thn (ho pins s2 σ H2 x y v u _ I2 r1 r2 q2) fun d s3 ⟨z,H3,I3,r3,k,e,q3⟩=>?_)) hm
 subst e
 cases r3
 refine wpAny_truthy_bool ?_
 cases k with
 | false =>
  obtain ⟨k',e',q'⟩:=q3
  cases e'
  exact ite_ff ⟨H3,I3,q'⟩
 | true =>
  refine ite_tt (test_last (thn (hc pins s3 σ H3 _ I3 q3) fun w' s4 ⟨z',H4,I4,r4,q4⟩=>thn (ho' pins s4 σ H4 y z' u w' _ I4 r2 r4 q4) fun d' s5 ⟨z2,H5,I5,r5,k2,e2,q5⟩=>?_))
  subst e2
  cases r5
  exact wpAny_truthy_bool ⟨H5,I5,q5⟩
def TruV (K : PySem.W.Frag) (x : V) (H : Hp) (k : Bool) : Prop :=
 match x with
 | .non=>k = false
 | .bl b=>k = b
 | .int i=>k = (i != 0)
 | .str y=>y.length <= sizeLine /\ k = ((y.length : Int) != 0)
 | .byt y=>y.size <= sizeLine /\ k = ((y.size : Int) != 0)
 | .ref p=>(∃ xs,SqL K H p xs /\ k = !xs.isEmpty) \/ (∃ xs,SqT K H p xs /\ k = !xs.isEmpty) \/ ∃ kvs,H p = some (.dK kvs) /\ k = !kvs.isEmpty
 | _=>False
theorem zfD {κ : Type} {kvs : List (κ × V)} {vs : List (κ × Value)} (r : KV kvs vs) : (!vs.isEmpty) = !kvs.isEmpty:=by
 cases r<;>rfl
theorem zcJ {xs : List V} {its : List Value} (r : Vals xs its) : (!its.toArray.isEmpty) = !xs.isEmpty:=by
 cases r<;>simp
theorem yc2 : (sizeLine : Nat) < 2 ^ 63:=by rw [sizeLine_eq]; decide
theorem ygC : TruR X (fun x H Q=>∃ k,TruV X.K x H k /\ Q k H):=by
 intro pins s σ H x v Q I rx h
 obtain ⟨k,e,q⟩:=h
 have hl:=yc2
 have hs : sizeLine = 16777216:=sizeLine_eq
 cases x with
 | non =>
  cases rx
  have e' : k = false:=e
  subst e'
  exact truthy_none ⟨H,I,q⟩
 | bl b =>
  cases rx
  have e' : k = b:=e
  subst e'
  exact wpAny_truthy_bool ⟨H,I,q⟩
 | int i =>
  obtain ⟨t,rfl⟩:=rx
  have e' : k = (i != 0):=e
  subst e'
  exact PySem.P.truthy_int ⟨H,I,q⟩
 | str y =>
  obtain ⟨t,rfl⟩:=rx
  obtain ⟨hy,e'⟩ : y.length <= sizeLine /\ k = ((y.length : Int) != 0):=e
  subst e'
  exact PySem.P.truthy_str (by omega) ⟨H,I.tok _,q⟩
 | byt y =>
  obtain ⟨t,rfl⟩:=rx
  obtain ⟨hy,e'⟩ : y.size <= sizeLine /\ k = ((y.size : Int) != 0):=e
  subst e'
  exact PySem.W.truthy_bytes (by omega) ⟨H,I.tok _,q⟩
 | ref p =>
  cases rx
  have e' : (∃ xs,SqL X.K H p xs /\ k = !xs.isEmpty) \/ (∃ xs,SqT X.K H p xs /\ k = !xs.isEmpty) \/ ∃ kvs,H p = some (.dK kvs) /\ k = !kvs.isEmpty:=e
  rcases e' with ⟨xs,hx,e'⟩ | ⟨xs,hx,e'⟩ | ⟨kvs,hx,e'⟩
  ·subst e'
   obtain ⟨its,r,pl,hz⟩:=I.list hx
   have hlen:=r.length
   exact wpAny_truthy_list pl.isList (by simp only [List.size_toArray]; omega) ⟨H,I.tok _,by rw [zcJ r]; exact q⟩
  ·subst e'
   obtain ⟨its,r,pl,hz⟩:=I.tuple hx
   have hlen:=r.length
   exact truthy_tuple pl (by simp only [List.size_toArray]; omega) ⟨H,I.tok _,by rw [zcJ r]; exact q⟩
  ·subst e'
   obtain ⟨hz,hS,vs,r,m⟩ : kvs.length <= sizeLine /\ (p == sysModules) = false /\ ∃ vs,KV kvs vs /\ s.heap.DictOf (ybL X.prog X.w) p vs:=I.hok p _ hx
   have hlen : kvs.length = vs.length:=Paired.length r
   exact wpAny_truthy_dict hS m (by omega) ⟨H,I.tok _,by rw [zfD r]; exact q⟩
 | _=>exact (show False from e).elim
theorem zg9 (ha : PE X a ta) (he : ∀ whole,isTrue a X.env whole = (do let v <- whole; standAt a.pos; holding [v] (truthy v))) :
  PT X a (fun σ H Q=>ta σ H fun x H' => ∃ k,TruV X.K x H' k /\ Q k H'):=by
 intro pins s σ H Q I h
 exact isTrue_plain (thn (ha pins s σ H _ I h) fun v s1 ⟨x,H1,I1,r1,q1⟩=>ygC pins s1 σ H1 x v Q I1 r1 q1) (he _)
theorem zfE : OpR X (binaryOp .Add) (fun x y H Q=>∃ i j,x = .str i /\ y = .str j /\ i.length + j.length <= sizeLine /\ Q (.str (i++j)) H):=by
 intro pins s σ H x y v u Q I rx ry h
 obtain ⟨i,j,rfl,rfl,hz,q⟩:=h
 obtain ⟨t,rfl⟩:=rx
 obtain ⟨t',rfl⟩:=ry
 exact add_str (fun t' tk=>⟨.str (i++j),H,I.tok _,⟨_,rfl⟩,q⟩) hz
theorem ybP {x : V} {us : List Value} (r : Vals [x] us) : ∃ u,us = [u] /\ RelV x u:=by
 cases r with
 | cons r1 r2=>cases r2; exact ⟨_,rfl,r1⟩
theorem yeU {x y : V} {us : List Value} (r : Vals [x,y] us) : ∃ u w',us = [u,w'] /\ RelV x u /\ RelV y w' := by
 cases r with
 | cons r1 r2 =>
  cases r2 with
  | cons r3 r4=>cases r4; exact ⟨_,_,rfl,r1,r3⟩
theorem zha : CallR X (.builtin "abs") (fun xs H Q=>∃ i,xs = [.int i] /\ Q (.int (if i < 0 then -i else i)) H):=by
 intro pins s σ H xs us Q I r h
 obtain ⟨i,rfl,q⟩:=h
 obtain ⟨u,rfl,t,rfl⟩:=ybP r
 exact call_abs_int fun u tk=>⟨.int (if i < 0 then -i else i),H,I.tok _,⟨_,rfl⟩,q⟩
theorem zgc (hc : X.calm = true) : CallR X (.builtin "max") (fun xs H Q=>∃ i j,xs = [.int i,.int j] /\ Q (.int (if j > i then j else i)) H):=by
 intro pins s σ H xs us Q I r h
 obtain ⟨i,j,rfl,q⟩:=h
 obtain ⟨u,w',rfl,⟨t,rfl⟩,⟨t',rfl⟩⟩:=yeU r
 refine max_two_ints (I.ok.hd hc) fun h' tk k=>⟨_,H,I.kept k,?_,q⟩
 by_cases hj : j > i
 ·rw [if_pos hj,if_pos hj]; exact ⟨_,rfl⟩
 ·rw [if_neg hj,if_neg hj]; exact ⟨_,rfl⟩
theorem zgd : CallR X (.type "int") (fun xs H Q=>(∃ i,xs = [.int i] /\ Q (.int i) H) \/ ∃ k,xs = [.bl k] /\ Q (.int (if k then 1 else 0)) H):=by
 intro pins s σ H xs us Q I r h
 rcases h with ⟨i,rfl,q⟩ | ⟨k,rfl,q⟩
 ·obtain ⟨u,rfl,t,rfl⟩:=ybP r
  exact call_int_int ⟨.int i,H,I,⟨_,rfl⟩,q⟩
 ·obtain ⟨u,rfl,r1⟩:=ybP r
  cases r1
  exact call_int_bool ⟨.int (if k then 1 else 0),H,I.tok _,⟨_,rfl⟩,q⟩
end
end L2
namespace L2
open PySem PySem.Spec PyProof.Rows
structure ObjM (h : Heap) (x dx C : Addr) (mA : Str -> Option Value) : Prop where
 obj : h.get? x = some (PySem.W.instObj C dx)
 ns : h.Ns1 dx mA
 ne : dx ≠ x
theorem zge {h : Heap} {dx : Addr} {mA : Str -> Option Value} (n : h.Ns1 dx mA) : ∃ od,h.get? dx = some od /\ ∀ name,PySem.W.lookIn name od = some (mA name):=by
 obtain ⟨o,es,ep,ho,hd,hk,_,hm⟩:=n
 refine ⟨o,ho,fun name=>?_⟩
 have e:=hm name
 unfold nsFind findBy at e
 rw [<- Array.find?_toList] at e
 unfold PySem.W.lookIn
 rw [hd]
 dsimp only
 split
 ·rename_i y q
  rw [q] at e
  exact congrArg some e
 ·rename_i q
  rw [q] at e
  have a : es.toList.any (·.refKey) = false:=by
   rw [List.any_eq_false]
   intro y hy
   obtain ⟨z,t,hkey⟩:=hk y (Array.mem_toList_iff.mp hy)
   simp [DictEntry.refKey,hkey]
  have a' : ¬ es.toList.any (·.refKey) = true:=by rw [a]; exact Bool.false_ne_true
  rw [if_neg a']
  exact congrArg some e
theorem ObjM.look {h : Heap} {x dx C : Addr} {mA : Str -> Option Value} (I : ObjM h x dx C mA) : ∃ od,PySem.W.InstAt h x (PySem.W.instObj C dx) C (some od) /\ ∀ name,PySem.W.lookIn name od = some (mA name) :=
 let ⟨od,ho,hl⟩:=zge I.ns
 ⟨od,⟨I.obj,rfl,rfl,ho⟩,hl⟩
section
variable {prog : Program} {w : World} {A : Around} {E : Value -> Shared -> Prop} {s : Shared} {K : PySem.W.Frag} {x dx C f : Addr} {mA : Str -> Option Value} {name : Str} {v : Value}
theorem zh6 {expr : Bool} {Q : Value -> Shared -> Prop} (X : K.In s.heap) (I : ObjM s.heap x dx C mA) (hg : PySem.W.plainGet K C name = true) (hh : PySem.W.hasDictIn K C = true)
  (ha : PySem.W.findIn K (.ref C) name = some none) (hv : mA name = some v) (hv' : PySem.W.handedIn v = true) (h : Q v { s with toks:=s.toks + 1 }) :
  wpAny (model prog w) A (getAttr (.ref x) name expr) Q E s:=by
 obtain ⟨od,J,hl⟩:=I.look
 exact PySem.W.get_value X J (PySem.W.plainGet_of hg).1 (PySem.W.findObj_own hh ha rfl (by rw [hl,hv])) hv' h
theorem zhb {pl : Sem Bool} {Q : Value × List Value -> Shared -> Prop} (X : K.In s.heap) (I : ObjM s.heap x dx C mA) (hg : PySem.W.plainGet K C name = true)
  (hf : PySem.W.findIn K (.ref C) name = some (some (.ref f))) (ht : PySem.W.isFn K (.ref f) = true) (hv : mA name = none) (h : Q (.ref f,[.ref x]) s) :
  wpAny (model prog w) A (getMethod (.ref x) name pl) Q E s:=by
 obtain ⟨od,J,hl⟩:=I.look
 exact PySem.W.method_fn X J (PySem.W.plainGet_of hg).1 (PySem.W.plainGet_of hg).2 hf (beq_iff_eq.mp ht) (by show (PySem.W.lookIn name od).map (·.isSome) = some false; rw [hl,hv]; rfl) h
theorem zh7 {ns : List Str} {Q : Unit -> Shared -> Prop} (X : K.In s.heap) (I : ObjM s.heap x dx C mA)
  (hs : PySem.W.findIn K (.ref C) "__setattr__" = some (some (.builtin "object.__setattr__"))) (hp : PySem.W.plainOver K C = true) (ht : PySem.W.takerIn K C name = some none) (hh : PySem.W.hasDictIn K C = true)
  (hw : PySem.Within mA ns) (hsz : ns.length <= sizeLine)
  (h : ∀ h',ObjM h' x dx C (fun y=>if y = name then some v else mA y) -> Heap.SameBut dx s.heap h' -> Q () { s with heap:=h',toks:=s.toks + 2 }) :
  wpAny (model prog w) A (setAttr (.ref x) name v) Q E s:=by
 obtain ⟨od,J,hl⟩:=I.look
 refine PySem.W.set_plain X J hs (PySem.W.osa_open (s:={ s with toks:=s.toks + 1 }) (r:=none) X J hp ht fun b=>?_)
 obtain ⟨cd,hc,hd'⟩:=PySem.W.any_some hh
 have hx : s.heap.get? x = some ⟨.ref C,some dx,.plain,#[]⟩:=I.obj
 refine wpAny_bind (wpAny_pure (wpAny_bind (wpAny_bind (wpAny_loadPart hx (wpAny_bind (PySem.W.Looks.here (s:={ s with toks:=s.toks + 1 }) (PySem.W.looks_clsIn X hc) ?_))))))
 rw [hd']
 refine wpAny_pure (a:=some dx) (wpAny_bind (wpAny_pure (wpAny_bind ?_)))
 refine wpAny_nsSet1 (s:={ s with toks:=s.toks + 1 }) I.ns fun h' hn2 hs2=>?_
 obtain ⟨oD,esD,epD,hoD,hdD,hcD⟩:=hn2.count (PySem.Within.cons name v hw)
 refine wpAny_bind (wpAny_lookBehind hoD (by rw [hdD]; exact pastItsLine_dict (Nat.le_trans hcD (by rw [List.length_cons]; omega))) ?_)
 exact wpAny_pure (h _ ⟨(hs2.2 _ (Ne.symm I.ne)).trans I.obj,hn2,I.ne⟩ hs2)
theorem zhc {R : Result -> Shared -> Prop} {vs : List Value} {kw : List (Str × Value)} (X : K.In s.heap) (hm : PySem.W.makesIn K C = true)
  (hi : PySem.W.findIn K (.ref C) "__init__" = some (some (.ref f))) (hf : PySem.W.typeIn K (.ref f) = some (.type "function"))
  (h : codeAny (model prog w) (A.under (.builtin "type.__call__" ⟨.ref C :: vs,kw⟩)) (.call (.ref f) ⟨.ref (s.heap.objs.size + 1) :: vs,kw⟩) (PySem.W.InitBack (s.heap.objs.size + 1) R)
   { s with heap:=(s.heap.push PySem.W.emptyDict).push (PySem.W.instObj C s.heap.objs.size) }) :
  codeAny (model prog w) A (.call (.ref C) ⟨vs,kw⟩) R s:=by
 obtain ⟨hh,g,d,t,os⟩:=s
 exact PySem.W.make_core (PySem.W.makes_of X hm) (PySem.W.looks_findIn X hi) (fun self=>PySem.W.bind_fn X self hf) (.inl rfl) h
end
def putF (f : Str) (v : V) : List (Str × V) -> List (Str × V)
 | []=>[(f,v)]
 | (g,x) :: r=>if g = f then (g,v) :: r else (g,x) :: putF f v r
theorem zaY (f g : Str) (v : V) : ∀ fs : List (Str × V),(putF f v fs).lookup g = if g = f then some v else fs.lookup g
 | []=>by
  show List.lookup g [(f,v)] = _
  by_cases h : g = f
  ·have hb : (g == f) = true:=beq_iff_eq.mpr h
   simp only [List.lookup,hb,if_pos h]
  ·have hb : (g == f) = false:=beq_eq_false_iff_ne.mpr h
   simp only [List.lookup,hb,if_neg h]
 | (k,x) :: r=>by
  have ih:=zaY f g v r
  rw [show putF f v ((k,x) :: r) = (if k = f then (k,v) :: r else (k,x) :: putF f v r) from rfl]
  by_cases hk : k = f
  ·rw [if_pos hk]
   by_cases h : g = k
   ·have hb : (g == k) = true:=beq_iff_eq.mpr h
    simp only [List.lookup,hb,if_pos (h.trans hk)]
   ·have hb : (g == k) = false:=beq_eq_false_iff_ne.mpr h
    simp only [List.lookup,hb,if_neg (fun e : g = f=>h (e.trans hk.symm))]
  ·rw [if_neg hk]
   by_cases h : g = k
   ·have hb : (g == k) = true:=beq_iff_eq.mpr h
    simp only [List.lookup,hb,if_neg (fun e : g = f=>hk (h.symm.trans e))]
   ·have hb : (g == k) = false:=beq_eq_false_iff_ne.mpr h
    simp only [List.lookup,hb]
    exact ih
theorem zbO (f : Str) (v : V) : ∀ fs : List (Str × V),f ∈ (putF f v fs).map (·.1) /\ ∀ g,g ∈ fs.map (·.1) -> g ∈ (putF f v fs).map (·.1)
 | []=>⟨by simp [putF],fun g h=>by simp at h⟩
 | (k,x) :: r=>by
  obtain ⟨i1,i2⟩:=zbO f v r
  rw [show putF f v ((k,x) :: r) = (if k = f then (k,v) :: r else (k,x) :: putF f v r) from rfl]
  by_cases hk : k = f
  ·rw [if_pos hk]
   subst hk
   exact ⟨by simp,fun g h=>by simpa using h⟩
  ·rw [if_neg hk]
   refine ⟨?_,fun g h=>?_⟩
   ·rw [List.map_cons]
    exact List.mem_cons_of_mem _ i1
   ·rw [List.map_cons] at h ⊢
    rcases List.mem_cons.mp h with e | e
    ·exact List.mem_cons.mpr (.inl e)
    ·exact List.mem_cons_of_mem _ (i2 g e)
theorem zch (f : Str) (v : V) : ∀ fs : List (Str × V),(putF f v fs).length <= fs.length + 1
 | []=>by simp [putF]
 | (k,x) :: r=>by
  have ih:=zch f v r
  rw [show putF f v ((k,x) :: r) = (if k = f then (k,v) :: r else (k,x) :: putF f v r) from rfl]
  by_cases hk : k = f
  ·rw [if_pos hk,List.length_cons,List.length_cons]; omega
  ·rw [if_neg hk,List.length_cons,List.length_cons]; omega
theorem RelO.some_of {v : V} {o : Option Value} (r : RelO (some v) o) : ∃ u,o = some u /\ RelV v u:=by
 cases o with
 | none=>exact (show False from r).elim
 | some u=>exact ⟨u,rfl,r⟩
theorem RelO.none_of {o : Option Value} (r : RelO none o) : o = none:=by
 cases o with
 | none=>rfl
 | some u=>exact (show False from r).elim
theorem zgf {v : V} {u : Value} (r : RelV v u) : PySem.W.handedIn u = true:=by
 cases v with
 | non=>cases (show u = Value.none from r); rfl
 | bl b=>cases (show u = Value.bool b from r); rfl
 | int i=>obtain ⟨t,e⟩:=(show ∃ t,u = Value.int i t from r); cases e; rfl
 | str x=>obtain ⟨t,e⟩:=(show ∃ t,u = Value.str x t from r); cases e; rfl
 | byt b=>obtain ⟨t,e⟩:=(show ∃ t,u = Value.bytes b t from r); cases e; rfl
 | flt b=>obtain ⟨t,e⟩:=(show ∃ t,u = Value.float b t from r); cases e; rfl
 | ref a=>cases (show u = Value.ref a from r); rfl
 | ty n=>cases (show u = Value.type n from r); rfl
section
variable {P : Program} {w : World} {H H' : Hp} {h h' : Heap} {a C dx : Addr} {fs fs' : List (Str × V)}
theorem zb3 (hok : HOk P w H h) (e : H a = some (.ins C dx fs)) : ∃ mA,ObjM h a dx C mA /\ (∀ f,RelO (fs.lookup f) (mA f)) /\ PySem.Within mA (fs.map (·.1)) /\ fs.length <= 1000 /\ H dx = some (.own a):=by
 obtain ⟨d,z,ne,ob,mA,n,r,q⟩:=(show ObjOk P w H h a (.ins C dx fs) from hok a _ e)
 exact ⟨mA,⟨ob,n,ne⟩,r,q,z,d⟩
end
structure Cls (K : PySem.W.Frag) (C : Addr) : Prop where
 pg : PySem.W.plainGet K C Str.empty = true
 hd : PySem.W.hasDictIn K C = true
 po : PySem.W.plainOver K C = true
 sa : PySem.W.findIn K (.ref C) "__setattr__" = some (some (.builtin "object.__setattr__"))
theorem Cls.get {K : PySem.W.Frag} {C : Addr} (c : Cls K C) (f : Str) : PySem.W.plainGet K C f = true:=c.pg
def NoAttr (K : PySem.W.Frag) (C : Addr) (f : Str) : Prop:=PySem.W.findIn K (.ref C) f = some none
theorem NoAttr.taker {K : PySem.W.Frag} {C : Addr} {f : Str} (n : NoAttr K C f) : PySem.W.takerIn K C f = some none:=by
 unfold PySem.W.takerIn
 rw [show PySem.W.findIn K (.ref C) f = some none from n]
 rfl
structure Meth (K : PySem.W.Frag) (C : Addr) (m : Str) (f : Addr) : Prop where
 at_ : PySem.W.findIn K (.ref C) m = some (some (.ref f))
 fn : PySem.W.isFn K (.ref f) = true
 kp : PySem.W.keepIn K (.ref f) = true
section
variable {X : Cx} {pins : List (Addr × Obj)} {σ : St} {H : Hp} {s : Shared} {a C dx : Addr} {fs : List (Str × V)} {f : Str} {v : V} {A : Around} {E : Value -> Shared -> Prop}
theorem zfF {b : Bool} {Q : Value -> Shared -> Prop} (I : Inv X pins σ H s) (e : H a = some (.ins C dx fs)) (c : Cls X.K C) (n : NoAttr X.K C f) (l : fs.lookup f = some v)
  (h : ∀ u s',Inv X pins σ H s' -> RelV v u -> Q u s') : wpAny (model X.prog X.w) A (getAttr (.ref a) f b) Q E s:=by
 obtain ⟨mA,O,r,_,_,_⟩:=zb3 I.hok e
 obtain ⟨u,hu,ru⟩:=RelO.some_of (v:=v) (o:=mA f) (by rw [<- l]; exact r f)
 exact zh6 I.kIn O (c.get f) c.hd n hu (zgf ru) (h u _ (I.tok _) ru)
theorem zcK {m : Str} {g : Addr} {pl : Sem Bool} {Q : Value × List Value -> Shared -> Prop} (I : Inv X pins σ H s) (e : H a = some (.ins C dx fs)) (c : Cls X.K C) (k : Meth X.K C m g) (l : fs.lookup m = none)
  (h : Q (.ref g,[.ref a]) s) : wpAny (model X.prog X.w) A (getMethod (.ref a) m pl) Q E s:=by
 obtain ⟨mA,O,r,_,_,_⟩:=zb3 I.hok e
 have hn : mA m = none:=RelO.none_of (by rw [<- l]; exact r m)
 exact zhb I.kIn O (c.get m) k.at_ k.fn hn h
theorem zfG {y : V} {u : Value} {Q : Unit -> Shared -> Prop} (I : Inv X pins σ H s) (e : H a = some (.ins C dx fs)) (c : Cls X.K C) (n : NoAttr X.K C f) (hl : fs.length < 1000) (ry : RelV y u)
  (h : ∀ s',Inv X pins σ (upd H a (.ins C dx (putF f y fs))) s' -> Q () s') : wpAny (model X.prog X.w) A (setAttr (.ref a) f u) Q E s:=by
 obtain ⟨mA,O,r,wi,_,ho⟩:=zb3 I.hok e
 have hz : (fs.map (·.1)).length <= sizeLine:=by rw [List.length_map,sizeLine_eq]; omega
 refine zh7 I.kIn O c.sa c.po n.taker c.hd wi hz fun h' O' sb=>h _ ?_
 have hd : ∃ o,h'.get? dx = some o:=let ⟨o,_,_,e',_⟩:=O'.ns; ⟨o,e'⟩
 refine I.write (x:=a) (e:=dx) (by rw [e]; exact True.intro) (.inr ho) (fun b q hb z=>(sb.2 b hb).trans z) hd ?_
 refine ⟨by rw [yal O.ne]; exact ho,?_,O.ne,O'.obj,_,O'.ns,fun g=>?_,fun g hg=>?_⟩
 ·have:=zch f y fs; omega
 ·show RelO ((putF f y fs).lookup g) (if g = f then some u else mA g)
  rw [zaY]
  by_cases q : g = f
  ·rw [if_pos q,if_pos q]; exact ry
  ·rw [if_neg q,if_neg q]; exact r g
 ·by_cases q : g = f
  ·rw [q]; exact (zbO f y fs).1
  ·refine (zbO f y fs).2 g (wi g fun z=>hg ?_)
   show (if g = f then some u else mA g) = none
   rw [if_neg q]; exact z
theorem Inv.made (I : Inv X pins σ H s) : Inv X pins σ (upd (upd H s.heap.objs.size (.own (s.heap.objs.size + 1))) (s.heap.objs.size + 1) (.ins C s.heap.objs.size []))
  { s with heap:=(s.heap.push PySem.W.emptyDict).push (PySem.W.instObj C s.heap.objs.size) }:=by
 have e1 : (s.heap.push PySem.W.emptyDict).get? s.heap.objs.size = some PySem.W.emptyDict:=Heap.get?_push_size s.heap rfl
 have e2 : ((s.heap.push PySem.W.emptyDict).push (PySem.W.instObj C s.heap.objs.size)).get? (s.heap.objs.size + 1) = some (PySem.W.instObj C s.heap.objs.size):=by
  have:=Heap.get?_push_size (s.heap.push PySem.W.emptyDict) (o:=PySem.W.instObj C s.heap.objs.size) rfl
  rwa [Heap.size_push] at this
 have e3 : (s.heap.push PySem.W.emptyDict).Ns s.heap.objs.size (fun _=>none):=⟨PySem.W.emptyDict,#[],_,e1,rfl,(fun e he=>absurd he (by simp)),fun _=>rfl⟩
 have I1:=I.laid (a:=s.heap.objs.size) (o:=.own (s.heap.objs.size + 1)) (h' := s.heap.push PySem.W.emptyDict) (t' := s.toks) (fun b u q=>Heap.get?_push_of_some _ q) (Nat.le_refl _) ⟨_,e1⟩
 refine I1.laid (a:=s.heap.objs.size + 1) (o:=.ins C s.heap.objs.size []) (t' := s.toks) (fun b u q=>Heap.get?_push_of_some _ q) (Nat.le_of_eq (Heap.size_push _ _)) ?_
 have ne : s.heap.objs.size ≠ s.heap.objs.size + 1:=Nat.ne_of_lt (Nat.lt_succ_self _)
 refine ⟨by rw [yal ne,zaf],Nat.zero_le _,ne,e2,fun _=>none,(Heap.Ns1.of_empty e3).at fun o q=>Heap.get?_push_of_some _ q,fun _=>True.intro,fun y hy=>absurd rfl hy⟩
theorem zh8 {prog : Program} {w : World} {env : Env} {e : Expr} {f : Str} {pos : Pos} {s : Shared} {Q : Value -> Shared -> Prop} (hb : attributeBase e f env (eval e env) = eval e env)
  (h : wpAny (model prog w) A (eval e env) (fun o s₁=>wpAny (model prog w) A (getAttr o f true) Q E s₁) E s) : wpAny (model prog w) A (eval (.Attribute e f pos) env) Q E s :=
 Attribute_any_ h (by rw [arm_eval_Attribute,hb])
end
def tFld (K : PySem.W.Frag) (ta : TE) (f : Str) : TE:=fun σ H Q=>ta σ H fun x H1=>∃ a C dx fs v,x = .ref a /\ H1 a = some (.ins C dx fs) /\ Cls K C /\ NoAttr K C f /\ fs.lookup f = some v /\ Q v H1
def sFld (K : PySem.W.Frag) (ta tv : TE) (f : Str) : TS:=fun D σ H=>tv σ H fun y H1=>ta σ H1 fun x H2=>∃ a C dx fs,x = .ref a /\ H2 a = some (.ins C dx fs) /\ Cls K C /\ NoAttr K C f /\ fs.length < 1000 /\
 D.nx σ (upd H2 a (.ins C dx (putF f y fs)))
section
variable {X : Cx} {o e value : Expr} {f : Str} {pos pos' tpos : Pos} {ta tv : TE}
theorem ygD (he : PE X e ta) (hb : attributeBase e f X.env (eval e X.env) = eval e X.env) : PE X (.Attribute e f pos) (tFld X.K ta f):=by
 intro pins s σ H Q I h
 refine zh8 hb (thn (he pins s σ H _ I h) fun u s1 ⟨x,H1,I1,rx,a,C,dx,fs,v,ex,ea,c,n,l,q⟩=>?_)
 subst ex
 obtain rfl : u = Value.ref a:=rx
 exact zfF I1 ea c n l fun u' s2 I2 ru=>⟨v,H1,I2,ru,q⟩
theorem ygE (ha : PE X o ta) (hv : PE X value tv) (hs : swapsWith value (some (.Attribute o f pos')) pos.line X.env = pure false) : PS X (.Assign [.Attribute o f pos'] value pos) (sFld X.K ta tv f):=by
 intro pins s σ H D I h
 refine plainObj_wpAny_Assign_Attribute (thn (hv pins s σ H _ I h) fun u s1 ⟨y,H1,I1,ry,q⟩=>thn (ha pins s1 σ H1 _ I1 q) fun ov s2 ⟨x,H2,I2,rx,a,C,dx,fs,ex,ea,c,n,l,q2⟩=>?_) hs
 subst ex
 obtain rfl : ov = Value.ref a:=rx
 exact zfG I2 ea c n l ry fun s3 I3=>⟨σ,_,I3,q2⟩
end
section
variable {X : Cx} {pins : List (Addr × Obj)} {σ : St} {H : Hp} {s : Shared} {A : Around} {E : Value -> Shared -> Prop} {Q : Value -> Shared -> Prop} {c : Value} {b : Bool}
inductive TyOf (K : PySem.W.Frag) (H : Hp) : V -> Value -> Prop where
 | non : TyOf K H .non (.type "NoneType")
 | bl (x : Bool) : TyOf K H (.bl x) (.type "bool")
 | int (i : Int) : TyOf K H (.int i) (.type "int")
 | str (x : Str) : TyOf K H (.str x) (.type "str")
 | flt (x : UInt64) : TyOf K H (.flt x) (.type "float")
 | lst {a : Addr} {xs : List V} (e : H a = some (.lst xs)) : TyOf K H (.ref a) (.type "list")
 | frz {a : Addr} {o : Obj} {xs : List V} (e : H a = some (.frz o (.lst xs))) : TyOf K H (.ref a) (.type "list")
 | tup {a : Addr} {xs : List V} (e : H a = some (.tup xs)) : TyOf K H (.ref a) (.type "tuple")
 | dK {a : Addr} {kvs : List (Key × V)} (e : H a = some (.dK kvs)) : TyOf K H (.ref a) (.type "dict")
 | dT {a : Addr} {xc : Option (List Addr)} {kvs : List (List Key × V)} (e : H a = some (.dT xc kvs)) : TyOf K H (.ref a) (.type "dict")
 | ins {a C dx : Addr} {fs : List (Str × V)} (e : H a = some (.ins C dx fs)) (cl : Cls K C) (ha : PySem.W.findIn K (.ref C) "__class__" = some (some (.builtin "object.__class__")))
   (hn : PySem.W.specialIn K (.builtin "object.__class__") "__get__" = some (some (.builtin "getset_descriptor.__get__"))) (htk : PySem.W.takesIn K (.builtin "object.__class__") = some true)
   (hm : PySem.W.mroIn K C (.type "object") = some true) : TyOf K H (.ref a) (.ref C)
theorem zgg {x : V} {u t : Value} (I : Inv X pins σ H s) (rx : RelV x u) (ty : TyOf X.K H x t) (e : PySem.W.kitOne X.K t c = some b) (h : ∀ tk,Q (.bool b) { s with toks:=tk }) :
  wpAny (model X.prog X.w) A (call (.builtin "isinstance") [u,c]) Q E s:=by
 cases ty with
 | non=>cases (show u = Value.none from rx); exact PySem.W.kia_one PySem.W.kitx_none I.kIn True.intro e (fun z=>nomatch z) h
 | bl y=>cases (show u = Value.bool y from rx); exact PySem.W.kia_one PySem.W.kitx_bool I.kIn True.intro e (fun z=>nomatch z) h
 | int i=>obtain ⟨t,q⟩:=(show ∃ t,u = Value.int i t from rx); cases q; exact PySem.W.kia_one PySem.W.kitx_int I.kIn True.intro e (fun z=>nomatch z) h
 | str y=>obtain ⟨t,q⟩:=(show ∃ t,u = Value.str y t from rx); cases q; exact PySem.W.kia_one PySem.W.kitx_str I.kIn True.intro e (fun z=>nomatch z) h
 | flt y=>obtain ⟨t,q⟩:=(show ∃ t,u = Value.float y t from rx); cases q; exact PySem.W.kia_one PySem.W.kitx_float I.kIn True.intro e (fun z=>nomatch z) h
 | @lst a xs ea =>
  cases (show u = Value.ref a from rx)
  obtain ⟨_,_,n,_,h1⟩:=(show ObjOk X.prog X.w H s.heap a (.lst xs) from I.hok a _ ea)
  exact PySem.W.kia_one PySem.W.kitx_list I.kIn ⟨_,h1,rfl⟩ e (fun z=>nomatch z) h
 | @frz a ob xs ea =>
  cases (show u = Value.ref a from rx)
  obtain ⟨_,_,_,n,_,h1⟩:=(show ObjOk X.prog X.w H s.heap a (.frz ob (.lst xs)) from I.hok a _ ea)
  exact PySem.W.kia_one PySem.W.kitx_list I.kIn ⟨_,h1,rfl⟩ e (fun z=>nomatch z) h
 | @tup a xs ea =>
  cases (show u = Value.ref a from rx)
  obtain ⟨_,_,_,p⟩:=(show ObjOk X.prog X.w H s.heap a (.tup xs) from I.hok a _ ea)
  obtain ⟨o,h1,h2,_⟩:=p
  exact PySem.W.kia_one PySem.W.kitx_tuple I.kIn ⟨o,h1,h2⟩ e (fun z=>nomatch z) h
 | @dK a kvs ea =>
  cases (show u = Value.ref a from rx)
  obtain ⟨_,_,vs,_,p⟩:=(show ObjOk X.prog X.w H s.heap a (.dK kvs) from I.hok a _ ea)
  obtain ⟨o,es,ep,h1,h2,_⟩:=p
  exact PySem.W.kia_one PySem.W.kitx_dict I.kIn ⟨o,h1,h2.1⟩ e (fun z=>nomatch z) h
 | @dT a xc kvs ea =>
  cases (show u = Value.ref a from rx)
  obtain ⟨_,_,xs,_,o,es,ep,h1,h2,_⟩:=(show ObjOk X.prog X.w H s.heap a (.dT xc kvs) from I.hok a _ ea)
  exact PySem.W.kia_one PySem.W.kitx_dict I.kIn ⟨o,h1,h2.1⟩ e (fun z=>nomatch z) h
 | @ins a C dx fs ea cl ha hn htk hm =>
  cases (show u = Value.ref a from rx)
  obtain ⟨mA,O,_⟩:=zb3 I.hok ea
  obtain ⟨od,J,_⟩:=O.look
  exact PySem.W.kia_one (PySem.W.kitx_own (cl.get _) cl.hd ha hn htk hm) I.kIn J e (fun z=>nomatch z) h
end
end L2
namespace L2
open PySem PySem.Spec PyProof.Rows
structure Room (k : Nat) (A : Around) : Prop where
 hd : A.handled = none
 dp : A.depth + 3 * k + 5 < recursionLimit
 un : A.units + 16 * k + 200 < cLine
theorem Room.mono {j k : Nat} {A : Around} (r : Room k A) (h : j <= k) : Room j A:=⟨r.hd,by have:=r.dp; omega,by have:=r.un; omega⟩
theorem Room.deeper {k : Nat} {A : Around} (r : Room (k + 1) A) (env : Env) : Room k (A.deeper env) :=
 ⟨r.hd,by have:=r.dp; show A.depth + 1 + 3 * k + 5 < _; omega,by have:=r.un; show A.units + 3 + 16 * k + 200 < _; omega⟩
theorem zfH {A : Around} {C : Addr} {us : List Value} {kw : List (Str × Value)} : (A.under (.builtin "type.__call__" ⟨.ref C :: us,kw⟩)).depth = A.depth + 1:=by
 first | rfl | simp [Around.under,Code.weight,Code.isCreation,Code.isGuard,Code.isCaller,Code.frames,Code.isFrame,guardIds]
theorem zfI {A : Around} {C : Addr} {us : List Value} {kw : List (Str × Value)} : (A.under (.builtin "type.__call__" ⟨.ref C :: us,kw⟩)).units = A.units + 1:=by
 first | rfl | simp [Around.under,Code.cUnits,Code.frames,Code.isFrame]
theorem Room.make {k : Nat} {A : Around} (r : Room (k + 1) A) (C : Addr) (us : List Value) (kw : List (Str × Value)) : Room k (A.under (.builtin "type.__call__" ⟨.ref C :: us,kw⟩)) :=
 ⟨r.hd,by have:=r.dp; rw [zfH]; omega,by have:=r.un; rw [zfI]; omega⟩
theorem Room.depth {k : Nat} {A : Around} (r : Room k A) : A.depth < recursionLimit:=by have:=r.dp; omega
def tNil : TA:=fun _ H Q=>Q [] H
def yhN (ta : TE) (tr : TA) : TA:=fun σ H Q=>ta σ H fun x H1=>tr σ H1 fun xs H2=>Q (x :: xs) H2
section
variable {X : Cx} {e : Expr} {es : List Expr} {te : TE} {t : TA} {pos : Pos}
theorem yd4 : PA X [] tNil:=fun _ _ _ _ H Q I h=>Calls.spliced_nil ⟨[],H,I,.nil,h⟩
theorem za9 (ha : PE X e te) (hr : PA X es t) (hs : starEach (e :: es) X.env = (false,eval e X.env) :: starEach es X.env:=by rfl) : PA X (e :: es) (yhN te t):=by
 intro pos pins s σ H Q I h
 rw [hs]
 show wpAny _ _ (spliced ((false,eval e X.env) :: backTo pos (starEach es X.env))) _ _ s
 refine Calls.spliced_cons (thn (ha pins s σ H _ I h) fun u s1 ⟨x,H1,I1,r1,q1⟩=>?_)
 exact thn (hr pos pins s1 σ H1 _ I1 q1) fun us s2 ⟨xs,H2,I2,r2,q2⟩=>⟨x :: xs,H2,I2,.cons r1 r2,q2⟩
def tTup (t : TA) : TE:=fun σ H Q=>t σ H fun xs H1=>xs.length <= sizeLine /\ ∀ p,H1 p = none -> Q (.ref p) (upd H1 p (.tup xs))
def tLst (t : TA) : TE:=fun σ H Q=>t σ H fun xs H1=>xs.length <= sizeLine /\ ∀ p,H1 p = none -> Q (.ref p) (upd H1 p (.lst xs))
theorem ygF {x1} (h : PA X es t) : PE X (.Tuple es x1 pos) (tTup t):=by
 intro pins s σ H Q I hq
 refine wpAny_Tuple_spliced (thn (h pos pins s σ H _ I hq) fun us s1 ⟨xs,H1,I1,r,z,q⟩=>⟨by rw [<- r.length]; exact z,?_⟩)
 have hf : H1 s1.heap.objs.size = none:=I1.hok.fresh (Nat.le_refl _)
 refine ⟨.ref s1.heap.objs.size,upd H1 s1.heap.objs.size (.tup xs),I1.laid (t' := s1.toks) (fun b u e=>Heap.get?_push_of_some _ e) (Nat.le_refl _) ?_,rfl,q _ hf⟩
 exact ⟨z,us,r,⟨_,Heap.get?_push_size _ rfl,rfl,_,rfl⟩⟩
theorem yfc (h : PA X es t) : PE X (.List es pos) (tLst t):=by
 intro pins s σ H Q I hq
 refine wpAny_List_spliced (thn (h pos pins s σ H _ I hq) fun us s1 ⟨xs,H1,I1,r,z,q⟩=>⟨by rw [<- r.length]; exact z,?_⟩)
 have hf : H1 s1.heap.objs.size = none:=I1.hok.fresh (Nat.le_refl _)
 refine ⟨.ref s1.heap.objs.size,upd H1 s1.heap.objs.size (.lst xs),I1.laid (t' := s1.toks) (fun b u e=>Heap.get?_push_of_some _ e) (Nat.le_refl _) ?_,rfl,q _ hf⟩
 exact ⟨z,us,0,r,Heap.get?_push_size _ rfl⟩
end
abbrev Sp:=List V -> Hp -> VK -> XK -> Prop
abbrev CXT:=List Env -> Hp -> Shared -> XK -> Value -> Shared -> Prop
structure Env0 (P : Program) (w : World) (K : PySem.W.Frag) (mg : Str -> Option Value) (base : Heap) (A : Around) (outer : List Env) (s : Shared) (H : Hp) : Prop where
 frames : A.frames = some outer
 mod : Mod K mg base
 bs : ∀ b o,base.get? b = some o -> s.heap.get? b = some o /\ H b = none
 bsz : base.objs.size <= s.heap.objs.size
 funs : s.heap.FunFrames base outer
 frf : ∀ b ∈ frs outer,H b = none
 hok : HOk P w H s.heap
 bare : AllBare s.gens
def CE (outer : List Env) (P : Program) (w : World) (H : Hp) (s : Shared) (Q : VK) (u : Value) (s' : Shared) : Prop :=
 ∃ v H',s'.os = s.os /\ AllBare s'.gens /\ Un (frs outer) [] H H' s.heap s'.heap /\ HOk P w H' s'.heap /\ RelV v u /\ Q v H'
def CR (CX : CXT) (outer : List Env) (P : Program) (w : World) (H : Hp) (s : Shared) (Q : VK) (E : XK) (r : Result) (s' : Shared) : Prop :=
 match r with
 | .ok (.ret u)=>CE outer P w H s Q u s'
 | .ok _=>False
 | .error e=>CX outer H s E e s'
structure FnOk (P : Program) (w : World) (K : PySem.W.Frag) (mg : Str -> Option Value) (base : Heap) (CX : CXT) (k : Nat) (f : Addr) (fd : FuncData) (ps : List Str) (sp : Sp) : Prop where
 len : ∀ vs H Q E,sp vs H Q E -> vs.length = ps.length
 run : ∀ (A : Around) (outer : List Env) (s : Shared) (H : Hp) (args : Args) (us : List Value) (vs : List V) (Q : VK) (E : XK),Room k A -> Env0 P w K mg base A outer s H -> BindsTo s fd args (ps.zip us) -> Vals vs us -> sp vs H Q E ->
  codeAny (model P w) A (.call (.ref f) args) (CR CX outer P w H s Q E) s
theorem FnOk.imp {P : Program} {w : World} {K : PySem.W.Frag} {mg : Str -> Option Value} {base : Heap} {CX : CXT} {k : Nat} {f : Addr} {fd : FuncData} {ps : List Str} {sp sp' : Sp} (F : FnOk P w K mg base CX k f fd ps sp)
  (h : ∀ vs H Q E,sp' vs H Q E -> sp vs H Q E) : FnOk P w K mg base CX k f fd ps sp' :=
 ⟨fun vs H Q E q=>F.len vs H Q E (h _ _ _ _ q),fun A outer s H args us vs Q E hr he hb hv hs=>F.run A outer s H args us vs Q E hr he hb hv (h _ _ _ _ hs)⟩
theorem Env0.make {P : Program} {w : World} {K : PySem.W.Frag} {mg : Str -> Option Value} {base : Heap} {A : Around} {outer : List Env} {s : Shared} {H : Hp} (e : Env0 P w K mg base A outer s H) (C : Addr) (us : List Value) (kw : List (Str × Value)) :
  Env0 P w K mg base (A.under (.builtin "type.__call__" ⟨.ref C :: us,kw⟩)) outer s H:=⟨by first | exact e.frames | (simpa [Around.under,Code.envs,Code.isFrame,pushEnvs] using e.frames),e.mod,e.bs,e.bsz,e.funs,e.frf,e.hok,e.bare⟩
section
variable {X : Cx} {pins : List (Addr × Obj)} {σ : St} {H : Hp} {s s' : Shared}
theorem Inv.env0 (I : Inv X pins σ H s) : Env0 X.prog X.w X.K X.mg X.base X.A X.stack s H :=
 ⟨I.ok.frames,I.ok.mod,I.bs,Nat.le_trans I.ok.bsz I.sz,I.stack,I.stkFree,I.hok,I.bare⟩
theorem Inv.after {Q : VK} {u : Value} (I : Inv X pins σ H s) (h : CE X.stack X.prog X.w H s Q u s') : EP X pins σ Q u s' := by
 obtain ⟨v,H',os,bare,un,hok,r,q⟩:=h
 obtain ⟨hh,g,d,t,os'⟩:=s'
 obtain rfl : os' = s.os:=os
 exact ⟨v,H',I.call (h' := hh) (g' := g) (d' := d) (t' := t) (ch:=[]) un hok bare (fun b z=>absurd z (by simp)),r,q⟩
end
def Binds (K : PySem.W.Frag) (fd : FuncData) (ps : List Str) (ds : List Value) : Prop :=
 ∀ (s : Shared) (us : List Value),K.In s.heap -> (us++ds).length = ps.length -> BindsTo s fd ⟨us,[]⟩ (ps.zip (us++ds))
theorem Binds.all {K : PySem.W.Frag} {fd : FuncData} {ps : List Str} (h : ∀ us : List Value,us.length = ps.length -> bindArgs fd ⟨us,[]⟩ = pure (ps.zip us)) : Binds K fd ps []:=fun s us _ hl=>by
 rw [List.append_nil] at hl ⊢
 exact .of_eq (h us hl)
def yfd (CX : CXT) (X : Cx) (E : XK) : Prop:=∀ (pins : List (Addr × Obj)) (σ : St) (H : Hp) (s : Shared) (e : Value) (s' : Shared),Inv X pins σ H s -> CX X.stack H s E e s' -> X.xe e s'
section
variable {X : Cx} {CX : CXT} {k : Nat} {f C : Addr} {fd : FuncData} {ps : List Str} {sp : Sp} {dvs : List V} {ds : List Value} {E : XK} {x m : Str} {p pos apos : Pos} {e o : Expr} {es : List Expr} {ta : TE} {t : TA}
structure Mk (K : PySem.W.Frag) (C f : Addr) : Prop where
 makes : PySem.W.makesIn K C = true
 init : PySem.W.findIn K (.ref C) "__init__" = some (some (.ref f))
 fn : PySem.W.isFn K (.ref f) = true
 kp : PySem.W.keepIn K (.ref C) = true
end
section
variable {X : Cx} {CX : CXT} {k : Nat} {f C : Addr} {fd : FuncData} {ps ks : List Str} {sp : Sp} {E : XK} {x m : Str} {p pos apos kpos : Pos} {e o : Expr} {es : List Expr} {kws : List Keyword} {te ta : TE} {t tk : TA} {nm : Option Str}
variable {g : List Value -> List Value -> List Value} {gV : List V -> List V -> List V}
end
structure FnScope (N P : List Str) (sc : Scope) : Prop where
 kind : sc.kind = .function
 co : sc.isCoroutine = false
 gen : sc.isGenerator = false
 nd : N.Nodup
 pre : N.take P.length = P
 par : ∀ x ∈ P,sc.names.lookup x = some .local \/ sc.names.lookup x = some .cell
 nofree : ∀ y ∈ sc.names,y.2 ≠ .free
theorem zdp {kindOf : Str -> Option NameKind} {x : Str} : ∀ {binds : List (Str × Value)} {m : Str -> Option Value},(∀ v,(x,v) ∉ binds) -> bindL kindOf binds m x = m x
 | [],_,_=>rfl
 | (n,v) :: r,m,h=>by
  unfold bindL
  rw [zdp fun w hw=>h w (List.mem_cons_of_mem _ hw)]
  split
  ·have : x ≠ n:=by rintro rfl; exact h v List.mem_cons_self
   simp [this]
  ·rfl
theorem zdq {kindOf : Str -> Option NameKind} {x : Str} : ∀ {binds : List (Str × Value)} {m : Str -> Option Value},(∀ v,(x,v) ∉ binds) -> bindC kindOf binds m x = m x
 | [],_,_=>rfl
 | (n,v) :: r,m,h=>by
  unfold bindC
  rw [zdq fun w hw=>h w (List.mem_cons_of_mem _ hw)]
  split
  ·rfl
  ·have : x ≠ n:=by rintro rfl; exact h v List.mem_cons_self
   simp [this]
theorem zdr {kindOf : Str -> Option NameKind} {x : Str} {v : Value} : ∀ {P : List Str} {vs : List Value} {i : Nat} {m : Str -> Option Value},P.Nodup -> P[i]? = some x -> vs[i]? = some v -> kindOf x = some .local ->
  bindL kindOf (P.zip vs) m x = some v
 | [],_,_,_,_,h,_,_=>by simp at h
 | _ :: _,[],_,_,_,_,h,_=>by simp at h
 | p :: P,w :: vs,0,m,nd,h1,h2,hk=>by
  simp at h1 h2; subst h1; subst h2
  show bindL kindOf ((p,w) :: P.zip vs) m p = _
  unfold bindL
  rw [zdp fun v hv=>(List.nodup_cons.mp nd).1 (List.of_mem_zip hv).1,if_pos hk]
  simp
 | p :: P,w :: vs,i + 1,m,nd,h1,h2,hk=>by
  show bindL kindOf ((p,w) :: P.zip vs) m x = _
  unfold bindL
  exact zdr (i:=i) (List.nodup_cons.mp nd).2 (by simpa using h1) (by simpa using h2) hk
theorem zds {kindOf : Str -> Option NameKind} {x : Str} {v : Value} : ∀ {P : List Str} {vs : List Value} {i : Nat} {m : Str -> Option Value},P.Nodup -> P[i]? = some x -> vs[i]? = some v -> kindOf x ≠ some .local ->
  bindC kindOf (P.zip vs) m x = some v
 | [],_,_,_,_,h,_,_=>by simp at h
 | _ :: _,[],_,_,_,_,h,_=>by simp at h
 | p :: P,w :: vs,0,m,nd,h1,h2,hk=>by
  simp at h1 h2; subst h1; subst h2
  show bindC kindOf ((p,w) :: P.zip vs) m p = _
  unfold bindC
  rw [zdq fun v hv=>(List.nodup_cons.mp nd).1 (List.of_mem_zip hv).1,if_neg hk]
  simp
 | p :: P,w :: vs,i + 1,m,nd,h1,h2,hk=>by
  show bindC kindOf ((p,w) :: P.zip vs) m x = _
  unfold bindC
  exact zds (i:=i) (List.nodup_cons.mp nd).2 (by simpa using h1) (by simpa using h2) hk
def start (N : List Str) (vs : List V) : St:=vs.map some++List.replicate (N.length - vs.length) none
def cxOf (CX : CXT) (P : Program) (w : World) (K : PySem.W.Frag) (mg : Str -> Option Value) (base : Heap) (N : List Str) (qual : Str) (scope : Scope) (f : Addr) (cd : Value) (A : Around) (outer : List Env) (s : Shared) (H : Hp) (E : XK) : Cx where
 prog:=P
 w:=w
 K:=K
 mg:=mg
 base:=base
 A:=A.deeper (envOfC qual scope s.heap.objs.size f cd)
 N:=N
 s₀:=s
 H₀:=H
 env:=envOfC qual scope s.heap.objs.size f cd
 outer:=outer
 stack:=envOfC qual scope s.heap.objs.size f cd :: outer
 ex:=[]
 calm:=true
 fn:=fun _=>true
 pn:=[]
 xe:=fun e s' => wpAny (model P w) (A.deeper (envOfC qual scope s.heap.objs.size f cd)) (leaving (envOfC qual scope s.heap.objs.size f cd) e) (fun _ s'' => CX outer H s E e s'') (fun e' s'' => CX outer H s E e' s'') s'
theorem zd3 {sc : Scope} {n : Nat} {x : Str} (h : sc.names.lookup x = some .cell) : ∃ c,(cellsFrom n sc.names []).lookup x = some c:=by
 have q:=PySem.W.cellsFrom_some sc.names n [] (.inl h)
 exact Option.isSome_iff_exists.mp q
theorem zdt {CX : CXT} {P : Program} {w : World} {K : PySem.W.Frag} {mg : Str -> Option Value} {base : Heap} {N ps : List Str} {qual : Str} {scope : Scope} {f : Addr} {cd : Value} {A : Around} {outer : List Env} {s s1 : Shared} {H : Hp} {E : XK} {us : List Value} {vs : List V}
  (S : FnScope N ps scope) (hd : A.handled = none) (e0 : Env0 P w K mg base A outer s H) (hl : vs.length = ps.length) (r : Vals vs us)
  (x : InCallC s s.heap.objs.size (bindL (envOfC qual scope s.heap.objs.size f cd).kindOf (ps.zip us) fun _=>none) (cellsFrom (s.heap.objs.size + 1) scope.names []) (bindC (envOfC qual scope s.heap.objs.size f cd).kindOf (ps.zip us) fun _=>none) s1) :
  Inv (cxOf CX P w K mg base N qual scope f cd A outer s H E) [] (start N vs) H s1:=by
 have hpl : ps.length <= N.length:=by have:=congrArg List.length S.pre; rw [List.length_take] at this; omega
 obtain ⟨h1,tk,rfl,hk⟩:=x.done
 have noA : ∀ b : Addr,b ∉ (cxOf CX P w K mg base N qual scope f cd A outer s H E).ex:=fun b z=>absurd (show b ∈ ([] : List Addr) from z) (by simp)
 refine ⟨⟨e0.mod,S.kind,rfl,rfl,Nat.le_refl _,fun y z c h1 h2=>?_,fun y hy=>?_,fun y c _ h=>?_,fun _=>hd,Around.frames_deeper e0.frames,.inr ⟨rfl,rfl⟩,fun b z=>absurd z (noA b),e0.bs,e0.bsz,fun b _ _=>noA b,fun b z=>absurd z (noA b),e0.funs,e0.frf⟩,
  rfl,e0.bare,Un.kept hk,⟨_,x.toInCall.ns,fun i y v h1 h2 h3=>?_⟩,fun y c h=>⟨_,x.cell y c h⟩,e0.hok.fresh (Nat.le_refl _),fun y c h=>?_,fun p hp=>absurd (show p ∈ ([] : List (Addr × Obj)) from hp) (by simp),e0.hok.kept hk,?_⟩
 ·exact name_of_addr x.apart (PySem.mem_of_lookup h1) (PySem.mem_of_lookup h2)
 ·have hy : scope.names.lookup y = some .cell \/ scope.names.lookup y = some .free:=hy
  rcases hy with hy | hy
  ·exact zd3 hy
  ·exact absurd rfl (S.nofree _ (PySem.mem_of_lookup hy))
 ·exact Nat.le_of_lt (x.above y c (PySem.mem_of_lookup h))
 ·have hi : i < vs.length:=by
   unfold start at h2
   by_cases hi : i < vs.length
   ·exact hi
   ·rw [List.getElem?_append_right (by simpa using hi)] at h2
    rw [List.getElem?_replicate] at h2
    split at h2<;>cases h2
  have ha : vs[i]? = some v:=by
   unfold start at h2
   rw [List.getElem?_append_left (by simpa using hi),List.getElem?_map] at h2
   cases e : vs[i]? with
   | none=>rw [e] at h2; cases h2
   | some a=>rw [e] at h2; cases h2; rfl
  obtain ⟨u,hu,rv⟩:=r.get ha
  have hp : ps[i]? = some y:=by
   rw [<- S.pre,List.getElem?_take_of_lt (by omega)]; exact h1
  have ndP : ps.Nodup:=by rw [<- S.pre]; exact S.nd.sublist (List.take_sublist _ _)
  refine ⟨u,rv,?_⟩
  rcases S.par y (List.mem_of_getElem? hp) with k | k
  ·exact .inl ⟨k,zdr ndP hp hu k⟩
  ·obtain ⟨c,e⟩:=zd3 (n:=s.heap.objs.size + 1) k
   refine .inr ⟨.inl k,c,e,?_⟩
   have q:=x.cell y c e
   rw [zds ndP hp hu (by show scope.names.lookup y ≠ _; rw [k]; decide)] at q
   exact q
 ·exact e0.hok.fresh (Nat.le_of_lt (x.above y c (PySem.mem_of_lookup h)))
 ·unfold start
  show _ = N.length
  rw [List.length_append,List.length_map,List.length_replicate]
  omega
theorem yhO {CX : CXT} {P : Program} {w : World} {K : PySem.W.Frag} {mg : Str -> Option Value} {base : Heap} {k : Nat} {f : Addr} {name qual : Str} {params : Arguments} {body : List Stmt} {scope : Scope} {dV kV doc pm cdv ct oc : Value} {an od : Option Addr}
  {osl : Array (Option Value)} {N ps : List Str} {sp : Sp} (lk : K.lookup f = some ⟨oc,od,.func (PySem.W.fnOf name qual params body scope dV kV doc pm an cdv ct),osl⟩) (hcd : PySem.W.codeIn K cdv qual = true) (S : FnScope N ps scope)
  (len : ∀ vs H Q E,sp vs H Q E -> vs.length = ps.length)
  (hbody : ∀ (A : Around) (outer : List Env) (s : Shared) (H : Hp) (vs : List V) (Q : VK) (E : XK),Room k (A.deeper (envOfC qual scope s.heap.objs.size f cdv)) -> sp vs H Q E ->
   ∃ t,PSs (cxOf CX P w K mg base N qual scope f cdv A outer s H E) body t /\ t { nx:=fun _ H' => Q .non H',rt:=Q } (start N vs) H) :
  FnOk P w K mg base CX (k + 1) f (PySem.W.fnOf name qual params body scope dV kV doc pm an cdv ct) ps sp:=by
 refine ⟨len,fun A outer s H args us vs Q E hr e0 hb r hsp=>?_⟩
 have hl:=len _ _ _ _ hsp
 have KX : K.In s.heap:=e0.mod.kin.keeps fun b o e=>(e0.bs b o e).1
 have lim : s.heap.NoLimit:=e0.mod.nolimit.keeps fun b o e=>(e0.bs b o e).1
 have hkind : ∀ y ∈ ps.zip us,scope.names.lookup y.1 = some .local \/ (scope.names.lookup y.1 = some .cell /\ ((cellsFrom (s.heap.objs.size + 1) scope.names []).lookup y.1).isSome = true):=fun ⟨n,v⟩ hy=>by
  rcases S.par n (List.of_mem_zip hy).1 with q | q
  ·exact .inl q
  ·exact .inr ⟨q,PySem.W.cellsFrom_some _ _ _ (.inl q)⟩
 refine codeAny_call_function hr.depth (KX _ _ lk) rfl S.co S.gen rfl (PySem.W.codeRec_of KX hcd) (hb _ _ _ _ ?_)
 refine wpAny_newFunctionEnv_cells S.kind hkind fun env he s1 x=>?_
 subst he
 refine ⟨lim.keeps x.toInCall.keep,codeAny_func ?_⟩
 obtain ⟨t,ht,hq⟩:=hbody A outer s H vs Q E (hr.deeper _) hsp
 have I : Inv (cxOf CX P w K mg base N qual scope f cdv A outer s H E) [] (start N vs) H s1:=zdt S hr.hd e0 hl r x
 refine wpAny_mono (ht [] s1 (start N vs) H _ I hq) (fun fl s' hs=>?_) fun e s' hs=>hs
 have fin : ∀ {σ' : St} {H' : Hp} {v : V} {u : Value},Inv (cxOf CX P w K mg base N qual scope f cdv A outer s H E) [] σ' H' s' -> RelV v u -> Q v H' -> CE outer P w H s Q u s' :=
  fun {σ' H' v u} J rv q=>⟨v,H',J.os,J.bare,J.base,J.hok,rv,q⟩
 cases fl with
 | ret u =>
  obtain ⟨v,σ',H',J,rv,q⟩:=hs
  exact fin J rv q
 | next =>
  obtain ⟨σ',H',J,q⟩:=hs
  exact fin (v:=V.non) (u:=Value.none) J rfl q
 | brk =>
  obtain ⟨_,_,_,q⟩:=hs
  exact False.elim q
 | cont =>
  obtain ⟨_,_,_,q⟩:=hs
  exact False.elim q
end L2
namespace L2
open PySem PySem.Spec PyProof.Rows
section
variable {X : Cx} {x : Str} {p pos : Pos} {e : Expr} {es : List Expr} {t : TA} {id T : String} {r : List V -> Hp -> VK -> Prop}
def tCB (r : List V -> Hp -> VK -> Prop) (t : TA) : TE:=fun σ H Q=>t σ H fun vs H1=>r vs H1 Q
theorem zcq (hc : CallR X (.builtin id) r) (hg : Gl X x) (hm : X.mg x = none) (hv : bootBuiltins x = some (.builtin id)) (ha : PA X (e :: es) t) (hn : x ≠ "__name__" := by decide) (hdb : (x == ("__debug__" : Str)) = false:=by decide)
  (he : starEach (e :: es) X.env = (false,eval e X.env) :: starEach es X.env:=by rfl) (hpl : (backTo pos (starEach es X.env)).any (·.1) = false:=by rfl) : PE X (.Call (.Name x p) (e :: es) [] pos) (tCB r t):=by
 intro pins s σ H Q I h
 refine wpAny_Call_Name_kw (ycK I hg hm hv ?_ hn hdb)
 exact PyProof.Rows.callWith_builtin1 (thn (ha pos pins s σ H _ I h) fun us s1 ⟨vs,H1,I1,r1,q1⟩=>hc pins s1 σ H1 vs us Q I1 r1 q1) he hpl
theorem zgh (hc : CallR X (.type T) r) (hg : Gl X x) (hm : X.mg x = none) (hv : bootBuiltins x = some (.type T)) (ha : PA X (e :: es) t) (hn : x ≠ "__name__" := by decide) (hdb : (x == ("__debug__" : Str)) = false:=by decide)
  (he : starEach (e :: es) X.env = (false,eval e X.env) :: starEach es X.env:=by rfl) (hpl : (backTo pos (starEach es X.env)).any (·.1) = false:=by rfl) : PE X (.Call (.Name x p) (e :: es) [] pos) (tCB r t):=by
 intro pins s σ H Q I h
 refine wpAny_Call_Name_kw (ycK I hg hm hv ?_ hn hdb)
 exact PyProof.Rows.callWith_type1 (thn (ha pos pins s σ H _ I h) fun us s1 ⟨vs,H1,I1,r1,q1⟩=>hc pins s1 σ H1 vs us Q I1 r1 q1) he hpl
end
end L2
namespace HT
open PySem PyProof.Rows
section
open PySem.SeqAt
open PySem.AutoSeq1 (wpAny_loadPart')
open PySem.MeetsSeq PySem.MeetsSeq2 PySem.MeetsSeq3
end
section
variable {prog : Program} {w : World} {A : Around} {E : Value -> Shared -> Prop} {s : Shared}
theorem cat_tup {t b : Addr} {vs ws : List Value} {Q : Value -> Shared -> Prop} (ht : IsTup s.heap t vs.toArray) (hb : IsTup s.heap b ws.toArray) (hv : vs ≠ [])
  (h1 : ws = [] -> Q (.ref t) s) (h2 : ws ≠ [] -> Q (.ref s.heap.objs.size) { s with heap:=s.heap.push { cls:=.type "tuple",data:=.seq (vs++ws).toArray } })
  (hsz : vs.length + ws.length <= sizeLine) : wpAny (model prog w) A (binaryOp .Add (.ref t) (.ref b)) Q E s:=by
 obtain ⟨⟨cls,dd,data,sl⟩,ho,hc,n,hd⟩:=id ht
 obtain ⟨⟨cls2,dd2,data2,sl2⟩,ho2,hc2,n2,hd2⟩:=id hb
 simp only at hc hd hc2 hd2
 subst hc hd hc2 hd2
 have e : vs.toArray++ws.toArray = (vs++ws).toArray:=by simp
 by_cases hw : ws = []
 ·exact concat_meets ⟨_,ho,rfl⟩ ⟨_,ho2,rfl⟩ noFill_tuple_add seq_tuple_add PySem.F.slot_tuple_add PySem.F.entry_tuple_add (PySem.F.args_tuple_add_2 _ _)
   (tuple_addW1 t b vs.toArray ws.toArray n n2 dd dd2 sl sl2 (by simpa using hv) (by simp [hw])) ⟨ho,ho2,h1 hw⟩
 ·refine concat_meets ⟨_,ho,rfl⟩ ⟨_,ho2,rfl⟩ noFill_tuple_add seq_tuple_add PySem.F.slot_tuple_add PySem.F.entry_tuple_add (PySem.F.args_tuple_add_2 _ _)
   (tuple_addW2 t b vs.toArray ws.toArray n n2 dd dd2 sl sl2 (by simpa using hv) (by simpa using hw) (by rw [List.size_toArray,List.size_toArray]; exact hsz)) ⟨ho,ho2,?_⟩
  rw [e]
  exact h2 hw
def sIx (n d : Nat) : Option Int -> Nat
 | none=>d
 | some v=>if v < 0 then (v + (n : Int)).toNat else min v.toNat n
theorem sIx_none (n d : Nat) : sIx n d none = d:=rfl
theorem sIx_nat (n d k : Nat) : sIx n d (some (k : Int)) = min k n:=by
 show (if (k : Int) < 0 then ((k : Int) + (n : Int)).toNat else min (k : Int).toNat n) = min k n
 rw [if_neg (by omega),Int.toNat_natCast]
theorem sIx_le (n d : Nat) (hd : d <= n) (o : Option Int) : sIx n d o <= n:=by
 cases o with
 | none=>exact hd
 | some v =>
  show (if v < 0 then (v + (n : Int)).toNat else min v.toNat n) <= n
  by_cases hv : v < 0
  ·rw [if_pos hv]; omega
  ·rw [if_neg hv]; exact Nat.min_le_right _ _
theorem ze1 (v : Int) (n d : Nat) : (if v < 0 then max (v + (n : Int)) 0 else min v (n : Int)) = ((sIx n d (some v) : Nat) : Int):=by
 show (if v < 0 then max (v + (n : Int)) 0 else min v (n : Int)) = (((if v < 0 then (v + (n : Int)).toNat else min v.toNat n) : Nat) : Int)
 by_cases hv : v < 0
 ·simp only [if_pos hv]; omega
 ·simp only [if_neg hv]; omega
theorem zfJ (lo hi : Option Int) (n : Nat) : Builtin.Slice.sliceAdjust lo hi 1 (n : Int) = (((sIx n 0 lo : Nat) : Int),((sIx n n hi : Nat) : Int)):=by
 have h1 : ¬ ((1 : Int) < 0):=by omega
 unfold Builtin.Slice.sliceAdjust
 simp only [h1,if_false]
 refine Prod.ext ?_ ?_
 ·cases lo with
  | none=>rfl
  | some v=>exact ze1 v n 0
 ·cases hi with
  | none=>rfl
  | some v=>exact ze1 v n n
theorem zfK (i j : Nat) : Builtin.Slice.slicePlaces (i : Int) (j : Int) 1 = j - i:=by
 unfold Builtin.Slice.slicePlaces
 have h1 : (1 : Int) > 0:=by omega
 simp only [h1,if_true,Int.ediv_one]
 split<;>omega
theorem zcL {v : Value} {o : Option Int} {Q : Option Int -> Shared -> Prop} (p : IsPart v o) (h : Q o s) : wpAny (model prog w) A (Builtin.Slice.slicePartIndex v) Q E s:=by
 cases p with
 | none=>exact slicePart_none h
 | int i t=>exact slicePart_int h
theorem zcr {sl : Addr} {vl vu : Value} {lo hi : Option Int} {n : Nat} {Q : Int × Int × Nat -> Shared -> Prop} (hs : s.heap.IsSliceOf sl vl vu .none) (pl : IsPart vl lo) (pu : IsPart vu hi)
  (h : Q (((sIx n 0 lo : Nat) : Int),1,sIx n n hi - sIx n 0 lo) s) : wpAny (model prog w) A (Builtin.Slice.sliceApplied (.ref sl) (pure (n : Int))) Q E s:=by
 obtain ⟨os,hos,hcs,hds⟩:=id hs
 unfold Builtin.Slice.sliceApplied Builtin.Slice.sliceFields
 refine wpAny_bind (wpAny_bind (wpAny_field hos hds (x:=vl) rfl (wpAny_bind (wpAny_field hos hds (x:=vu) rfl (wpAny_bind (wpAny_field hos hds (x:=.none) rfl (wpAny_pure ?_)))))))
 refine wpAny_bind (slicePart_none ?_)
 show wpAny _ _ (if ((1 : Int) == 0) = true then _ else _) _ _ s
 rw [if_neg (by decide)]
 refine wpAny_bind (zcL pl (wpAny_bind (zcL pu (wpAny_bind (wpAny_pure ?_)))))
 show wpAny _ _ (match Builtin.Slice.sliceAdjust lo hi 1 (n : Int) with | (lo,hi)=>pure (lo,(1 : Int),Builtin.Slice.slicePlaces lo hi 1)) _ _ s
 rw [zfJ lo hi n]
 show wpAny _ _ (pure (((sIx n 0 lo : Nat) : Int),(1 : Int),Builtin.Slice.slicePlaces ((sIx n 0 lo : Nat) : Int) ((sIx n n hi : Nat) : Int) 1)) _ _ s
 rw [zfK]
 exact wpAny_pure h
theorem zhd (xs : Array Value) (i k : Nat) : ((List.range k).filterMap fun (m : Nat)=>xs[((i : Int) + (m : Int) * 1).toNat]?).toArray = ((xs.toList.drop i).take k).toArray:=by
 have e : (fun (m : Nat)=>xs[((i : Int) + (m : Int) * 1).toNat]?) = fun m=>xs[i + m]? := by
  funext m
  have : ((i : Int) + (m : Int) * 1).toNat = i + m:=by omega
  rw [this]
 rw [e]
 have:=pick_run xs i k
 rw [List.filterMap_map] at this
 have e2 : ((fun x=>xs[x]?) ∘ fun x=>i + x) = fun m=>xs[i + m]? := rfl
 rw [e2] at this
 rw [this]
theorem getItem_tuple_cut {t sl : Addr} {items : Array Value} {vl vu : Value} {lo hi : Option Int} {Q : Value -> Shared -> Prop} (ht : IsTup s.heap t items) (hs : s.heap.IsSliceOf sl vl vu .none) (pl : IsPart vl lo) (pu : IsPart vu hi)
  (hw : ¬ (sIx items.size 0 lo = 0 /\ sIx items.size items.size hi = items.size))
  (h : Q (.ref s.heap.objs.size) { s with heap:=s.heap.push { cls:=.type "tuple",data:=.seq ((items.toList.drop (sIx items.size 0 lo)).take (sIx items.size items.size hi - sIx items.size 0 lo)).toArray } })
  (hsz : items.size <= sizeLine) : wpAny (model prog w) A (getItem (.ref t) (.ref sl)) Q E s:=by
 have htake : sizeOk (.seq ((items.toList.drop (sIx items.size 0 lo)).take (sIx items.size items.size hi - sIx items.size 0 lo)).toArray):=by
  show ((items.toList.drop (sIx items.size 0 lo)).take (sIx items.size items.size hi - sIx items.size 0 lo)).toArray.size <= sizeLine
  rw [List.size_toArray,List.length_take,List.length_drop,Array.length_toList]
  omega
 have hj : sIx items.size items.size hi <= items.size:=sIx_le _ _ (Nat.le_refl _) hi
 obtain ⟨os,hos,hcs,hds⟩:=id hs
 have hTs : s.TypeIs (.ref sl) "slice" := ⟨os,hos,hcs⟩
 unfold getItem
 try with_reducible refine wpAny_holding ?_
 first | refine wpAny_bind (wpAny_pure ?_) | skip
 refine wpAny_bind (wpAny_sequenceKey ht.typeIs (by decide) ?_)
 refine wpAny_bind (wpAny_callSpecial?_slot (name:=Str.ofString "__getitem__") ht.typeIs PyProof.Rows.slot_tuple_getitem
  (wpAny_call_entry PyProof.Rows.slot_tuple_getitem ht.typeIs entry_tuple_getitem ?_ (args_tuple_getitem _ _)))
 show wpAny _ _ (Builtin.Tuple.tupleItemsOf (.ref t) >>= _) _ _ s
 refine wpAny_bind (tupleItemsOf_ ht ?_)
 refine wpAny_bind (wpAny_typeOf hTs ?_)
 rw [if_pos (by decide)]
 refine wpAny_bind (zcr hs pl pu ?_)
 have hno : ¬ ((((sIx items.size 0 lo : Nat) : Int) == 0 && (1 : Int) == 1 && (sIx items.size items.size hi - sIx items.size 0 lo) == items.size) = true):=by
  intro q
  rw [Bool.and_eq_true,Bool.and_eq_true] at q
  have q1 : ((sIx items.size 0 lo : Nat) : Int) = 0:=eq_of_beq q.1.1
  have q2 : sIx items.size items.size hi - sIx items.size 0 lo = items.size:=eq_of_beq q.2
  exact hw ⟨by omega,by omega⟩
 show wpAny _ _ (if (((sIx items.size 0 lo : Nat) : Int) == 0 && (1 : Int) == 1 && (sIx items.size items.size hi - sIx items.size 0 lo) == items.size) = true then _ else _) _ _ s
 rw [if_neg hno,zhd]
 first
  | exact wpAny_bind (m:=Builtin.Tuple.tupleExact _) (wpAny_newObj_type (wpAny_pure ⟨_,rfl,wpAny_pure h⟩) htake)
  | exact wpAny_bind (m:=Builtin.Tuple.tupleExact _) (wpAny_newObj_type (wpAny_bind (wpAny_pure (wpAny_pure ⟨_,rfl,wpAny_pure h⟩))) htake)
  | exact wpAny_bind (wpAny_bind (m:=Builtin.Tuple.tupleExact _) (wpAny_newObj_type (wpAny_pure (wpAny_pure ⟨_,rfl,wpAny_pure h⟩)) htake))
  | exact wpAny_bind (wpAny_bind (m:=Builtin.Tuple.tupleExact _) (wpAny_newObj_type (wpAny_pure ⟨_,rfl,wpAny_pure h⟩) htake))
end
end HT
namespace L2
open PySem PySem.Spec PyProof.Rows
abbrev TO:=St -> Hp -> (Option Int -> Hp -> Prop) -> Prop
def PO (X : Cx) (e : Option Expr) (t : TO) : Prop :=
 ∀ (pins : List (Addr × Obj)) (s : Shared) (σ : St) (H : Hp) (Q : Option Int -> Hp -> Prop),Inv X pins σ H s -> t σ H Q ->
  wpAny (model X.prog X.w) X.A (evalPart e X.env) (fun u s' => ∃ o H',Inv X pins σ H' s' /\ IsPart u o /\ Q o H') X.xe s
def yeQ : TO:=fun _ H Q=>Q none H
def yfR (t : TE) : TO:=fun σ H Q=>t σ H fun x H1=>∃ i,x = .int i /\ Q (some i) H1
section
variable {X : Cx} {e : Expr} {te : TE} {lo hi : Option Expr} {tl th : TO} {pos p2 : Pos}
theorem zh9 : PO X none yeQ:=by
 intro pins s σ H Q I h
 rw [evalPart_none]
 exact wpAny_pure ⟨none,H,I,.none,h⟩
theorem zia (h : PE X e te) : PO X (some e) (yfR te):=by
 intro pins s σ H Q I hw
 rw [evalPart_some]
 refine thn (h pins s σ H _ I hw) fun u s1 ⟨x,H1,I1,r1,q1⟩=>?_
 obtain ⟨i,rfl,q⟩:=q1
 obtain ⟨t,rfl⟩:=r1
 exact ⟨some i,H1,I1,.int i t,q⟩
def SlR (X : Cx) (r : V -> Option Int -> Option Int -> Hp -> VK -> Prop) : Prop :=
 ∀ (pins : List (Addr × Obj)) (s : Shared) (σ : St) (H : Hp) (x : V) (v vl vu : Value) (lo hi : Option Int) (sl : Addr) (Q : VK),Inv X pins σ H s -> RelV x v -> s.heap.IsSliceOf sl vl vu .none -> IsPart vl lo -> IsPart vu hi -> r x lo hi H Q ->
  ∃ T id,typeLookup (.type T) "__getitem__" = pure (some (.builtin id)) /\ s.TypeIs v T /\ wpAny (model X.prog X.w) X.A (getItem v (.ref sl)) (EP X pins σ Q) X.xe s
theorem SlR.or {r r' : V -> Option Int -> Option Int -> Hp -> VK -> Prop} (h : SlR X r) (h' : SlR X r') : SlR X (fun x lo hi H Q=>r x lo hi H Q \/ r' x lo hi H Q):=by
 intro pins s σ H x v vl vu lo hi sl Q I rx hs pl pu q
 rcases q with q | q
 ·exact h pins s σ H x v vl vu lo hi sl Q I rx hs pl pu q
 ·exact h' pins s σ H x v vl vu lo hi sl Q I rx hs pl pu q
def tSl (r : V -> Option Int -> Option Int -> Hp -> VK -> Prop) (te : TE) (tl th : TO) : TE:=fun σ H Q=>te σ H fun x H1=>tl σ H1 fun l H2=>th σ H2 fun u H3=>r x l u H3 Q
theorem zhe {r : V -> Option Int -> Option Int -> Hp -> VK -> Prop} (hr : SlR X r) (he : PE X e te) (hl : PO X lo tl) (hu : PO X hi th) : PE X (.Subscript e (.Slice lo hi none p2) pos) (tSl r te tl th):=by
 intro pins s σ H Q I h
 refine Subscript_ (thn (he pins s σ H _ I h) fun v s1 ⟨x,H1,I1,r1,q1⟩=>?_)
 refine wpAny_Slice (thn (hl pins s1 σ H1 _ I1 q1) fun vl s2 ⟨l,H2,I2,pl,q2⟩=>thn (hu pins s2 σ H2 _ I2 q2) fun vu s3 ⟨u,H3,I3,pu,q3⟩=>?_)
 rw [evalPart_none]
 refine wpAny_pure ?_
 have I4 : Inv X pins σ H3 { s3 with heap:=s3.heap.push { cls:=.type "slice",data:=.fields #[vl,vu,.none] } }:=I3.kept (t' := s3.toks) fun b ob q=>Heap.get?_push_of_some _ q
 obtain ⟨T,id,hT,ht,hg⟩:=hr pins { s3 with heap:=s3.heap.push { cls:=.type "slice",data:=.fields #[vl,vu,.none] } } σ H3 x v vl vu l u s3.heap.objs.size Q I4 r1 (Heap.IsSliceOf.new ..) pl pu q3
 show wpAny (model X.prog X.w) X.A (subscriptTail e (.Slice lo hi none p2) v (.ref s3.heap.objs.size)) (EP X pins σ Q) X.xe { s3 with heap:=s3.heap.push { cls:=.type "slice",data:=.fields #[vl,vu,.none] } }
 exact tail_any (ops:=[.ref s3.heap.objs.size,v]) ht hT hg (by with_unfolding_all rfl)
def cutV (xs : List V) (lo hi : Option Int) : List V:=(xs.drop (HT.sIx xs.length 0 lo)).take (HT.sIx xs.length xs.length hi - HT.sIx xs.length 0 lo)
theorem zci (xs : List V) (lo hi : Option Int) : (cutV xs lo hi).length <= xs.length:=by
 unfold cutV
 rw [List.length_take,List.length_drop]
 omega
def rSlT (K : PySem.W.Frag) : V -> Option Int -> Option Int -> Hp -> VK -> Prop:=fun x lo hi H Q=>∃ a xs,x = .ref a /\ SqT K H a xs /\
 ¬ (HT.sIx xs.length 0 lo = 0 /\ HT.sIx xs.length xs.length hi = xs.length) /\ ∀ p,H p = none -> Q (.ref p) (upd H p (.tup (cutV xs lo hi)))
theorem sl_tup : SlR X (rSlT X.K):=by
 intro pins s σ H x v vl vu lo hi sl Q I rx hs pl pu h
 obtain ⟨a,xs,rfl,hx,hw,q⟩:=h
 cases rx
 obtain ⟨its,r,ht,hz⟩:=I.tuple hx
 have hlen : its.toArray.size = xs.length:=by rw [List.size_toArray]; exact r.length.symm
 refine ⟨"tuple",_,PyProof.Rows.slot_tuple_getitem.lookup,ht.typeIs,?_⟩
 refine HT.getItem_tuple_cut ht hs pl pu (by rw [hlen]; exact hw) ?_ (by rw [hlen]; exact hz)
 rw [hlen]
 refine ⟨.ref s.heap.objs.size,_,I.laid (t' := s.toks) (o:=.tup (cutV xs lo hi)) (fun b ob q=>Heap.get?_push_of_some _ q) (Nat.le_refl _) ?_,rfl,q _ (I.hok.fresh (Nat.le_refl _))⟩
 exact ⟨Nat.le_trans (zci xs lo hi) hz,_,(r.drop (HT.sIx xs.length 0 lo)).take (HT.sIx xs.length xs.length hi - HT.sIx xs.length 0 lo),IsTup.new _ _⟩
def yhP (K : PySem.W.Frag) : R2:=fun x y H Q=>∃ a b xs ys,x = .ref a /\ y = .ref b /\ SqT K H a xs /\ SqT K H b ys /\ xs ≠ [] /\ xs.length + ys.length <= sizeLine /\
 (ys = [] -> Q (.ref a) H) /\ (ys ≠ [] -> ∀ p,H p = none -> Q (.ref p) (upd H p (.tup (xs++ys))))
theorem Vals.nil_iff {xs : List V} {us : List Value} (r : Vals xs us) : us = [] ↔ xs = []:=by
 cases r with
 | nil=>simp
 | cons _ _=>simp
theorem zib : OpR X (binaryOp .Add) (yhP X.K):=by
 intro pins s σ H x y v u Q I rx ry h
 obtain ⟨a,b,xs,ys,rfl,rfl,ha,hb,hx,hz,q1,q2⟩:=h
 cases rx
 cases ry
 obtain ⟨its,r1,p1,_⟩:=I.tuple ha
 obtain ⟨its2,r2,p2,_⟩:=I.tuple hb
 refine HT.cat_tup p1 p2 (fun z=>hx (r1.nil_iff.mp z)) (fun z=>⟨.ref a,H,I,rfl,q1 (r2.nil_iff.mp z)⟩) (fun z=>?_) (by rw [<- r1.length,<- r2.length]; exact hz)
 refine ⟨.ref s.heap.objs.size,_,I.laid (t' := s.toks) (o:=.tup (xs++ys)) (fun b ob q=>Heap.get?_push_of_some _ q) (Nat.le_refl _) ?_,rfl,q2 (fun w=>z (r2.nil_iff.mpr w)) _ (I.hok.fresh (Nat.le_refl _))⟩
 exact ⟨by rw [List.length_append]; exact hz,_,r1.append r2,IsTup.new _ _⟩
end
end L2
namespace L2
open PySem PySem.Spec PyProof.Rows
def ixN (n : Nat) (i : Int) : Option Nat:=if 0 <= i then (if i < n then some i.toNat else none) else if -(n : Int) <= i then some (i + n).toNat else none
def atI {α : Type} (xs : List α) (i : Int) : Option α:=(ixN xs.length i).bind fun j=>xs[j]?
theorem ze2 {n : Nat} {i : Int} {j : Nat} (h : ixN n i = some j) : seqIndex? i n = some j /\ j < n /\ -(n : Int) <= i /\ i < n:=by
 unfold ixN at h
 by_cases h0 : 0 <= i
 ·rw [if_pos h0] at h
  by_cases h1 : i < n
  ·rw [if_pos h1] at h
   have e : i.toNat = j:=Option.some.inj h
   exact ⟨by rw [seqIndex_of h0 h1,e],by omega,by omega,h1⟩
  ·rw [if_neg h1] at h; cases h
 ·rw [if_neg h0] at h
  by_cases h1 : -(n : Int) <= i
  ·rw [if_pos h1] at h
   have e : (i + n).toNat = j:=Option.some.inj h
   exact ⟨by rw [seqIndex_neg (by omega) h1,e],by omega,h1,by omega⟩
  ·rw [if_neg h1] at h; cases h
theorem zb4 {α : Type} {xs : List α} {i : Int} {v : α} (h : atI xs i = some v) : ∃ j,seqIndex? i xs.length = some j /\ xs[j]? = some v /\ j < xs.length /\ -(xs.length : Int) <= i /\ i < xs.length:=by
 unfold atI at h
 cases e : ixN xs.length i with
 | none=>rw [e] at h; cases h
 | some j =>
  rw [e] at h
  obtain ⟨h1,h2,h3,h4⟩:=ze2 e
  exact ⟨j,h1,h,h2,h3,h4⟩
theorem zcY {α : Type} {xs : List α} {j : Nat} {v : α} (h : xs[j]? = some v) : atI xs (j : Int) = some v:=by
 have hj : j < xs.length:=(List.getElem?_eq_some_iff.mp h).1
 have e : ixN xs.length (j : Int) = some j:=by
  unfold ixN
  rw [if_pos (by omega),if_pos (by omega)]; simp
 unfold atI; rw [e]; exact h
def yeR (b : Expr) : Prop:=∀ o i,subscripted b false o i = operate [o,i] (getItem o i)
def IxR (X : Cx) (r : R2) : Prop :=
 ∀ (value slice : Expr) (pins : List (Addr × Obj)) (s : Shared) (σ : St) (H : Hp) (x y : V) (v u : Value) (Q : VK),Inv X pins σ H s -> RelV x v -> RelV y u -> r x y H Q ->
  subscripted slice false v u = operate [v,u] (getItem v u) -> wpAny (model X.prog X.w) X.A (subscriptTail value slice v u) (EP X pins σ Q) X.xe s
def MtR (X : Cx) (id : String) (r : V -> List V -> Hp -> VK -> Prop) : Prop :=
 ∀ (pins : List (Addr × Obj)) (s : Shared) (σ : St) (H : Hp) (x : V) (xs : List V) (v : Value) (us : List Value) (Q : VK),Inv X pins σ H s -> RelV x v -> Vals xs us -> r x xs H Q ->
  wpAny (model X.prog X.w) X.A (call (.builtin id) (v :: us)) (EP X pins σ Q) X.xe s
section
variable {X : Cx} {a b : Expr} {ta tb : TE} {pos : Pos}
theorem IxR.or {r r' : R2} (h : IxR X r) (h' : IxR X r') : IxR X (fun x y H Q=>r x y H Q \/ r' x y H Q):=by
 intro value slice pins s σ H x y v u Q I rx ry q hs
 rcases q with q | q
 ·exact h value slice pins s σ H x y v u Q I rx ry q hs
 ·exact h' value slice pins s σ H x y v u Q I rx ry q hs
theorem yhQ {r : R2} (hr : IxR X r) (ha : PE X a ta) (hb : PE X b tb) (hs : yeR b) : PE X (.Subscript a b pos) (tOp r ta tb):=by
 intro pins s σ H Q I h
 exact Subscript_ (binT ha hb I h fun v u s2 x y H2 I2 rx ry q=>hr a b pins s2 σ H2 x y v u Q I2 rx ry q (hs _ _))
def rIxL (K : PySem.W.Frag) : R2:=fun x y H Q=>∃ p xs i v,x = .ref p /\ y = .int i /\ SqL K H p xs /\ atI xs i = some v /\ Q v H
def rIxT (K : PySem.W.Frag) : R2:=fun x y H Q=>∃ p xs i v,x = .ref p /\ y = .int i /\ SqT K H p xs /\ atI xs i = some v /\ Q v H
def rIxS : R2:=fun x y H Q=>∃ z i c,x = .str z /\ y = .int i /\ z.length <= sizeLine /\ atI z.cps.toList i = some c /\ Q (.str ⟨#[c]⟩) H
theorem zic : IxR X (rIxL X.K):=by
 intro value slice pins s σ H x y v u Q I rx ry h hs
 obtain ⟨p,xs,i,z,rfl,rfl,hq,he,q⟩:=h
 cases rx
 obtain ⟨t,rfl⟩:=ry
 obtain ⟨its,r,pl,hz⟩:=I.list hq
 obtain ⟨j,h1,h2,h3,h4,h5⟩:=zb4 he
 obtain ⟨w,ew,rw'⟩:=r.get h2
 have hl:=r.length
 have hn:=yc2
 have fin : EP X pins σ Q w s:=⟨z,H,I,rw',q⟩
 by_cases h0 : 0 <= i
 ·have hj : i.toNat = j:=by
   rw [seqIndex_of h0 h5] at h1
   exact Option.some.inj h1
  exact item_listR pl.isList h0 (by omega) (by rw [hj]; simpa using ew) fin hs
 ·have hj : (i + (its.toArray.size : Int)).toNat = j:=by
   rw [seqIndex_neg (by omega) h4] at h1
   rw [List.size_toArray,<- hl]
   exact Option.some.inj h1
  exact subscriptTail_builtinR (x:=w) pl.isList.typeIs slot_list_getitem.lookup
   (wpAny_getItem_list_neg (Q:=fun r s' => r = w /\ EP X pins σ Q r s') pl.isList (by omega) (by rw [List.size_toArray]<;>omega) (by omega) (by rw [hj]; simpa using ew) ⟨rfl,fin⟩) hs
theorem ix_tup : IxR X (rIxT X.K):=by
 intro value slice pins s σ H x y v u Q I rx ry h hs
 obtain ⟨p,xs,i,z,rfl,rfl,hq,he,q⟩:=h
 cases rx
 obtain ⟨t,rfl⟩:=ry
 obtain ⟨its,r,pl,hz⟩:=I.tuple hq
 obtain ⟨j,h1,h2,h3,h4,h5⟩:=zb4 he
 obtain ⟨w,ew,rw'⟩:=r.get h2
 have hl:=r.length
 have hn:=yc2
 have fin : EP X pins σ Q w s:=⟨z,H,I,rw',q⟩
 exact subscriptTail_builtinR (x:=w) pl.typeIs slot_tuple_getitem.lookup
  (getItem_tuple (j:=j) (Q:=fun r s' => r = w /\ EP X pins σ Q r s') pl (by omega) (by omega) (by rw [List.size_toArray,<- hl]; exact h1) (by simpa using ew) ⟨rfl,fin⟩) hs
theorem ygG : IxR X rIxS:=by
 intro value slice pins s σ H x y v u Q I rx ry h hs
 obtain ⟨z,i,c,rfl,rfl,hz,he,q⟩:=h
 obtain ⟨t,rfl⟩:=rx
 obtain ⟨t',rfl⟩:=ry
 obtain ⟨j,h1,h2,h3,h4,h5⟩:=zb4 he
 have hl : z.cps.toList.length = z.length:=by simp [Str.length]
 rw [hl] at h1 h4 h5
 have hn:=yc2
 exact tail_any (typeIs_str s z t) slot_str_getitem.lookup (getItem_str (c:=c) (by
  have e1 : decide (i < -(2 ^ 63 : Int)) = false:=decide_eq_false (by omega)
  have e2 : decide (i ≥ 2 ^ 63) = false:=decide_eq_false (by omega)
  rw [e1,e2,Bool.or_false]) (by rw [h1]; simpa using h2) ⟨.str ⟨#[c]⟩,H,I.tok _,⟨_,rfl⟩,q⟩) hs
def rIx (K : PySem.W.Frag) : R2:=fun x y H Q=>rIxL K x y H Q \/ rIxT K x y H Q \/ rIxS x y H Q
theorem ygH : IxR X (rIx X.K):=zic.or (ix_tup.or ygG)
theorem zfL (its : List Value) (n j : Nat) (u : Value) : Obj.mapSeq (·.setIfInBounds j u) { cls:=.type "list",data:=.seq its.toArray n } = { cls:=.type "list",data:=.seq (its.set j u).toArray n }:=by
 simp [Obj.mapSeq]
theorem Inv.lst {pins : List (Addr × Obj)} {σ : St} {H : Hp} {s : Shared} {p : Addr} {xs : List V} (I : Inv X pins σ H s) (h : H p = some (.lst xs)) :
  ∃ (its : List Value) (n : Nat),Vals xs its /\ s.heap.get? p = some { cls:=.type "list",data:=.seq its.toArray n } /\ xs.length <= sizeLine:=by
 obtain ⟨z,its,n,r,e⟩:=I.hok p _ h
 exact ⟨its,n,r,e,z⟩
theorem Inv.lstUpd {pins : List (Addr × Obj)} {σ : St} {H : Hp} {s : Shared} {p : Addr} {xs ys : List V} {its its' : List Value} {n n' : Nat} {f : Obj -> Obj} (I : Inv X pins σ H s) (h : H p = some (.lst xs))
  (ho : s.heap.get? p = some { cls:=.type "list",data:=.seq its.toArray n }) (hf : f { cls:=.type "list",data:=.seq its.toArray n } = { cls:=.type "list",data:=.seq its'.toArray n' }) (r : Vals ys its') (hz : ys.length <= sizeLine) (t : Nat) :
  Inv X pins σ (upd H p (.lst ys)) { s with heap:=s.heap.update p f,toks:=t }:=by
 have e : (s.heap.update p f).get? p = some { cls:=.type "list",data:=.seq its'.toArray n' }:=by
  rw [Heap.get?_update_self f ho (by rw [hf]<;>rfl),hf]
 refine I.write (x:=p) (e:=p) (by rw [h]; trivial) (.inl rfl) (fun b u hb q=>(Heap.get?_update_other _ _ (Ne.symm hb)).trans q) ⟨_,e⟩ ?_
 exact ⟨hz,its',n',r,e⟩
def yhR : V -> V -> V -> Hp -> (Hp -> Prop) -> Prop:=fun o i v H Q=>∃ p xs k j,o = .ref p /\ i = .int k /\ H p = some (.lst xs) /\ ixN xs.length k = some j /\ Q (upd H p (.lst (xs.set j v)))
theorem zhf : PSet X yhR:=by
 intro pins s σ H o i v ov iv u Q I ro ri rv h
 obtain ⟨p,xs,k,j,rfl,rfl,hp,hj,q⟩:=h
 cases ro
 obtain ⟨t,rfl⟩:=ri
 obtain ⟨its,n,r,ho,hz⟩:=I.lst hp
 obtain ⟨h1,h2,h3,h4⟩:=ze2 hj
 have hl:=r.length
 have hn:=yc2
 have I' : Inv X pins σ (upd H p (.lst (xs.set j v))) { s with heap:=s.heap.update p (Obj.mapSeq (·.setIfInBounds j u)) } :=
  I.lstUpd hp ho (zfL its n j u) (r.set rv j) (by rw [List.length_set]; exact hz) s.toks
 by_cases h0 : 0 <= k
 ·have hk : k.toNat = j:=by
   rw [seqIndex_of h0 h4] at h1
   exact Option.some.inj h1
  exact PySem.W.ki_setAt ho h0 (by omega) (by rw [List.size_toArray,<- hl]; exact h4) (by rw [hk]; exact ⟨_,I',q⟩)
 ·have hk : (k + (its.toArray.size : Int)).toNat = j:=by
   rw [seqIndex_neg (by omega) h3] at h1
   rw [List.size_toArray,<- hl]
   exact Option.some.inj h1
  exact PySem.W.ki_setBack ho (by omega) (by rw [List.size_toArray,<- hl]; exact h3) (by omega) (by rw [hk]; exact ⟨_,I',q⟩)
theorem zd4 (lo hi : Option Int) (n : Nat) : (sliceBounds lo hi none n).1 = ((HT.sIx n 0 lo : Nat) : Int) /\ (sliceBounds lo hi none n).2.1 = ((HT.sIx n n hi : Nat) : Int) /\ (sliceBounds lo hi none n).2.2 = 1:=by
 refine ⟨?_,?_,rfl⟩
 ·cases lo with
  | none=>simp [sliceBounds,HT.sIx]
  | some i =>
   simp only [sliceBounds,HT.sIx,Option.getD_none,show (1 : Int) > 0 by decide,if_true]
   by_cases h : i < 0
   ·simp only [h,if_true]<;>omega
   ·simp only [h,if_false]<;>omega
 ·cases hi with
  | none=>simp [sliceBounds,HT.sIx]
  | some i =>
   simp only [sliceBounds,HT.sIx,Option.getD_none,show (1 : Int) > 0 by decide,if_true]
   by_cases h : i < 0
   ·simp only [h,if_true]<;>omega
   ·simp only [h,if_false]<;>omega
theorem zdO (its : List Value) (lo hi : Option Int) : slicePick its.toArray lo hi none = ((its.drop (HT.sIx its.length 0 lo)).take (HT.sIx its.length its.length hi - HT.sIx its.length 0 lo)).toArray:=by
 obtain ⟨h1,h2,h3⟩:=zd4 lo hi its.toArray.size
 unfold slicePick
 rw [h1,h2,h3]
 simp only [sliceRange_one,pick_run,List.size_toArray]<;>rfl
def rSlL (K : PySem.W.Frag) : V -> Option Int -> Option Int -> Hp -> VK -> Prop:=fun x lo hi H Q=>∃ a xs,x = .ref a /\ SqL K H a xs /\ ∀ p,H p = none -> Q (.ref p) (upd H p (.lst (cutV xs lo hi)))
theorem zid : SlR X (rSlL X.K):=by
 intro pins s σ H x v vl vu lo hi sl Q I rx hs pl pu h
 obtain ⟨a,xs,rfl,hx,q⟩:=h
 cases rx
 obtain ⟨its,r,ht,hz⟩:=I.list hx
 have hlen:=r.length
 refine ⟨"list",_,slot_list_getitem.lookup,ht.isList.typeIs,?_⟩
 refine wpAny_getItem_list_slice ht.isList hs pl pu .none (by simp) ?_ (by rw [List.size_toArray]<;>omega)
 rw [zdO,<- hlen]
 refine ⟨.ref s.heap.objs.size,_,I.laid (t' := s.toks) (o:=.lst (cutV xs lo hi)) (fun b ob q=>Heap.get?_push_of_some _ q) (Nat.le_refl _) ?_,rfl,q _ (I.hok.fresh (Nat.le_refl _))⟩
 exact ⟨Nat.le_trans (zci xs lo hi) hz,_,0,(r.drop (HT.sIx xs.length 0 lo)).take (HT.sIx xs.length xs.length hi - HT.sIx xs.length 0 lo),Heap.get?_push_size _ rfl⟩
theorem zd5 : OpR X (compareOp .NotIn) (fun x y H Q=>∃ i j,x = .str i /\ y = .str j /\ Q (.bl (!(!(Builtin.Str.occurrences j i 0 j.length 1).isEmpty))) H):=by
 intro pins s σ H x y v u Q I rx ry h
 obtain ⟨i,j,rfl,rfl,q⟩:=h
 obtain ⟨t,rfl⟩:=rx
 obtain ⟨t',rfl⟩:=ry
 exact notIn_str ⟨.bl _,H,I,rfl,q⟩
theorem zd6 : CallR X (.builtin "len") (fun xs H Q=>∃ p ys,xs = [.ref p] /\ (SqL X.K H p ys \/ SqT X.K H p ys) /\ Q (.int ys.length) H):=by
 intro pins s σ H xs us Q I r h
 obtain ⟨p,ys,rfl,hq,q⟩:=h
 obtain ⟨u,rfl,rx⟩:=ybP r
 cases rx
 have hn:=yc2
 rcases hq with hq | hq
 ·obtain ⟨its,r',pl,hz⟩:=I.list hq
  have hlen:=r'.length
  exact Calls.call_len_list pl.isList (by simp only [List.size_toArray]<;>omega) ⟨.int ys.length,H,I.tok _,⟨s.toks + 1,by rw [List.size_toArray,hlen]⟩,q⟩
 ·obtain ⟨its,r',pl,hz⟩:=I.tuple hq
  have hlen:=r'.length
  exact len_tuple pl (by simp only [List.size_toArray]<;>omega) ⟨.int ys.length,H,I.tok _,⟨s.toks + 1,by rw [List.size_toArray,hlen]⟩,q⟩
theorem zd7 : CallR X (.builtin "len") (fun xs H Q=>∃ z,xs = [.str z] /\ z.length <= sizeLine /\ Q (.int z.length) H):=by
 intro pins s σ H xs us Q I r h
 obtain ⟨z,rfl,hz,q⟩:=h
 obtain ⟨u,rfl,t,rfl⟩:=ybP r
 have hn:=yc2
 exact len_str (by omega) ⟨.int z.length,H,I.tok _,⟨_,rfl⟩,q⟩
theorem CallR.or {f : Value} {r r' : List V -> Hp -> VK -> Prop} (h : CallR X f r) (h' : CallR X f r') : CallR X f (fun xs H Q=>r xs H Q \/ r' xs H Q):=by
 intro pins s σ H xs us Q I rs q
 rcases q with q | q
 ·exact h pins s σ H xs us Q I rs q
 ·exact h' pins s σ H xs us Q I rs q
def tyV (K : PySem.W.Frag) (T : String) (x : V) (H : Hp) : Prop:=match x with
 | .str _=>T = "str"
 | .int _=>T = "int"
 | .ref p=>(T = "list" /\ ∃ xs,SqL K H p xs) \/ (T = "tuple" /\ ∃ o,K.lookup p = some o /\ o.cls = .type "tuple" /\ o.dict = none) \/
   (T = "dict" /\ ((∃ kvs,H p = some (.dK kvs)) \/ ∃ xc kvs,H p = some (.dT xc kvs))) \/ (T = "set" /\ ∃ S n,H p = some (.set S n))
 | _=>False
theorem ygI {pins : List (Addr × Obj)} {σ : St} {H : Hp} {s : Shared} {T : String} {x : V} {v : Value} (I : Inv X pins σ H s) (r : RelV x v) (ty : tyV X.K T x H) :
  s.TypeIs v T /\ ∀ a,v = .ref a -> ∃ ob,s.heap.get? a = some ob /\ ob.dict = none:=by
 cases x with
 | str z =>
  obtain ⟨t,rfl⟩:=r
  cases (show T = "str" from ty)
  exact ⟨typeIs_str s z t,fun _ e=>nomatch e⟩
 | int i =>
  obtain ⟨t,rfl⟩:=r
  cases (show T = "int" from ty)
  exact ⟨typeIs_int s i t,fun _ e=>nomatch e⟩
 | ref p =>
  cases r
  rcases ty with ⟨rfl,xs,hq⟩ | ⟨rfl,o,hk,hc,hd⟩ | ⟨rfl,hk⟩ | ⟨rfl,S,n,hk⟩
  ·obtain ⟨its,_,pl,_⟩:=I.list hq
   refine ⟨pl.isList.typeIs,fun a e=>?_⟩
   cases e
   obtain ⟨o,n,e,c,hd,_⟩:=pl
   exact ⟨o,e,hd⟩
  ·refine ⟨⟨o,I.kIn p o hk,hc⟩,fun a e=>?_⟩
   cases e
   exact ⟨o,I.kIn _ o hk,hd⟩
  ·have z : ∃ o,s.heap.get? p = some o /\ o.ExactDict:=by
    rcases hk with ⟨kvs,hk⟩ | ⟨xc,kvs,hk⟩
    ·obtain ⟨_,_,_,_,o,_,_,e,ex,_⟩:=I.hok p _ hk
     exact ⟨o,e,ex⟩
    ·obtain ⟨_,_,_,_,o,_,_,e,ex,_⟩:=I.hok p _ hk
     exact ⟨o,e,ex⟩
   obtain ⟨o,e,ex⟩:=z
   refine ⟨⟨o,e,ex.1⟩,fun a e2=>?_⟩
   cases e2
   exact ⟨o,e,ex.2.1⟩
  ·obtain ⟨o,_,_,_,e,ex,_⟩:=I.hok p _ hk
   refine ⟨⟨o,e,ex.1⟩,fun a e2=>?_⟩
   cases e2
   exact ⟨o,e,ex.2.1⟩
 | _=>exact False.elim ty
def tBM (K : PySem.W.Frag) (T : String) (r : V -> List V -> Hp -> VK -> Prop) (to : TE) (t : TA) : TE:=fun σ H Q=>to σ H fun x H1=>tyV K T x H1 /\ t σ H1 fun xs H2=>r x xs H2 Q
variable {o e : Expr} {es : List Expr} {to : TE} {t : TA} {name : Str} {apos cpos : Pos} {T id : String} {r : V -> List V -> Hp -> VK -> Prop}
theorem yhS (pa : PlainAttrs T) (slot : Slot T name id) (hty : typeOf (.builtin id) = pure (.type "method_descriptor")) (hm : MtR X id r) (ho : PE X o to) (ha : PA X (e :: es) t)
  (hbase : attributeBase o name X.env (eval o X.env) = eval o X.env:=by rfl)
  (hfew : ((backTo cpos (starEach (e :: es) X.env)).all (fun x=>!x.1) && (backToKw cpos (keywordEach [] X.env)).all (fun x=>x.1.isSome)
   && decide ((e :: es).length + ([] : List Keyword).length + (if ([] : List Keyword).isEmpty then 0 else 1) < 30)) = true:=by rfl)
  (hline : (apos.endLine == cpos.line) = true:=by rfl) (hs : starEach (e :: es) X.env = (false,eval e X.env) :: starEach es X.env:=by rfl) (hplain : (backTo cpos (starEach es X.env)).any (·.1) = false:=by rfl) :
  PE X (.Call (.Attribute o name apos) (e :: es) [] cpos) (tBM X.K T r to t):=by
 intro pins s σ H Q I h
 refine wpAny_Call_method_late hbase hfew hline rfl (thn (ho pins s σ H _ I h) fun v s1 ⟨x,H1,I1,r1,ty,q1⟩=>?_)
 obtain ⟨h1,h2⟩:=ygI I1 r1 ty
 refine ⟨T,id,pa,slot,hty,h1,h2,?_⟩
 have hA:=ha cpos pins s1 σ H1 _ I1 q1
 rw [hs] at hA ⊢
 refine Calls.callWith_builtin (by show (false || (backTo cpos (starEach es X.env)).any (·.1)) = false; rw [hplain]<;>rfl) (Calls.evalArgs_plain ?_)
 exact thn hA fun us s2 ⟨vs,H2,I2,r2,q2⟩=>hm pins s2 σ H2 x vs v us Q I2 r1 r2 q2
end
end L2
namespace L2
open PySem PySem.Spec PyProof.Rows
def MtM (X : Cx) (id : String) (r : V -> List V -> Hp -> VK -> Prop) : Prop :=
 ∀ (pins : List (Addr × Obj)) (s : Shared) (σ : St) (H : Hp) (x : V) (xs : List V) (v : Value) (us : List Value) (Q : VK),Inv X pins σ H s -> RelV x v -> Vals xs us -> r x xs H Q ->
  wpAny (model X.prog X.w) X.A (call (.builtin id) (v :: us)) (EP X pins σ Q) X.xe s
theorem Vals.one : ∀ {x : V} {us : List Value},Vals [x] us -> ∃ u,us = [u] /\ RelV x u
 | _,_,.cons r .nil=>⟨_,rfl,r⟩
section
variable {X : Cx} {pins : List (Addr × Obj)} {σ : St} {H : Hp} {s : Shared} {l b : Addr} {xs ys zs : List V}
theorem Inv.lset {its its' : List Value} {n : Nat} {f : Array Value -> Array Value} {t' : Nat} (I : Inv X pins σ H s) (hH : H l = some (.lst xs))
  (e : s.heap.get? l = some { cls:=.type "list",data:=.seq its.toArray n }) (hf : f its.toArray = its'.toArray) (hv : Vals ys its') (hz : ys.length <= sizeLine) :
  Inv X pins σ (upd H l (.lst ys)) { s with heap:=s.heap.update l (Obj.mapSeq f),toks:=t' }:=by
 have q:=PySem.IsL.update e f
 rw [hf] at q
 refine I.write (x:=l) (e:=l) (by rw [hH]; exact trivial) (.inl rfl) (fun b' u hb hu=>(Heap.get?_update_other s.heap (Obj.mapSeq f) (Ne.symm hb)).trans hu) ⟨_,q⟩ ?_
 exact ⟨hz,its',_,hv,q⟩
theorem Inv.lnew {its : List Value} {t' : Nat} (I : Inv X pins σ H s) (hv : Vals ys its) (hz : ys.length <= sizeLine) :
  Inv X pins σ (upd H s.heap.objs.size (.lst ys)) { s with heap:=s.heap.push { cls:=.type "list",data:=.seq its.toArray },toks:=t' } :=
 I.laid (fun _ _ q=>Heap.get?_push_of_some _ q) (Nat.le_refl _) ⟨hz,its,0,hv,Heap.get?_push_size _ rfl⟩
theorem Inv.fresh (I : Inv X pins σ H s) : H s.heap.objs.size = none:=I.hok.fresh (Nat.le_refl _)
theorem Inv.lstM (I : Inv X pins σ H s) (hH : H l = some (.lst xs)) : xs.length <= sizeLine /\ ∃ (its : List Value) (n : Nat),Vals xs its /\ xs.length = its.length /\ s.heap.get? l = some { cls:=.type "list",data:=.seq its.toArray n }:=by
 obtain ⟨z,its,n,r,e⟩:=I.hok l _ hH
 exact ⟨z,its,n,r,r.length,e⟩
end
section
variable {X : Cx}
def ygd : V -> List V -> Hp -> VK -> Prop:=fun x vs H Q=>∃ l xs y,x = .ref l /\ vs = [y] /\ H l = some (.lst xs) /\ xs.length < sizeLine /\ Q .non (upd H l (.lst (xs++[y])))
theorem zdu : MtM X "list.append" ygd:=by
 intro pins s σ H x vs v us Q I rx rv h
 obtain ⟨l,xs,y,rfl,rfl,hH,hz,q⟩:=h
 cases rx
 obtain ⟨u,rfl,ru⟩:=rv.one
 obtain ⟨z,its,n,r,hl,e⟩:=I.lstM hH
 refine call_meets F.slot_list_append ⟨_,e,rfl⟩ F.entry_list_append (F.args_list_append_2 _ _) (PySem.list_append l its.toArray n u (by rw [List.size_toArray]; omega)) ⟨e,?_⟩
 refine ⟨.non,_,I.lset (its' := its++[u]) hH e (by simp) (r.append (.cons ru .nil)) ?_,rfl,q⟩
 rw [List.length_append,List.length_singleton]
 omega
end
section
variable {prog : Program} {w : World} {A : Around} {E : Value -> Shared -> Prop} {s : Shared}
end
section
variable {X : Cx}
end
end L2
namespace L2
open PySem PySem.Spec PyProof.Rows
section
variable {κ : Type} [DecidableEq κ]
def valV (kvs : List (κ × V)) (k : κ) : Option V:=(kvs.find? fun kv=>decide (kv.1 = k)).map (·.2)
def putK (kvs : List (κ × V)) (k : κ) (v : V) : List (κ × V) :=
 if (kvs.any fun kv=>decide (kv.1 = k)) = true then kvs.map (fun kv=>if kv.1 = k then (kv.1,v) else kv) else kvs++[(k,v)]
theorem zbv {p : κ × V} {r : List (κ × V)} {k : κ} (e : p.1 = k) : valV (p :: r) k = some p.2:=by simp [valV,List.find?_cons,e]
theorem zba {p : κ × V} {r : List (κ × V)} {k : κ} (e : ¬ p.1 = k) : valV (p :: r) k = valV r k:=by simp [valV,List.find?_cons,e]
theorem zbw (k : κ) : ∀ kvs : List (κ × V),(kvs.any fun kv=>decide (kv.1 = k)) = (valV kvs k).isSome
 | []=>rfl
 | p :: r=>by
  rw [List.any_cons]
  by_cases e : p.1 = k
  ·simp only [zbv e,decide_eq_true e,Bool.true_or,Option.isSome_some]
  ·rw [zba e,decide_eq_false e,Bool.false_or]; exact zbw k r
theorem zbm (kvs : List (κ × V)) (k : κ) (v : V) : (putK kvs k v).length <= kvs.length + 1:=by
 unfold putK
 split
 ·rw [List.length_map]; omega
 ·rw [List.length_append,List.length_cons,List.length_nil]; omega
theorem RelO.isSome_eq {o : Option V} {u : Option Value} (r : RelO o u) : o.isSome = u.isSome:=by
 cases o with
 | none=>cases u with
  | none=>rfl
  | some _=>exact (show False from r).elim
 | some _=>cases u with
  | none=>exact (show False from r).elim
  | some _=>rfl
theorem RelO.getD {o : Option V} {u : Option Value} {d : V} {d' : Value} (r : RelO o u) (rd : RelV d d') : RelV (o.getD d) (u.getD d'):=by
 cases o with
 | none=>cases u with
  | none=>exact rd
  | some _=>exact (show False from r).elim
 | some _=>cases u with
  | none=>exact (show False from r).elim
  | some _=>exact r
theorem KV.val {kvs : List (κ × V)} {vs : List (κ × Value)} (r : KV kvs vs) (k : κ) : RelO (valV kvs k) (valueAt vs k):=by
 unfold KV at r
 induction r with
 | nil=>exact True.intro
 | @cons p q ps qs h t ih =>
  obtain ⟨h1,h2⟩:=h
  by_cases e : p.1 = k
  ·have e' : q.1 = k:=h1.symm.trans e
   have b : valueAt (q :: qs) k = some q.2:=by simp [valueAt,List.find?_cons,e']
   rw [zbv e,b]; exact h2
  ·have e' : ¬ q.1 = k:=fun z=>e (h1.trans z)
   have b : valueAt (q :: qs) k = valueAt qs k:=by simp [valueAt,List.find?_cons,e']
   rw [zba e,b]; exact ih
theorem KV.any {kvs : List (κ × V)} {vs : List (κ × Value)} (r : KV kvs vs) (k : κ) : (kvs.any fun kv=>decide (kv.1 = k)) = vs.any fun kv=>decide (kv.1 = k):=by
 unfold KV at r
 induction r with
 | nil=>rfl
 | cons h t ih=>rw [List.any_cons,List.any_cons,ih,h.1]
theorem KV.repl {kvs : List (κ × V)} {vs : List (κ × Value)} (r : KV kvs vs) (k : κ) {y : V} {u : Value} (ry : RelV y u) :
  KV (kvs.map fun kv=>if kv.1 = k then (kv.1,y) else kv) (vs.map fun kv=>if kv.1 = k then (kv.1,u) else kv):=by
 unfold KV at r ⊢
 induction r with
 | nil=>exact .nil
 | @cons p q ps qs h t ih =>
  rw [List.map_cons,List.map_cons]
  refine .cons ?_ ih
  obtain ⟨h1,h2⟩:=h
  by_cases e : p.1 = k
  ·rw [if_pos e,if_pos (h1.symm.trans e)]; exact ⟨h1,ry⟩
  ·rw [if_neg e,if_neg (fun z=>e (h1.trans z))]; exact ⟨h1,h2⟩
theorem KV.put {kvs : List (κ × V)} {vs : List (κ × Value)} (r : KV kvs vs) (k : κ) {y : V} {u : Value} (ry : RelV y u) : KV (putK kvs k y) (stored vs k u):=by
 unfold putK stored
 rw [r.any k]
 by_cases e : (vs.any fun kv=>decide (kv.1 = k)) = true
 ·rw [if_pos e,if_pos e]; exact r.repl k ry
 ·rw [if_neg e,if_neg e]; exact Paired.snoc r ⟨rfl,ry⟩
theorem KV.length {kvs : List (κ × V)} {vs : List (κ × Value)} (r : KV kvs vs) : kvs.length = vs.length:=Paired.length r
end
theorem yd5 {P : Program} {w : World} {k : Key} {u : Value} (r : RelV (kV k) u) : (ybL P w).is k u = true:=by
 cases k with
 | inl i=>obtain ⟨t,e⟩:=(show ∃ t,u = Value.int i t from r); subst e; exact zeF P w i t
 | inr x=>obtain ⟨t,e⟩:=(show ∃ t,u = Value.str x t from r); subst e; exact zeG P w x t
theorem ygJ {P : Program} {w : World} {y : V} {k : Key} {u : Value} (e : kOf y = some k) (r : RelV y u) : (ybH P w).is k u = true:=by
 cases y with
 | int i=>cases e; obtain ⟨t,e⟩:=(show ∃ t,u = Value.int i t from r); subst e; exact zd0 P w i t
 | str x=>cases e; obtain ⟨t,e⟩:=(show ∃ t,u = Value.str x t from r); subst e; exact zd1 P w x t
 | bl b=>cases e; cases (show u = Value.bool b from r); exact decide_eq_true rfl
 | _=>cases e
theorem zdv {P : Program} {w : World} : ∀ {ys : List V} {ks : List Key} {us : List Value},ys.map kOf = ks.map some -> Vals ys us -> ItemsAre (ybH P w) ks us
 | [],[],_,_,r=>by cases r; exact .nil
 | [],_ :: _,_,e,_=>by simp at e
 | _ :: _,[],_,e,_=>by simp at e
 | y :: ys,k :: ks,_,e,r=>by
  rw [List.map_cons,List.map_cons] at e
  injection e with e1 e2
  cases r with
  | cons h t=>exact .cons (ygJ e1 h) (zdv e2 t)
def KTup (H : Hp) (b : Addr) (k : List Key) : Prop:=∃ ys,H b = some (.tup ys) /\ ys.map kOf = k.map some
theorem KTup.of {H : Hp} {b : Addr} {k : List Key} (e : H b = some (.tup (k.map kV))) : KTup H b k:=⟨_,e,by rw [List.map_map]; exact List.map_congr_left fun x _=>ygh x⟩
def DictE {P : Program} {w : World} {K : Type} [DecidableEq K] (h : Heap) (kn : PySem.HeapKind P w K) (d : Addr) (xs : List (K × Addr × Value)) (n : Nat) : Prop :=
 ∃ o es,h.get? d = some o /\ o.ExactDict /\ o.data = .dict es n /\ es.toList = xs.map (entryOfKey kn) /\ (∀ x ∈ xs,kn.is h x.1 x.2.1) /\ (xs.map (·.1)).Nodup
theorem DictE.of {P : Program} {w : World} {K : Type} [DecidableEq K] {h : Heap} {kn : PySem.HeapKind P w K} {d : Addr} {xs : List (K × Addr × Value)} {n : Nat} (e : DictE h kn d xs n) : h.DictOfH kn d xs:=e.imp fun _ ⟨es,r⟩=>⟨es,n,r⟩
theorem setE {P : Program} {w : World} {K : Type} [DecidableEq K] {kn : PySem.HeapKind P w K} {d b : Addr} {k : K} {xs : List (K × Addr × Value)} {A : Around} {E : Value -> Shared -> Prop} {s : Shared} {v : Value} {Q : Unit -> Shared -> Prop}
  (hu : kn.room A.in1) (hk : kn.is s.heap k b) (hm : DictE s.heap kn d xs xs.length) (hz : xs.length <= sizeLine)
  (q : ∀ g,DictE g kn d (storedH xs k b v) (storedH xs k b v).length -> Heap.SameBut d s.heap g -> Q () { s with heap:=g,toks:=s.toks + kn.draws k }) :
  wpAny (model P w) A (setItem (.ref d) (.ref b) v) Q E s:=by
 have ty:=hm.of.typeIs
 obtain ⟨o,es,e1,e2,e3,e4,e5,e6⟩:=hm
 unfold setItem
 try with_reducible refine wpAny_holding ?_
 refine wpAny_bind (wpAny_sequenceKey ty (by decide) (wpAny_bind (wpAny_callSpecial?_slot (name:=Str.ofString "__setitem__") ty slot_dict_setitem (wpAny_call_entry slot_dict_setitem ty entry_dict_setitem ?_ (args_dict_setitem _ _ _)))))
 show wpAny _ _ (Builtin.Dict.notOrdered "__setitem__" _ >>= _) _ _ s
 refine wpAny_bind (wpAny_notOrdered_dict ty (show wpAny _ _ (dictSet d (.ref b) v >>= _) _ _ s from wpAny_bind ?_))
 have fin : ∀ g,DictE g kn d (storedH xs k b v) (storedH xs k b v).length -> Heap.SameBut d s.heap g -> wpAny (model P w) A.in1 (pure Unit.unit) (fun _ s' => Q () s') (fun _ _=>False) { s with heap:=g,toks:=s.toks + kn.draws k }:=fun g a c=>wpAny_pure (q g a c)
 unfold dictSet
 try with_reducible refine wpAny_holding ?_
 refine wpAny_bind (kn.pyHash hu hk ?_)
 unfold dictSetHashed
 try with_reducible refine wpAny_holding ?_
 refine wpAny_bind (wpAny_dictFind_heap (s:={ s with toks:=s.toks + kn.draws k }) hu hk e1 e3 e4 e5 e6 (fun no=>?_) fun j p hj=>?_)
 ·have st:=storedH_new (a:=b) (v:=v) (atKey_none_of_get no)
  refine wpAny_bind (wpAny_rule (wpAny_updateDictKeys (hz:=by have z:=size_of_entries e4; omega) (s:={ s with toks:=s.toks + kn.draws k }) e1 e3 (wpAny_pure ⟨.none,rfl,wpAny_pure (q _ ?_ (Heap.SameBut.update ..))⟩)))
  have ln : (xs++[(k,b,v)]).length = xs.length + 1:=by simp
  rw [st,ln]
  refine ⟨_,_,Heap.get?_update_self _ e1 (Obj.isFreed_of_dict (Obj.data_mapDictKeys e3 _)),e2.mapDictKeys _,Obj.data_mapDictKeys e3 _,?_,fun x hx=>?_,?_⟩
  ·simp [e4,entryOfKey]
  ·rcases List.mem_append.mp hx with hx | hx
   ·exact kn.keeps (e5 x hx) e1 e3 (Heap.SameBut.update ..)
   ·have z : x = (k,b,v):=by simpa using hx
    rw [z]; exact kn.keeps hk e1 e3 (Heap.SameBut.update ..)
  ·rw [List.map_append,List.nodup_append]
   exact ⟨e6,by simp,fun x hx y hy z=>not_mem_keys_of_get no (by
    have e : y = k:=by simpa using hy
    rw [<- e,<- z]; exact hx)⟩
 ·have st:=storedH_old (a:=b) (v:=v) (atKey_of_get e6 hj)
  refine wpAny_bind (wpAny_rule (wpAny_bind (wpAny_updateDict (s:={ s with toks:=s.toks + kn.draws k }) e1 e3 (wpAny_point (wpAny_pure ⟨.none,rfl,wpAny_pure (q _ ?_ (Heap.SameBut.update ..))⟩)))))
  rw [st,List.length_map]
  refine ⟨_,_,Heap.get?_update_self _ e1 (Obj.isFreed_of_dict (Obj.data_mapDict e3 _)),e2.mapDict _,Obj.data_mapDict e3 _,?_,fun x hx=>?_,?_⟩
  ·have z:=modify_map_putAt (entryOfKey kn) (fun e : DictEntry=>{ e with val:=v }) k v (fun _ _=>rfl) e6 hj
   rw [<- e4] at z
   obtain ⟨l⟩:=es
   simpa using z
  ·obtain ⟨y,hy,rfl⟩:=List.mem_map.mp hx
   unfold putAt
   split<;>exact kn.keeps (e5 y hy) e1 e3 (Heap.SameBut.update ..)
  ·rw [keys_map_putAt]; exact e6
def adX (xc : Option (List Addr)) (old : Bool) (b : Addr) : Option (List Addr):=xc.map fun as=>if old then as else as++[b]
theorem ygK {xs : List (List Key × Addr × Value)} {k : List Key} {b : Addr} {u : Value} {xc : Option (List Addr)} (h : ∀ as,xc = some as -> xs.map (·.2.1) = as) : ∀ as,adX xc (atKey xs k).isSome b = some as -> (storedH xs k b u).map (·.2.1) = as:=by
 intro as e
 obtain ⟨bs,e1,e2⟩:=Option.map_eq_some_iff.mp e
 subst e2
 unfold storedH
 by_cases q : (atKey xs k).isSome = true
 ·rw [if_pos q,if_pos q,List.map_map,<- h bs e1]
  exact List.map_congr_left fun x _=>by show (putAt k u x).2.1 = x.2.1; unfold putAt; split<;>rfl
 ·rw [if_neg q,if_neg q,List.map_append,h bs e1]; rfl
abbrev KT (H : Hp) : List (List Key × V) -> List (List Key × Addr × Value) -> Prop:=Paired fun p q=>p.1 = q.1 /\ (∃ ys,H q.2.1 = some (.tup ys) /\ ys.map kOf = p.1.map some) /\ RelV p.2 q.2.2
theorem KT.val {H : Hp} {kvs : List (List Key × V)} {xs : List (List Key × Addr × Value)} (r : KT H kvs xs) (k : List Key) : RelO (valV kvs k) ((atKey xs k).map (·.2)):=by
 induction r with
 | nil=>exact True.intro
 | @cons p q ps qs h t ih =>
  obtain ⟨h1,_,h2⟩:=h
  by_cases e : p.1 = k
  ·have e' : q.1 = k:=h1.symm.trans e
   have b : atKey (q :: qs) k = some q.2:=by simp [atKey,List.find?_cons,e']
   rw [zbv e,b]; exact h2
  ·have e' : ¬ q.1 = k:=fun z=>e (h1.trans z)
   have b : atKey (q :: qs) k = atKey qs k:=by simp [atKey,List.find?_cons,e']
   rw [zba e,b]; exact ih
theorem KT.repl {H : Hp} {kvs : List (List Key × V)} {xs : List (List Key × Addr × Value)} (r : KT H kvs xs) (k : List Key) {y : V} {u : Value} (ry : RelV y u) :
  KT H (kvs.map fun kv=>if kv.1 = k then (kv.1,y) else kv) (xs.map (putAt k u)):=by
 induction r with
 | nil=>exact .nil
 | @cons p q ps qs h t ih =>
  rw [List.map_cons,List.map_cons]
  refine .cons ?_ ih
  obtain ⟨h1,h2,h3⟩:=h
  unfold putAt
  by_cases e : p.1 = k
  ·rw [if_pos e,if_pos (h1.symm.trans e)]; exact ⟨h1,h2,ry⟩
  ·rw [if_neg e,if_neg (fun z=>e (h1.trans z))]; exact ⟨h1,h2,h3⟩
theorem KT.put {H : Hp} {kvs : List (List Key × V)} {xs : List (List Key × Addr × Value)} (r : KT H kvs xs) (k : List Key) {b : Addr} {y : V} {u : Value} (hb : KTup H b k) (ry : RelV y u) :
  KT H (putK kvs k y) (storedH xs k b u):=by
 have e : (kvs.any fun kv=>decide (kv.1 = k)) = (atKey xs k).isSome:=by
  rw [zbw,(r.val k).isSome_eq,Option.isSome_map]
 unfold putK storedH
 rw [e]
 by_cases q : (atKey xs k).isSome = true
 ·rw [if_pos q,if_pos q]; exact r.repl k ry
 ·rw [if_neg q,if_neg q]; exact Paired.snoc r ⟨rfl,hb,ry⟩
theorem KT.keeps {H H' : Hp} {kvs : List (List Key × V)} {xs : List (List Key × Addr × Value)} (r : KT H kvs xs) (ht : ∀ b ys,H b = some (.tup ys) -> H' b = some (.tup ys)) : KT H' kvs xs :=
 Paired.mapP r fun _ _ z=>⟨z.1,z.2.1.imp fun _ e=>⟨ht _ _ e.1,e.2⟩,z.2.2⟩
section
variable {P : Program} {w : World} {H : Hp} {h : Heap} {a : Addr}
theorem yfS {u : HO} (ok : HOk P w H h) (e : Rd H a u) : ObjOk P w H h a u:=e.ok ok
theorem ydw {kvs : List (Key × V)} (ok : HOk P w H h) (e : Rd H a (.dK kvs)) : kvs.length <= sizeLine /\ (a == sysModules) = false /\ ∃ vs,KV kvs vs /\ h.DictOf (ybL P w) a vs :=
 show ObjOk P w H h a (.dK kvs) from yfS ok e
theorem yfT {kvs : List (Key × V)} (ok : HOk P w H h) (e : H a = some (.dK kvs)) : kvs.length <= sizeLine /\ (a == sysModules) = false /\ ∃ vs,KV kvs vs /\ h.DictOf (ybL P w) a vs:=ydw ok (.inl e)
theorem ydM {ks : List Key} (ok : HOk P w H h) (e : KTup H a ks) : (tupleKind (ybH P w)).is h ks a:=by
 obtain ⟨ys,e,ek⟩:=e
 obtain ⟨_,its,r,o,h1,h2,n,h3⟩:=(show ObjOk P w H h a (.tup ys) from ok a _ e)
 exact ⟨o,its.toArray,n,h1,h2,h3,by simpa using zdv ek r⟩
theorem ydW {xc : Option (List Addr)} {kvs : List (List Key × V)} (ok : HOk P w H h) (e : Rd H a (.dT xc kvs)) : kvs.length <= sizeLine /\ (a == sysModules) = false /\
  ∃ xs,KT H kvs xs /\ (∀ as,xc = some as -> xs.map (·.2.1) = as) /\ DictE h (tupleKind (ybH P w)) a xs xs.length:=by
 obtain ⟨z,y,xs,r,o,es,ep,h1,h2,h3,h4,h5⟩:=(show ObjOk P w H h a (.dT xc kvs) from yfS ok e)
 obtain ⟨h5,h6,h7⟩:=h5
 subst h6
 refine ⟨z,y,xs,r,h7,o,es,h1,h2,h3,h4,fun x hx=>?_,h5⟩
 have all : ∀ {l : List (List Key × V)} {m : List (List Key × Addr × Value)},KT H l m -> ∀ x ∈ m,(tupleKind (ybH P w)).is h x.1 x.2.1:=by
  intro l m q
  induction q with
  | nil=>intro x hx; exact nomatch hx
  | @cons p q ps qs hq t ih =>
   intro x hx
   rcases List.mem_cons.mp hx with e | hx
   ·subst e
    exact ydM ok (by rw [<- hq.1]; exact hq.2.1)
   ·exact ih x hx
 exact all r x hx
theorem yhT {xc : Option (List Addr)} {kvs : List (List Key × V)} (ok : HOk P w H h) (e : H a = some (.dT xc kvs)) : kvs.length <= sizeLine /\ (a == sysModules) = false /\
  ∃ xs,KT H kvs xs /\ (∀ as,xc = some as -> xs.map (·.2.1) = as) /\ DictE h (tupleKind (ybH P w)) a xs xs.length:=ydW ok (.inl e)
end
def DGet (H : Hp) (a : Addr) (y : V) (r : Option V) : Prop :=
 (∃ kvs k,Rd H a (.dK kvs) /\ y = kV k /\ r = valV kvs k) \/ ∃ xc kvs k b,Rd H a (.dT xc kvs) /\ y = .ref b /\ KTup H b k /\ r = valV kvs k
def DPut (H : Hp) (a : Addr) (y v : V) (H' : Hp) : Prop :=
 (∃ kvs k,H a = some (.dK kvs) /\ y = kV k /\ kvs.length < sizeLine /\ H' = upd H a (.dK (putK kvs k v))) \/
 ∃ xc kvs k b,H a = some (.dT xc kvs) /\ y = .ref b /\ KTup H b k /\ kvs.length < sizeLine /\ H' = upd H a (.dT (adX xc (kvs.any fun kv=>decide (kv.1 = k)) b) (putK kvs k v))
theorem DGet.k {H : Hp} {a : Addr} {kvs : List (Key × V)} {k : Key} (e : H a = some (.dK kvs)) : DGet H a (kV k) (valV kvs k):=.inl ⟨kvs,k,.inl e,rfl,rfl⟩
theorem DGet.t {H : Hp} {a b : Addr} {kvs : List (List Key × V)} {k : List Key} {xc : Option (List Addr)} (e : H a = some (.dT xc kvs)) (eb : KTup H b k) : DGet H a (.ref b) (valV kvs k):=.inr ⟨xc,kvs,k,b,.inl e,rfl,eb,rfl⟩
theorem DPut.k {H : Hp} {a : Addr} {kvs : List (Key × V)} {k : Key} {v : V} (e : H a = some (.dK kvs)) (hl : kvs.length < sizeLine) : DPut H a (kV k) v (upd H a (.dK (putK kvs k v))):=.inl ⟨kvs,k,e,rfl,hl,rfl⟩
theorem DPut.t {H : Hp} {a b : Addr} {kvs : List (List Key × V)} {k : List Key} {v : V} (e : H a = some (.dT none kvs)) (eb : KTup H b k) (hl : kvs.length < sizeLine) :
  DPut H a (.ref b) v (upd H a (.dT none (putK kvs k v))):=.inr ⟨none,kvs,k,b,e,rfl,eb,hl,rfl⟩
section
variable {X : Cx} {pins : List (Addr × Obj)} {σ : St} {H : Hp} {s : Shared} {a : Addr} {y v : V} {u r : Value} {o : Option V} {A : Around} {E : Value -> Shared -> Prop}
theorem Inv.big (I : Inv X pins σ H s) : sysModules < s.heap.objs.size:=by
 have h : mainGlobals < s.heap.objs.size:=(I.mod.glob.keeps I.bk).lt
 exact Nat.lt_trans (by decide) h
theorem zgi {Q : Value -> Shared -> Prop} (hu : A.units + 1 < cLine) (I : Inv X pins σ H s) (g : DGet H a y (some v)) (ry : RelV y u) (h : ∀ w' s',Inv X pins σ H s' -> RelV v w' -> Q w' s') :
  wpAny (model X.prog X.w) A (getItem (.ref a) u) Q E s:=by
 rcases g with ⟨kvs,k,e,ey,l⟩ | ⟨xc,kvs,k,b,e,ey,eb,l⟩
 ·subst ey
  obtain ⟨z,hd,vs,rel,dd⟩:=ydw I.hok e
  obtain ⟨w',hw,rw'⟩:=RelO.some_of (v:=v) (o:=valueAt vs k) (by rw [l]; exact rel.val k)
  exact wpAny_getItem_of (yd5 ry) dd.mapOf hw (h w' _ (I.tok _) rw')
 ·subst ey
  cases (show u = Value.ref b from ry)
  obtain ⟨z,hd,xs,rel,_,dd⟩:=ydW I.hok e
  replace dd:=dd.of
  obtain ⟨w',hw,rw'⟩:=RelO.some_of (v:=v) (o:=(atKey xs k).map (·.2)) (by rw [l]; exact rel.val k)
  obtain ⟨p,hp,hp2⟩:=Option.map_eq_some_iff.mp hw
  refine wpAny_getItem_heap (tupleKind_room_in1 hu) (ydM I.hok eb) dd hp ?_
  rw [hp2]
  exact h w' _ (I.tok _) rw'
theorem zie {Q : Value -> Shared -> Prop} (hu : A.units + 1 < cLine) (I : Inv X pins σ H s) (g : DGet H a y o) (ry : RelV y u) (h : ∀ s',Inv X pins σ H s' -> Q (.bool (!o.isSome)) s') :
  wpAny (model X.prog X.w) A (compareOp .NotIn u (.ref a)) Q E s:=by
 rcases g with ⟨kvs,k,e,ey,l⟩ | ⟨xc,kvs,k,b,e,ey,eb,l⟩
 ·subst ey
  obtain ⟨z,hd,vs,rel,dd⟩:=ydw I.hok e
  refine wpAny_notIn_of (yd5 ry) hd dd.mapOf ?_
  rw [<- (rel.val k).isSome_eq,<- l]
  exact h _ (I.tok _)
 ·subst ey
  cases (show u = Value.ref b from ry)
  obtain ⟨z,hd,xs,rel,_,dd⟩:=ydW I.hok e
  replace dd:=dd.of
  refine wpAny_notIn_heap (tupleKind_room_in1 hu) (ydM I.hok eb) hd dd ?_
  have q:=(rel.val k).isSome_eq
  rw [Option.isSome_map] at q
  rw [<- q,<- l]
  exact h _ (I.tok _)
theorem zcZ {h' : Heap} {t' : Nat} {ob : HO} (I : Inv X pins σ H s) (mu : Mut (H a)) (hs : Heap.SameBut a s.heap h') (he : ∃ q,h'.get? a = some q) (new : ObjOk X.prog X.w (upd H a ob) h' a ob) :
  Inv X pins σ (upd H a ob) { s with heap:=h',toks:=t' } :=
 I.write (x:=a) (e:=a) mu (.inl rfl) (fun b q hb z=>(hs.2 b hb).trans z) he new
theorem yfe {P : Program} {w : World} {H' : Hp} {h' : Heap} {kvs : List (Key × V)} {vs : List (Key × Value)} (z : kvs.length <= sizeLine) (hd : (a == sysModules) = false) (rel : KV kvs vs) (dd : h'.DictOf (ybL P w) a vs) :
  ObjOk P w H' h' a (.dK kvs):=⟨z,hd,vs,rel,dd⟩
theorem zgj {H' : Hp} {Q : Unit -> Shared -> Prop} (hu : A.units + 1 < cLine) (I : Inv X pins σ H s) (g : DPut H a y v H') (ry : RelV y u) (rv : RelV v r) (h : ∀ s',Inv X pins σ H' s' -> Q () s') :
  wpAny (model X.prog X.w) A (setItem (.ref a) u r) Q E s:=by
 rcases g with ⟨kvs,k,e,ey,l,eH⟩ | ⟨xc,kvs,k,b,e,ey,eb,l,eH⟩
 ·subst ey eH
  obtain ⟨z,hd,vs,rel,dd⟩:=yfT I.hok e
  have hz : vs.length <= sizeLine:=by rw [<- rel.length]; exact z
  have hl : (putK kvs k v).length <= sizeLine:=by have:=zbm kvs k v; omega
  refine wpAny_setItem_pairs (hsz:=hz) (yd5 ry) dd fun h' dd' hs=>h _ ?_
  have he : ∃ q,h'.get? a = some q:=let ⟨q,_,_,hq,_⟩:=dd'; ⟨q,hq⟩
  exact zcZ I (by rw [e]; exact True.intro) hs he (yfe hl hd (rel.put k rv) dd')
 ·subst ey eH
  cases (show u = Value.ref b from ry)
  obtain ⟨z,hd,xs,rel,ha,dd⟩:=yhT I.hok e
  have hz : xs.length <= sizeLine:=by rw [<- Paired.length rel]; exact z
  have hl : (putK kvs k v).length <= sizeLine:=by have:=zbm kvs k v; omega
  have eo : (kvs.any fun kv=>decide (kv.1 = k)) = (atKey xs k).isSome:=by rw [zbw,(rel.val k).isSome_eq,Option.isSome_map]
  refine setE (tupleKind_room_in1 hu) (ydM I.hok eb) dd hz fun h' dd' hs=>h _ ?_
  obtain ⟨q,es,hq,h2,h3,h4,_,h5⟩:=dd'
  refine zcZ I (by rw [e]; exact True.intro) hs ⟨q,hq⟩ ⟨hl,hd,_,(rel.put k eb rv).keeps fun c ys ec=>?_,q,es,_,hq,h2,h3,h4,h5,rfl,by rw [eo]; exact ygK ha⟩
  rw [yal (yhx ec e (fun z=>nomatch z))]
  exact ec
end
section
variable {X : Cx} {pins : List (Addr × Obj)} {σ : St} {H : Hp} {s : Shared} {a : Addr} {kvs : List (Key × V)} {k : Key} {u : Value} {A : Around} {E : Value -> Shared -> Prop}
theorem yhU {Q : Value -> Shared -> Prop} (I : Inv X pins σ H s) (e : Rd H a (.dK kvs)) (h : ∀ t s',Inv X pins σ H s' -> Q (.int kvs.length t) s') : wpAny (model X.prog X.w) A (call (.builtin "len") [.ref a]) Q E s:=by
 obtain ⟨z,hd,vs,rel,dd⟩:=ydw I.hok e
 refine call_len_dict hd dd (by rw [<- rel.length]; rw [sizeLine_eq] at z; omega) ?_
 rw [<- rel.length]
 exact h _ _ (I.tok _)
end
def NoSl (i : Expr) : Prop:=∀ ov iv,subscripted i false ov iv = operate [ov,iv] (getItem ov iv)
theorem zif {prog : Program} {w : World} {A : Around} {E : Value -> Shared -> Prop} {s : Shared} {env : Env} {value slice : Expr} {pos : Pos} {T id : String} {Q : Value -> Shared -> Prop}
  (hl : typeLookup (.type T) "__getitem__" = pure (some (.builtin id))) (hs : NoSl slice)
  (h : wpAny (model prog w) A (eval value env) (fun o s₁=>wpAny (model prog w) A (eval slice env) (fun i s₂=>s₂.TypeIs o T /\ wpAny (model prog w) A (getItem o i) Q E s₂) E s₁) E s) :
  wpAny (model prog w) A (eval (.Subscript value slice pos) env) Q E s:=by
 refine Subscript_ (wpAny_mono h (fun o s₁ h₁=>wpAny_mono h₁ (fun i s₂ h₂=>?_) fun _ _ x=>x) fun _ _ x=>x)
 obtain ⟨hT,h₂⟩:=h₂
 unfold subscriptTail
 refine wpAny_bind ?_
 rw [getitemInPython_of_ne hT.not_modules]
 refine wpAny_bind (wpAny_specialOf hT hl ?_)
 have fin : wpAny (model prog w) A (subscripted slice false o i) (fun r s₃=>wpAny (model prog w) A (letTemporaryGo value o r >>= fun _=>pure r) Q E s₃) E s₂:=by
  rw [hs o i]
  exact wpAny_operating (wpAny_mono h₂ (fun r s₃ h₃=>wpAny_bind (wpAny_letTemporaryGo (wpAny_pure h₃))) fun _ _ x=>x)
 first
  | exact wpAny_pure (wpAny_bind fin)
  | exact wpAny_bind (wpAny_pure (wpAny_bind fin))
  | exact wpAny_bind fin
theorem zeH {X : Cx} {pins : List (Addr × Obj)} {σ : St} {H : Hp} {s : Shared} {a : Addr} {y : V} {o : Option V} (I : Inv X pins σ H s) (g : DGet H a y o) : s.TypeIs (.ref a) "dict" := by
 rcases g with ⟨kvs,k,e,_,_⟩ | ⟨xc,kvs,k,b,e,_,_,_⟩
 ·obtain ⟨_,_,vs,_,dd⟩:=ydw I.hok e
  exact dd.typeIs
 ·obtain ⟨_,_,xs,_,_,dd⟩:=ydW I.hok e
  replace dd:=dd.of
  exact dd.typeIs
def yhV (td ty : TE) : TE:=fun σ H Q=>td σ H fun x H1=>ty σ H1 fun y H2=>∃ a v,x = .ref a /\ DGet H2 a y (some v) /\ Q v H2
def yhW (td ty tv : TE) : TS:=fun D σ H=>tv σ H fun v H1=>td σ H1 fun x H2=>ty σ H2 fun y H3=>∃ a H4,x = .ref a /\ DPut H3 a y v H4 /\ D.nx σ H4
section
variable {X : Cx} {o i e value : Expr} {pos pos' tpos : Pos} {td ty tv : TE}
theorem zig (hu : X.A.units + 1 < cLine) (ho : PE X o td) (hi : PE X i ty) (hs : NoSl i) : PE X (.Subscript o i pos) (yhV td ty):=by
 intro pins s σ H Q I h
 refine zif PySem.F.slot_dict_getitem.lookup hs (thn (ho pins s σ H _ I h) fun u s1 ⟨x,H1,I1,rx,q1⟩=>thn (hi pins s1 σ H1 _ I1 q1) fun iv s2 ⟨y,H2,I2,ry,a,v,ex,g,q2⟩=>?_)
 subst ex
 obtain rfl : u = Value.ref a:=rx
 exact ⟨zeH I2 g,zgi hu I2 g ry fun w' s3 I3 rw' => ⟨v,H2,I3,rw',q2⟩⟩
theorem zih (hu : X.A.units + 1 < cLine) (ho : PE X o td) (hi : PE X i ty) (hv : PE X value tv) (hs : swapsWith value (some (.Subscript o i pos')) pos.line X.env = pure false) :
  PS X (.Assign [.Subscript o i pos'] value pos) (yhW td ty tv):=by
 intro pins s σ H D I h
 refine wpAny_Assign_Subscript (thn (hv pins s σ H _ I h) fun r s1 ⟨v,H1,I1,rv,q1⟩=>thn (ho pins s1 σ H1 _ I1 q1) fun u s2 ⟨x,H2,I2,rx,q2⟩=>thn (hi pins s2 σ H2 _ I2 q2) fun iv s3 ⟨y,H3,I3,ry,a,H4,ex,g,q3⟩=>?_) hs
 subst ex
 obtain rfl : u = Value.ref a:=rx
 exact zgj hu I3 g ry rv fun s4 I4=>⟨σ,H4,I4,q3⟩
end
theorem zd8 {P : Program} {w : World} {H : Hp} (h : Heap) (hb : sysModules < h.objs.size) : ObjOk P w H (h.push { cls:=.type "dict",data:=.dict #[] }) h.objs.size (.dK []) :=
 ⟨Nat.zero_le _,beq_eq_false_iff_ne.mpr (Ne.symm (Nat.ne_of_lt hb)),[],.nil,Heap.DictOf.new h⟩
theorem zhg {P : Program} {w : World} {H : Hp} {xc : Option (List Addr)} (hx : xc = none \/ xc = some []) (h : Heap) (hb : sysModules < h.objs.size) : ObjOk P w H (h.push { cls:=.type "dict",data:=.dict #[] }) h.objs.size (.dT xc []) :=
 ⟨Nat.zero_le _,beq_eq_false_iff_ne.mpr (Ne.symm (Nat.ne_of_lt hb)),[],.nil,_,#[],0,Heap.get?_push_size _ rfl,⟨rfl,rfl,rfl⟩,rfl,rfl,List.nodup_nil,rfl,fun as e=>by
  rcases hx with rfl | rfl
  ·cases e
  ·injection e⟩
def ygL : TE:=fun _ H Q=>∀ p,H p = none -> Q (.ref p) (upd H p (.dK []))
def ygM : TE:=fun _ H Q=>∀ p,H p = none -> Q (.ref p) (upd H p (.dT none []))
section
variable {X : Cx} {pos : Pos}
theorem zhh : PE X (.Dict [] [] pos) ygL:=fun pins s σ H Q I h =>
 wpAny_Dict_empty ⟨.ref s.heap.objs.size,_,I.laid (a:=s.heap.objs.size) (o:=.dK []) (t' := s.toks) (fun _ _ q=>Heap.get?_push_of_some _ q) (Nat.le_refl _) (zd8 s.heap I.big),rfl,h _ (I.hok.fresh (Nat.le_refl _))⟩
theorem zhi : PE X (.Dict [] [] pos) ygM:=fun pins s σ H Q I h =>
 wpAny_Dict_empty ⟨.ref s.heap.objs.size,_,I.laid (a:=s.heap.objs.size) (o:=.dT none []) (t' := s.toks) (fun _ _ q=>Heap.get?_push_of_some _ q) (Nat.le_refl _) (zhg (.inl rfl) s.heap I.big),rfl,h _ (I.hok.fresh (Nat.le_refl _))⟩
end
def yeC : List (TE × TE) -> St -> Hp -> (List (V × V) -> Hp -> Prop) -> Prop
 | [],_,H,Q=>Q [] H
 | (tk,tv) :: r,σ,H,Q=>tk σ H fun x H1=>tv σ H1 fun y H2=>yeC r σ H2 fun ps H3=>Q ((x,y) :: ps) H3
abbrev VV : List (V × V) -> List (Value × Value) -> Prop:=Paired fun p q=>RelV p.1 q.1 /\ RelV p.2 q.2
def PPs (X : Cx) (pos : Pos) (keys : List (Option Expr)) (values : List Expr) (trs : List (TE × TE)) : Prop :=
 ∀ (pins : List (Addr × Obj)) (s : Shared) (σ : St) (H : Hp) (Q : List (V × V) -> Hp -> Prop),Inv X pins σ H s -> yeC trs σ H Q ->
  wpAny (model X.prog X.w) X.A (evalPairs (pairTrees keys values X.env pos)) (fun vs s' => ∃ ps H',Inv X pins σ H' s' /\ VV ps vs /\ Q ps H') X.xe s
theorem zii {X : Cx} {pos : Pos} : PPs X pos [] [] []:=fun pins s σ H Q I h=>pairTrees_nil_walk ⟨[],H,I,.nil,h⟩
theorem zd9 {X : Cx} {pos : Pos} {k v : Expr} {ks : List (Option Expr)} {vs : List Expr} {tk tv : TE} {trs : List (TE × TE)} (hk : PE X k tk) (hv : PE X v tv) (hr : PPs X pos ks vs trs) :
  PPs X pos (some k :: ks) (v :: vs) ((tk,tv) :: trs):=fun pins s σ H Q I h =>
 pairTrees_cons_walk (thn (hk pins s σ H _ I h) fun u s1 ⟨x,H1,I1,rx,q1⟩=>thn (hv pins s1 σ H1 _ I1 q1) fun w2 s2 ⟨y,H2,I2,ry,q2⟩ =>
  thn (hr pins s2 σ H2 _ I2 q2) fun ws s3 ⟨ps,H3,I3,rel,q3⟩=>⟨(x,y) :: ps,H3,I3,.cons ⟨rx,ry⟩ rel,q3⟩)
def yc3 (kvs more : List (Key × V)) : List (Key × V):=more.foldl (fun acc kv=>putK acc kv.1 kv.2) kvs
theorem KV.merge : ∀ {more : List (Key × V)} {rs : List (Key × Value)} {kvs : List (Key × V)} {vs : List (Key × Value)},KV more rs -> KV kvs vs -> KV (yc3 kvs more) (merged vs rs):=by
 intro more rs kvs vs r
 unfold KV at r
 induction r generalizing kvs vs with
 | nil=>intro q; exact q
 | @cons p q ps qs h t ih =>
  intro r0
  have e : KV (putK kvs p.1 p.2) (stored vs q.1 q.2):=by
   have:=r0.put p.1 h.2
   rw [<- h.1]; exact this
  exact ih e
theorem zbG : ∀ (more kvs : List (Key × V)),(yc3 kvs more).length <= kvs.length + more.length
 | [],kvs=>by show kvs.length <= kvs.length + 0; omega
 | p :: r,kvs=>by
  have h1:=zbG r (putK kvs p.1 p.2)
  have h2:=zbm kvs p.1 p.2
  show (yc3 (putK kvs p.1 p.2) r).length <= _
  rw [List.length_cons]; omega
theorem zcM {P : Program} {w : World} : ∀ {kvs : List (Key × V)} {ws : List (Value × Value)},VV (kvs.map fun kv=>(kV kv.1,kv.2)) ws -> ∃ rs,Carries (ybL P w) ws rs /\ KV kvs rs
 | [],_,r=>by rw [List.map_nil] at r; cases r; exact ⟨[],True.intro,.nil⟩
 | p :: kvs,_,r=>by
  rw [List.map_cons] at r
  cases r with
  | @cons a b as bs h t =>
   obtain ⟨rs,c,q⟩:=zcM (P:=P) (w:=w) t
   obtain ⟨b1,b2⟩:=b
   exact ⟨(p.1,b2) :: rs,⟨yd5 h.1,rfl,c⟩,.cons ⟨rfl,h.2⟩ q⟩
def yhX (trs : List (TE × TE)) : TE:=fun σ H Q=>∀ p,H p = none -> yeC trs σ (upd H p (.dK [])) fun ps H2=>H2 p = some (.dK []) /\ ∃ kvs : List (Key × V),ps = kvs.map (fun kv=>(kV kv.1,kv.2)) /\ kvs.length <= 15 /\ Q (.ref p) (upd H2 p (.dK (yc3 [] kvs)))
theorem zij {X : Cx} {pos : Pos} {keys : List (Option Expr)} {values : List Expr} {trs : List (TE × TE)} (h : PPs X pos keys values trs) (hall : keys.all (·.isSome) = true) (hl : keys.length = values.length) (h0 : keys ≠ [])
  (h15 : keys.length <= 15) : PE X (.Dict keys values pos) (yhX trs):=by
 intro pins s σ H Q I q
 have hn:=I.hok.fresh (Nat.le_refl s.heap.objs.size)
 have I1:=I.laid (a:=s.heap.objs.size) (o:=.dK []) (h' := s.heap.push { cls:=.type "dict",data:=.dict #[] }) (t' := s.toks) (fun _ _ q=>Heap.get?_push_of_some _ q) (Nat.le_refl _) (zd8 s.heap I.big)
 refine wpAny_Dict_walk (knd:=ybL X.prog X.w) hall hl h0 h15 (thn (h pins _ σ _ _ I1 (q _ hn)) fun ws s2 ⟨ps,H2,I2,rel,e,kvs,ep,lk,q2⟩=>?_)
 subst ep
 obtain ⟨rs,c,rk⟩:=zcM (P:=X.prog) (w:=X.w) rel
 obtain ⟨z,hd,vs0,r0,dd⟩:=yfT I2.hok e
 cases r0
 refine ⟨rs,c,dd,fun h' dd' hs=>⟨.ref s.heap.objs.size,_,?_,rfl,q2⟩⟩
 have hz : (yc3 [] kvs).length <= sizeLine:=by
  have h1:=zbG kvs []
  rw [List.length_nil] at h1
  rw [sizeLine_eq]; omega
 have he : ∃ q,h'.get? s.heap.objs.size = some q:=let ⟨q,_,_,hq,_⟩:=dd'; ⟨q,hq⟩
 exact zcZ I2 (by rw [e]; exact True.intro) hs he (yfe hz hd (rk.merge .nil) dd')
structure M2 (X : Cx) (o : Expr) (m : Str) (apos : Pos) (e f : Expr) (cpos : Pos) : Prop where
 base : attributeBase o m X.env (eval o X.env) = eval o X.env
 few : ((backTo cpos (starEach [e,f] X.env)).all (fun x=>!x.1) && (backToKw cpos (keywordEach [] X.env)).all (fun x=>x.1.isSome)
  && decide (([e,f] : List Expr).length + ([] : List Keyword).length + (if ([] : List Keyword).isEmpty then 0 else 1) < 30)) = true
 line : (apos.endLine == cpos.line) = true
 trees : backTo cpos (starEach [e,f] X.env) = [(false,eval e X.env),(false,eval f X.env)]
def IsD (H : Hp) (a : Addr) : Prop:=(∃ kvs,Rd H a (.dK kvs)) \/ ∃ xc kvs,Rd H a (.dT xc kvs)
theorem ygN {X : Cx} {pins : List (Addr × Obj)} {σ : St} {H : Hp} {s : Shared} {a : Addr} (I : Inv X pins σ H s) (d : IsD H a) :
  s.TypeIs (.ref a) "dict" /\ (∀ b,Value.ref a = .ref b -> ∃ ob,s.heap.get? b = some ob /\ ob.dict = none) /\ (a == sysModules) = false:=by
 rcases d with ⟨kvs,e⟩ | ⟨xc,kvs,e⟩
 ·obtain ⟨_,hd,vs,_,dd⟩:=ydw I.hok e
  refine ⟨dd.typeIs,fun b q=>?_,hd⟩
  cases q
  obtain ⟨ob,_,_,h1,h2,_⟩:=dd
  exact ⟨ob,h1,h2.2.1⟩
 ·obtain ⟨_,hd,xs,_,_,dd⟩:=ydW I.hok e
  replace dd:=dd.of
  refine ⟨dd.typeIs,fun b q=>?_,hd⟩
  cases q
  obtain ⟨ob,_,_,h1,h2,_⟩:=dd
  exact ⟨ob,h1,h2.2.1⟩
section
variable {X : Cx} {pins : List (Addr × Obj)} {σ : St} {H : Hp} {s : Shared} {a : Addr} {y d : V} {u r : Value} {o : Option V} {A : Around} {E : Value -> Shared -> Prop}
theorem ygO {Q : Value -> Shared -> Prop} (hu : A.units + 1 < cLine) (I : Inv X pins σ H s) (g : DGet H a y o) (ry : RelV y u) (rd : RelV d r) (h : ∀ w' s',Inv X pins σ H s' -> RelV (o.getD d) w' -> Q w' s') :
  wpAny (model X.prog X.w) A (call (.builtin "dict.get") [.ref a,u,r]) Q E s:=by
 rcases g with ⟨kvs,k,e,ey,l⟩ | ⟨xc,kvs,k,b,e,ey,eb,l⟩
 ·subst ey
  obtain ⟨z,hd,vs,rel,dd⟩:=ydw I.hok e
  refine call_meetsIn PySem.F.slot_dict_get dd.typeIs PySem.F.entry_dict_get (PySem.F.args_dict_get_3 _ _ _) (meets_dict_get_default (ybL X.prog X.w) a (yd5 ry) hd r) ⟨_,dd.mapOf,h _ _ (I.tok _) ?_⟩
  rw [l]
  exact (rel.val k).getD rd
 ·subst ey
  cases (show u = Value.ref b from ry)
  obtain ⟨z,hd,xs,rel,_,dd⟩:=ydW I.hok e
  replace dd:=dd.of
  refine call_meetsIn PySem.F.slot_dict_get dd.typeIs PySem.F.entry_dict_get (PySem.F.args_dict_get_3 _ _ _) (meetsH_dict_get_default (tupleKind (ybH X.prog X.w)) a b hd r) ⟨tupleKind_room_in1 hu,k,xs,ydM I.hok eb,dd,h _ _ (I.tok _) ?_⟩
  rw [l]
  exact (rel.val k).getD rd
end
def ygP (td ty tx : TE) : TE:=fun σ H Q=>td σ H fun x H1=>∃ a,x = .ref a /\ IsD H1 a /\ ty σ H1 fun y H2=>tx σ H2 fun z H3=>∃ o,DGet H3 a y o /\ Q (o.getD z) H3
section
variable {X : Cx} {o e f : Expr} {apos cpos : Pos} {td ty tx : TE}
theorem zhj (hu : X.A.units + 1 < cLine) (ho : PE X o td) (he : PE X e ty) (hf : PE X f tx) (m : M2 X o "get" apos e f cpos) : PE X (.Call (.Attribute o "get" apos) [e,f] [] cpos) (ygP td ty tx):=by
 intro pins s σ H Q I h
 refine wpAny_Call_method m.base m.few m.line PySem.F.plainAttrs_dict PySem.F.slot_dict_get PySem.F.type_dict_get (thn (ho pins s σ H _ I h) fun u s1 ⟨x,H1,I1,rx,a,ex,d,q1⟩=>?_)
 subst ex
 obtain rfl : u = Value.ref a:=rx
 obtain ⟨t1,t2,_⟩:=ygN I1 d
 refine ⟨t1,t2,?_⟩
 rw [m.trees]
 refine Calls.callWith_builtin rfl (Calls.evalArgs_plain (Calls.spliced_cons (thn (he pins s1 σ H1 _ I1 q1) fun iv s2 ⟨y,H2,I2,ry,q2⟩ =>
  Calls.spliced_cons (thn (hf pins s2 σ H2 _ I2 q2) fun fv s3 ⟨z,H3,I3,rz,ov,g,q3⟩=>Calls.spliced_nil ?_))))
 exact ygO hu I3 g ry rz fun w' s4 I4 rw' => ⟨_,H3,I4,rw',q3⟩
end
section
variable {X : Cx} {pins : List (Addr × Obj)} {σ : St} {H : Hp} {s : Shared} {a : Addr} {kvs : List (Key × V)} {A : Around} {E : Value -> Shared -> Prop}
end
section
variable {X : Cx} {pins : List (Addr × Obj)} {σ : St} {H : Hp} {s : Shared} {a : Addr} {y : V} {u : Value} {A : Around} {E : Value -> Shared -> Prop}
end
end L2
namespace Att
open PySem PySem.W PySem.Calls PyProof.Rows
theorem zcN {P : Params} {h : Heap} : ∀ (ns : List Int) (vs : List Value),WellAll P h vs (ns.map WData.int) -> IntsAre vs ns:=by
 intro ns
 induction ns with
 | nil =>
  intro vs w
  rw [List.map_nil] at w
  cases w
  exact .nil
 | cons n ns ih =>
  intro vs w
  rw [List.map_cons] at w
  cases w with
  | cons a b =>
   cases a
   exact .cons _ _ (ih _ b)
theorem zgk {l : OpenLaw} {n : Nat} (hn : l.most = some n) {P : Params} {h : Heap} {args : List WData} {vals : List Value}
  (hpre : l.row.toRowW.claim.pre args = true) (hwl : WellAll P h vals args) :
  ∃ a vs ns,vals = [Value.ref a] /\ args = [WData.list (ns.map WData.int)] /\ h.get? a = some { cls:=.type "list",data:=.seq vs.toArray } /\ IntsAre vs ns /\ ns.length <= n:=by
 have hsh : WShape.hasAll [] args [.list .int] = true:=(pre_splitW hpre).1
 have hc : l.pre.holds [] { args:=args } = true:=(pre_splitW hpre).2
 obtain ⟨d,r,rfl,h1,h2⟩:=hasAllW_cons hsh
 obtain rfl:=hasAllW_nil h2
 obtain ⟨xs,rfl,h3⟩:=hasW_list h1
 obtain ⟨ns,rfl⟩:=items_int h3
 have hlen : ns.length <= n:=by
  unfold OpenLaw.pre at hc
  have h4 : (WTm.not (.lt (.lit (.int (n : Int))) (.len (.arg 0)))).holds [] { args:=[.list (ns.map .int)] } = true:=by
   have h4:=(holds_andW hc).1
   rw [hn] at h4
   exact h4
  have h5:=condW_of h4 (w_not (w_lt w_lit (w_len_list (w_arg rfl))))
  rw [List.length_map] at h5
  refine Nat.le_of_not_lt fun q=>?_
  have q' : (n : Int) < ((ns.length : Nat) : Int):=by omega
  first
   | (rw [decide_eq_true q'] at h5; exact absurd h5 (by decide))
   | (simp at h5; omega)
 cases hwl with
 | cons w1 w2 =>
  cases w2
  cases w1 with
  | list ho hall=>exact ⟨_,_,ns,rfl,rfl,ho,zcN ns _ hall,hlen⟩
theorem zgl (l : OpenLaw) (args : List WData) : l.row.toRowW.claim.post args (.bool true) args = true :=
 postW_of (r:=l.row.toRowW) (X:=(true == true))
  (show WShape.has [] (.bool true) .bool = true by first | rfl | decide | simp [WShape.has,WShape.arms,WShape.armsAll])
  (show (WTm.eq .res (.lit (.bool true))).value [] { args:=args,res:=some (.bool true),after:=args } = some (.bool (true == true)) from w_eq_bool (w_res rfl) w_lit) rfl
theorem attach_call {l : OpenLaw} {n : Nat} {q : Program} {loose : List Str} {XP : (Str -> Option Value) -> Heap -> Prop} {YP : World -> Heap -> Prop} {d : DefRec}
  (hn : l.most = some n) (hdf : d.params.defaults = [])
  (call : ∀ (w : World) (s₀ s₁ : Shared) (mg mb : Str -> Option Value) (fa : Addr) (o : Obj) (pm cd doc : Value) (a : Addr) (vs : List Value) (ns : List Int),
   Ground q loose [] XP w s₀ mg mb s₁.heap -> YP w s₁.heap ->
   s₁.heap.get? fa = some o -> o.data = .func (docDef d.name d.params d.body d.scope pm cd doc) -> s₁.heap.CodeRec cd d.name -> mg d.name = some (.ref fa) ->
   s₁.heap.get? a = some { cls:=.type "list",data:=.seq vs.toArray } -> IntsAre vs ns -> ns.length <= n -> s₁.gens = #[] ->
   codeAny (model l.prog w) callerA (.call (.ref fa) ⟨[.ref a],[]⟩) (fun r s' => r = .ok (.ret (.bool true)) /\ OldK s₁.heap s'.heap /\ s'.os = s₁.os /\ AllBare s'.gens) s₁) :
  WalkO q loose XP YP l.row.toRowW d [] (fun f vs=>PySem.call f vs):=by
 intro w s₀ s₁ mg mb G Y fa o pm cd doc dV kV ho hd hcd hD hmg hg args vals as hpre hlay hrd hwl hlo
 obtain rfl : dV = .none:=Dflts.none hD hdf
 obtain rfl : kV = .none:=Dflts.noKw hD
 obtain ⟨a,vs,ns,rfl,rfl,hobj,hints,hlen⟩:=zgk hn hpre hwl
 refine enter_call (codeAny_mono (call w s₀ s₁ mg mb fa o pm cd doc a vs ns G Y ho (fd_plain hd) hcd hmg hobj hints hlen hg) fun r s' hq=>?_)
 obtain ⟨rfl,h2,h3,h4⟩:=hq
 exact ⟨.inl ⟨.bool true,.bool true,[],rfl,fun _=>rfl,.bool true,zgl l _,fun _=>⟨List.Pairwise.nil,fun _ hm=>(nomatch hm)⟩⟩,h2,h3,h4⟩
section
variable {prog : Program} {w : World} {A : Around} {E : Value -> Shared -> Prop} {s : Shared} {K : Frag}
end
end Att
namespace L2
open PySem PySem.Spec PyProof.Rows
theorem zdw : ∀ {vs : List Value} {ns : List Int},IntsAre vs ns -> Vals (ns.map V.int) vs
 | _,_,.nil=>.nil
 | _,_,.cons n t h=>.cons ⟨t,rfl⟩ (zdw h)
def Only (H : Hp) : Prop:=∀ b,H b = none \/ ∃ o xs,H b = some (.frz o (.lst xs))
theorem zhk {P : Program} {w : World} {K : PySem.W.Frag} {mg mb : Str -> Option Value} {CX : CXT} {k : Nat} {fa a : Addr} {fd : FuncData} {x : Str} {sp : Sp} {s₁ : Shared} {vs : List Value} {ns : List Int}
  (KX : K.In s₁.heap) (hns : s₁.heap.Ns mainGlobals mg) (hb : s₁.heap.Ns builtinsNs mb) (hbb : ∀ x : Str,x ≠ "__name__" -> mb x = bootBuiltins x) (hlim : s₁.heap.NoLimit) (hg : s₁.gens = #[])
  (ha : s₁.heap.get? a = some { cls:=.type "list",data:=.seq vs.toArray }) (hi : IntsAre vs ns) (hl : ns.length <= sizeLine) (hr : Room k callerA)
  (F : ∀ base : Heap,K.In base -> base.Ns mainGlobals mg -> FnOk P w K mg base CX k fa fd [x] sp) (hbind : ∀ (s : Shared) (u : Value),BindsTo s fd ⟨[u],[]⟩ [(x,u)])
  (hsp : ∀ H : Hp,Only H -> SqL K H a (ns.map V.int) -> sp [.ref a] H (fun v _=>v = .bl true) fun _ _ _=>False)
  (hCX : ∀ H e s',CX [] H s₁ (fun _ _ _=>False) e s' -> False) :
  codeAny (model P w) callerA (.call (.ref fa) ⟨[.ref a],[]⟩) (fun r s' => r = .ok (.ret (.bool true)) /\ OldK s₁.heap s'.heap /\ s'.os = s₁.os /\ AllBare s'.gens) s₁:=by
 have rv:=zdw hi
 have lenV:=hi.length
 have core : ∀ H : Hp,Only H -> SqL K H a (ns.map V.int) -> HOk P w H s₁.heap -> (∀ b,H b ≠ none -> b = a) -> (H a ≠ none -> K.lookup a = none) ->
   codeAny (model P w) callerA (.call (.ref fa) ⟨[.ref a],[]⟩) (fun r s' => r = .ok (.ret (.bool true)) /\ OldK s₁.heap s'.heap /\ s'.os = s₁.os /\ AllBare s'.gens) s₁:=by
  intro H hO hS hok hA hK
  have base_of : ∀ {b : Addr} {o : Obj},s₁.heap.get? b = some o -> H b = none -> (hidT s₁.heap H).get? b = some o:=fun e n=>zg3 e n
  have noA : ∀ {b : Addr} {o : Obj} {es : Array DictEntry} {ep : Nat},s₁.heap.get? b = some o -> o.data = .dict es ep -> H b = none:=fun {b o es ep} e d=>by
   cases q : H b with
   | none=>rfl
   | some u =>
    have e' : b = a:=hA b (by rw [q]; simp)
    subst e'
    rw [ha] at e; cases e
    have d' : Data.seq vs.toArray _ = Data.dict es ep:=d
    cases d'
  have nsK : ∀ {b : Addr} {m : Str -> Option Value},s₁.heap.Ns b m -> (hidT s₁.heap H).Ns b m:=fun {b m} ⟨o,es,ep,e,d,r⟩=>⟨o,es,ep,base_of e (noA e d),d,r⟩
  have hKb : K.In (hidT s₁.heap H):=fun b o e=>base_of (KX b o e) (by
   cases q : H b with
   | none=>rfl
   | some u =>
    have e' : b = a:=hA b (by rw [q]; simp)
    subst e'
    rw [hK (by rw [q]; simp)] at e; cases e)
  have hM : Mod K mg (hidT s₁.heap H):=⟨hKb,nsK hns,⟨mb,nsK hb,hbb⟩,let ⟨mc,h1,h2⟩:=hlim; ⟨mc,nsK h1,h2⟩⟩
  have e0 : Env0 P w K mg (hidT s₁.heap H) callerA [] s₁ H:=⟨rfl,hM,fun b o e=>zhX e,Nat.le_of_eq (zf7 _ _),trivial,fun b hb=>absurd (show b ∈ ([] : List Addr) from hb) (by simp),hok,.of_eq hg⟩
  refine codeAny_mono ((F _ hKb (nsK hns)).run callerA [] s₁ H ⟨[.ref a],[]⟩ [.ref a] [.ref a] _ _ hr e0 (hbind s₁ (.ref a)) (.cons rfl .nil) (hsp H hO hS)) fun r s' h=>?_
  cases r with
  | error e=>exact (hCX H e s' h).elim
  | ok fl =>
   cases fl with
   | next=>exact False.elim h
   | brk=>exact False.elim h
   | cont=>exact False.elim h
   | ret u =>
    obtain ⟨v,H',os,bare,un,hok',r',q⟩:=h
    have q' : v = .bl true:=q
    subst q'
    obtain rfl : u = Value.bool true:=r'
    refine ⟨rfl,OldK.of_keep fun b o e=>?_,os,bare⟩
    cases q : H b with
    | none=>exact un.keep b o e q (by intro z; exact absurd (show b ∈ ([] : List Addr) from z) (by simp)) (by simp)
    | some u =>
     rcases hO b with z | ⟨ob,xs,z⟩
     ·rw [q] at z; cases z
     ·have z2:=un.frzs b ob _ z
      obtain ⟨e1,_⟩:=hok b _ z
      obtain ⟨e2,_⟩:=hok' b _ z2
      rw [e] at e1; cases e1
      exact e2
 cases hk : K.lookup a with
 | some o =>
  have e:=KX a o hk
  rw [ha] at e
  cases e
  refine core (fun _=>none) (fun _=>.inl rfl) (.inr ⟨_,vs.toArray,_,hk,rfl,rfl,rfl,by rw [List.size_toArray,lenV]; exact hl,by simpa using rv⟩) (fun b u z=>by have z' : (none : Option HO) = some u:=z; cases z') (fun b z=>absurd rfl z) fun z=>absurd rfl z
 | none =>
  refine core (fun b=>if b = a then some (.frz { cls:=.type "list",data:=.seq vs.toArray } (.lst (ns.map V.int))) else none) (fun b=>?_) (.inl (.inr ⟨{ cls:=.type "list",data:=.seq vs.toArray },if_pos rfl⟩)) (fun b u z=>?_) (fun b z=>?_) fun _=>hk
  ·by_cases hb : b = a
   ·exact .inr ⟨_,_,if_pos hb⟩
   ·exact .inl (if_neg hb)
  ·by_cases hb : b = a
   ·have z' := (if_pos hb).symm.trans z
    cases z'
    subst hb
    exact ⟨ha,by rw [List.length_map]; exact hl,vs,_,rv,ha⟩
   ·have z' := (if_neg hb).symm.trans z
    cases z'
  ·by_cases hb : b = a
   ·exact hb
   ·exact absurd (if_neg hb) z
end L2
namespace L2
open PySem PySem.Spec PyProof.Rows
theorem walk_of {l : PySem.W.OpenLaw} {n k : Nat} {q : Program} {loose : List Str} {XP : (Str -> Option Value) -> Heap -> Prop} {YP : World -> Heap -> Prop} {d : DefRec} {K : Params -> PySem.W.Frag} {CX : World -> CXT} {sp : World -> Sp} {x : Str}
  (hn : l.most = some n) (hn2 : n <= sizeLine) (hdf : d.params.defaults = []) (hr : Room k callerA)
  (hY : ∀ (w : World) (h : Heap),YP w h -> (K w.params).In h)
  (F : ∀ (w : World) (mg : Str -> Option Value) (fa : Addr) (h : Heap),(K w.params).In h -> h.Ns mainGlobals mg -> mg d.name = some (.ref fa) ->
   ∃ fd : FuncData,(∀ (s : Shared) (u : Value),BindsTo s fd ⟨[u],[]⟩ [(x,u)]) /\
    ∀ base : Heap,(K w.params).In base -> base.Ns mainGlobals mg -> FnOk l.prog w (K w.params) mg base (CX w) k fa fd [x] (sp w))
  (hsp : ∀ (w : World) (H : Hp) (a : Addr) (ns : List Int),ns.length <= n -> Only H -> SqL (K w.params) H a (ns.map V.int) -> sp w [.ref a] H (fun v _=>v = .bl true) fun _ _ _=>False)
  (hCX : ∀ (w : World) (H : Hp) (s : Shared) (e : Value) (s' : Shared),CX w [] H s (fun _ _ _=>False) e s' -> False) :
  PySem.W.WalkO q loose XP YP l.row.toRowW d [] (fun f vs=>PySem.call f vs):=by
 refine Att.attach_call hn hdf fun w s₀ s₁ mg mb fa o pm cd doc a vs ns G Y ho hd hcd hmg hobj hints hlen hg=>?_
 have KX:=hY w _ Y
 obtain ⟨fd,hb,hF⟩:=F w mg fa _ KX G.T.g hmg
 exact zhk KX G.T.g G.T.b G.T.builtins G.T.nolimit hg hobj hints (Nat.le_trans hlen hn2) hr hF hb (fun H hO hS=>hsp w H a ns hlen hO hS) fun H e s' => hCX w H s₁ e s'
end L2
namespace L2
open PySem PySem.Spec PyProof.Rows
def ya0 (s : Stmt) (j : Nat) : Stmt:=match s with
 | .ClassDef _ _ _ body _ _ _ _ _ _ _=>body.getD j (.Pass ⟨0,0,0,0⟩)
 | _=>.Pass ⟨0,0,0,0⟩
def ycm (s : Stmt) : Arguments:=match s with
 | .FunctionDef _ a _ _ _ _ _ _ _ _=>a
 | _=>{ posonlyargs:=[],args:=[],vararg:=none,kwonlyargs:=[],kw_defaults:=[],kwarg:=none,defaults:=[] }
def ybf (s : Stmt) : List Stmt:=match s with
 | .FunctionDef _ _ b _ _ _ _ _ _ _=>b
 | _=>[]
def yad (s : Stmt) : Scope:=match s with
 | .FunctionDef _ _ _ _ _ _ sc _ _ _=>sc
 | _=>{ kind:=.function,names:=[],isGenerator:=false,isCoroutine:=false }
abbrev E0 : XK:=fun _ _ _=>False
structure Fun (K : PySem.W.Frag) (x qual : Str) (st : Stmt) (f : Addr) (fd : FuncData) : Prop where
 ex : ∃ (oc : Value) (od : Option Addr) (kV doc pm : Value) (an : Option Addr) (cdv ct : Value) (osl : Array (Option Value)),
  fd = PySem.W.fnOf x qual (ycm st) (ybf st) (yad st) .none kV doc pm an cdv ct /\ K.lookup f = some ⟨oc,od,.func fd,osl⟩ /\ PySem.W.codeIn K cdv qual = true
 kp : PySem.W.keepIn K (.ref f) = true
section
variable {P : Program} {w : World} {K : PySem.W.Frag} {mg : Str -> Option Value} {base : Heap}
theorem Fun.binds {x qual : Str} {st : Stmt} {f : Addr} {fd : FuncData} {ps : List Str} (F : Fun K x qual st f fd)
  (h : ∀ (kV doc pm : Value) (an : Option Addr) (cdv ct : Value) (us : List Value),us.length = ps.length -> bindArgs (PySem.W.fnOf x qual (ycm st) (ybf st) (yad st) .none kV doc pm an cdv ct) ⟨us,[]⟩ = pure (ps.zip us)) : Binds K fd ps []:=by
 obtain ⟨oc,od,kV,doc,pm,an,cdv,ct,osl,rfl,lk,hcd⟩:=F.ex
 exact .all (h kV doc pm an cdv ct)
theorem yeD {x qual : Str} {st : Stmt} {f : Addr} {oc : Value} {od an : Option Addr} {osl : Array (Option Value)} {kV doc pm cdv ct : Value} (l : K.lookup f = some ⟨oc,od,.func (PySem.W.fnOf x qual (ycm st) (ybf st) (yad st) .none kV doc pm an cdv ct),osl⟩)
  (c : PySem.W.codeIn K cdv qual = true) (k : PySem.W.keepIn K (.ref f) = true) : Fun K x qual st f (PySem.W.fnOf x qual (ycm st) (ybf st) (yad st) .none kV doc pm an cdv ct):=⟨⟨oc,od,kV,doc,pm,an,cdv,ct,osl,rfl,l,c⟩,k⟩
end
section
variable {X : Cx}
theorem pv (i : Nat) {x : Str} {pos : Pos} (hN : X.N[i]? = some x:=by rfl) (hv : Vis X.env.scope x:=by first | exact Or.inl rfl | exact Or.inr (Or.inl rfl) | exact Or.inr (Or.inr rfl)) (hd : (x == ("__debug__" : Str)) = false:=by decide)
  (hcd : (x == ("__classdict__" : Str)) = false:=by decide) : PE X (.Name x pos) (tVar i):=ygi hN hv hd hcd
theorem zgm : CallR X (.builtin "len") (fun xs H Q=>∃ a kvs,xs = [V.ref a] /\ H a = some (.dK kvs) /\ Q (.int kvs.length) H):=by
 intro pins s σ H xs us Q I r h
 obtain ⟨a,kvs,rfl,ha,q⟩:=h
 obtain ⟨u,rfl,ru⟩:=ybP r
 cases ru
 exact yhU I (.inl ha) fun t s' I' => ⟨.int kvs.length,H,I',⟨t,rfl⟩,q⟩
end
section
variable {κ : Type} [DecidableEq κ]
end
end L2
set_option maxHeartbeats 4000000
namespace L2
open PySem PySem.Spec PyProof.Rows
section
variable {X : Cx} {pins : List (Addr × Obj)} {σ : St} {H : Hp} {s : Shared} {h' : Heap}
theorem Inv.turnedL {t' : Nat} {fp : List Addr} (I : Inv X pins σ H s) (k : ∀ b o,b ∉ fp -> s.heap.get? b = some o -> h'.get? b = some o) (hf : ∀ b ∈ fp,FpOk X pins H b) :
  Inv X pins σ H { s with heap:=h',toks:=t' }:=by
 have nit : ∀ b u,H b = some u -> b ∉ fp:=fun b u e z=>by
  have q:=(hf b z).1
  rw [q] at e
  cases e
 refine I.step (g' := s.gens) (d' := s.drawn) (ch:=fp) (fun b hb=>?_) (fun b o _ _ hc e _=>k b o hc e) (fun b o _ _ hc e _=>⟨o.slots,k b o hc e⟩) (fun _ _ _ _ n=>n)
  (fun b o hc e=>⟨o,k b o hc e⟩) (fun _ _ e=>e) (fun _ _ _ e=>e) (fun b ps e=>⟨#[],by rw [e]; simp⟩) (fun m hm=>?_) (fun b u e=>?_) I.bare
 ·obtain ⟨_,f1,_,f3,f4,f5⟩:=hf b hb
  exact ⟨f3,f1,f4,f5⟩
 ·obtain ⟨o,es,ep,ho,r⟩:=hm
  exact ⟨o,es,ep,k _ o (fun z=>(hf _ z).2.1 rfl) ho,r⟩
 ·refine (I.hok b u e).stay (fun c v hc q=>k c v ?_ q) (fun _ q=>q) fun _ _ q=>q
  rcases hc with z | z
  ·rw [z]; exact nit b u e
  ·exact nit c _ z
theorem Inv.adopt {T : Addr} {ob : HO} (I : Inv X pins σ H s) (hn : H T = none) (hT : X.s₀.heap.objs.size <= T) (hL : T ≠ X.env.locals) (hc : ∀ x c,X.env.cells.lookup x = some c -> c ≠ T)
  (hp : ∀ p ∈ X.pn++pins,p.1 ≠ T) (new : ObjOk X.prog X.w (upd H T ob) s.heap T ob) : Inv X pins σ (upd H T ob) s:=by
 have hne : ∀ b u,H b = some u -> b ≠ T:=fun b u e=>zaj e hn
 refine I.step (h' := s.heap) (g' := s.gens) (d' := s.drawn) (t' := s.toks) (ch:=[T]) (fun b hb=>?_) (fun b o _ _ _ e _=>e) (fun b o _ _ _ e _=>⟨o.slots,e⟩) (fun b o hb e n=>?_) (fun b o _ e=>⟨o,e⟩)
  (fun b xs e=>by rw [yal (hne b _ e)]; exact e) (fun b o u e=>by rw [yal (hne b _ e)]; exact e) (fun b ps e=>⟨#[],by rw [yal (hne b _ e),e]; simp⟩) (fun m hm=>hm) (fun b u e=>?_) I.bare
 ·have e : b = T:=by simpa using hb
  subst e
  exact ⟨.inr hT,hL,hc,hp⟩
 ·rw [yal (fun z=>hb (by simp [z]))]; exact n
 ·by_cases hb : b = T
  ·subst hb; rw [zaf] at e; cases e; exact new
  ·rw [yal hb] at e
   exact (I.hok b u e).stay (fun c v _ q=>q) (fun c q=>by rw [yal (hne c _ q)]; exact q) fun c xs q=>by rw [yal (hne c _ q)]; exact q
end
def Ite (K : PySem.W.Frag) (a : Addr) : It :=
 ⟨fun i H=>∃ xs x,SqL K H a xs /\ xs[i]? = some x,fun i H x H' => ∃ (T : Addr) (y : V),x = .ref T /\ H T = none /\ H' = upd H T (.tup [.int i,y]) /\ ∀ xs,SqL K H a xs -> xs[i]? = some y,fun i H=>∃ xs,SqL K H a xs /\ xs.length <= i⟩
theorem zgn {P : Program} {w : World} {K : PySem.W.Frag} {es : List Expr} {k : Nat} {tp : Pos} (a it e : Addr) (hei : e ≠ it) :
  Turn P w K (.Tuple es k tp) (Ite K a) [e,it] e (fun i h=>(∃ old,IsEnum h e it i old) /\ h.IsListIter it a i) where
 mem:=by simp
 obj:=fun i h st b hb=>by
  obtain ⟨⟨old,he⟩,o,ho,hc,hd⟩:=st
  have hb' : b = e \/ b = it:=by simpa using hb
  rcases hb' with rfl | rfl
  ·exact ⟨_,he,fun v z=>by
    have z' : Data.fields _ = Data.cell v:=z
    cases z'⟩
  ·exact ⟨o,ho,fun v z=>by rw [hd] at z; cases z⟩
 keep:=fun i h h' st k=>by
  obtain ⟨⟨old,he⟩,hit⟩:=st
  exact ⟨⟨old,k e (by simp) _ he⟩,hit.at fun o q=>k it (by simp) o q⟩
 item:=by
  intro X hP hw hK hc i pins s σ H E I hf st hg
  subst hP hw hK
  obtain ⟨xs,x,hq,hx⟩:=hg
  obtain ⟨its,rv,p,hz⟩:=I.list hq
  obtain ⟨u,hu,ru⟩:=rv.get hx
  obtain ⟨⟨old,he⟩,hit⟩:=st
  refine wpAny_pyNext_enum_item he hit p.isList (x:=u) (by simpa using hu) hei fun h1 ho hit1 hT hsz hk=>?_
  refine ⟨.ref s.heap.objs.size,rfl,wpAny_letOwnedTupleGo_enum ho fun h2 he2 hs2=>?_⟩
  replace hs2 : Heap.SameBut e h1 h2:=hs2
  have helt : e < s.heap.objs.size:=Heap.lt_size he
  have I1 : Inv X pins σ H { s with heap:=h2,toks:=s.toks + 1 }:=I.turnedL (fp:=[e,it]) (fun b o hb q=>by
   have n1 : b ≠ e:=fun z=>hb (by simp [z])
   have n2 : b ≠ it:=fun z=>hb (by simp [z])
   exact (hs2.2 b n1).trans (hk b o n1 n2 q)) hf
  have hT2 : h2.get? s.heap.objs.size = some { cls:=.type "tuple",data:=.seq #[.int i s.toks,u] }:=(hs2.2 _ (Nat.ne_of_gt helt)).trans hT
  have fp:=I.fpOk (H' := H) (Nat.le_refl s.heap.objs.size) (I.hok.fresh (Nat.le_refl _))
  obtain ⟨f0,f1,f2,f3,f4,f5⟩:=fp
  have I2 : Inv X pins σ (upd H s.heap.objs.size (.tup [.int i,x])) { s with heap:=h2,toks:=s.toks + 1 } :=
   I1.adopt (T:=s.heap.objs.size) f0 (I.sz) f1 f4 f5 ⟨by show 2 <= sizeLine; decide,[.int i s.toks,u],.cons ⟨_,rfl⟩ (.cons ru .nil),⟨_,hT2,rfl,_,rfl⟩⟩
  refine ⟨.ref s.heap.objs.size,_,I2,rfl,⟨s.heap.objs.size,x,rfl,f0,rfl,fun ys hy=>by rw [I.list_inj hy hq]; exact hx⟩,⟨⟨u,by simpa using he2⟩,hit1.extBut hs2.extBut (Ne.symm hei)⟩,fun b hb=>?_⟩
  obtain ⟨g0,_⟩:=hf b hb
  obtain ⟨o,hob,_⟩ : ∃ o,s.heap.get? b = some o /\ True:=by
   have hb' : b = e \/ b = it:=by simpa using hb
   rcases hb' with rfl | rfl
   ·exact ⟨_,he,trivial⟩
   ·obtain ⟨o,q,_⟩:=hit
    exact ⟨o,q,trivial⟩
  rw [yal (Nat.ne_of_lt (Heap.lt_size hob))]
  exact g0
 done:=by
  intro X hP hw hK hc i pins s σ H E I hf st hg
  subst hP hw hK
  obtain ⟨xs,hq,hx⟩:=hg
  obtain ⟨its,rv,p,hz⟩:=I.list hq
  obtain ⟨⟨old,he⟩,hit⟩:=st
  have hl:=rv.length
  exact wpAny_pyNext_enum_end (I.ok.hd hc) he hit p.isList (by simp; omega) fun h' eb=>⟨rfl,I.turnedL (fp:=[e,it]) (t' := s.toks) (fun b o hb q=>eb b o (fun z=>hb (by simp [z])) q) hf⟩
 self:=fun _ _ _ _ _ st h=>by
  obtain ⟨⟨old,he⟩,_⟩:=st
  exact wpAny_pyIter_enum he h
section
variable {X : Cx}
def iEnum (K : PySem.W.Frag) (ta : TA) : TI:=fun σ H R=>ta σ H fun vs H1=>∃ a,vs = [.ref a] /\ (∃ xs,SqL K H1 a xs) /\ R (Ite K a) H1
theorem zik {l : Expr} {ta : TA} {p pos tp : Pos} {es : List Expr} {k : Nat} (hg : Gl X "enumerate") (hm : X.mg "enumerate" = none) (ha : PA X [l] ta) (hs : starEach [l] X.env = [(false,eval l X.env)]:=by rfl) :
  PI X (.Tuple es k tp) (.Call (.Name "enumerate" p) [l] [] pos) (iEnum X.K ta):=by
 intro pins s σ H R I h
 refine Call_ (ycK I hg hm boot_enumerate (PyProof.Rows.callWith_type1 (thn (ha pos pins s σ H _ I h) fun us s1 ⟨vs,H1,I1,r1,q1⟩=>?_) hs rfl))
 obtain ⟨a,e,⟨xs,hq⟩,q⟩:=q1
 subst e
 cases r1 with
 | cons r rr =>
  cases rr
  cases r
  obtain ⟨its,rv,pl,hz⟩:=I1.list hq
  refine call_enumerate_list pl.isList fun h' he hit hsz hk=>wpAny_pyIter_enum he ?_
  refine ⟨s1.heap.objs.size + 1,[s1.heap.objs.size + 1,s1.heap.objs.size],_,_,H1,rfl,I1.kept (t' := s1.toks) fun b o e=>hk b o e,zgn a _ _ (Nat.succ_ne_self _),⟨⟨_,he⟩,hit⟩,fun b hb=>?_,q⟩
  have hb' : b = s1.heap.objs.size + 1 \/ b = s1.heap.objs.size:=by simpa using hb
  rcases hb' with rfl | rfl
  ·exact I1.fpOk (Nat.le_succ _) (I1.hok.fresh (Nat.le_succ _))
  ·exact I1.fpOk (Nat.le_refl _) (I1.hok.fresh (Nat.le_refl _))
end
def Its (x : Str) : It:=⟨fun i _=>i < x.cps.size,fun i H v H' => H' = H /\ ∃ c,x.cps[i]? = some c /\ v = .str ⟨#[c]⟩,fun i _=>x.cps.size <= i⟩
theorem zgo {P : Program} {w : World} {A : Around} (hh : A.handled = none) (it : Addr) (x : Str) (t : Tok) :
  Walks P w A it [it] [it] x.cps.size (SignAt x) (fun i h=>h.IsStrIter it (strIterType x) x t i):=by
 cases ha : x.cps.all (· < 128) with
 | false =>
  have e : strIterType x = "str_iterator" := by simp [strIterType,ha]
  rw [e]
  exact Walks.strWide hh it x t
 | true =>
  have e : strIterType x = "str_ascii_iterator" := by simp [strIterType,ha]
  rw [e]
  exact Walks.strAscii hh it x t
theorem zhl {P : Program} {w : World} {K : PySem.W.Frag} {y : Str} {py : Pos} (it : Addr) (x : Str) (t : Tok) : Turn P w K (.Name y py) (Its x) [it] it (fun i h=>h.IsStrIter it (strIterType x) x t i) where
 mem:=by simp
 obj:=fun i h st b hb=>by
  have e : b = it:=by simpa using hb
  subst e
  obtain ⟨o,e,c,d⟩:=st
  exact ⟨o,e,fun v z=>by rw [d] at z; cases z⟩
 keep:=fun i h h' st k=>by
  obtain ⟨o,e,r⟩:=st
  exact ⟨o,k it (by simp) o e,r⟩
 item:=by
  intro X hP hw hK hc i pins s σ H E I hf st hg
  subst hP hw hK
  refine (zgo (I.ok.hd hc) it x t).item i s _ _ hg st fun v h1 tk hv st1 kk=>?_
  obtain ⟨c,u,hcp,rfl⟩:=hv
  have I1 : Inv X pins σ H { s with heap:=h1,toks:=tk }:=I.turnedL (fp:=[it]) kk hf
  exact ⟨_,rfl,wpAny_pure ⟨.str ⟨#[c]⟩,H,I1,⟨u,rfl⟩,⟨rfl,c,hcp,rfl⟩,st1,fun b hb=>(hf b hb).1⟩⟩
 done:=by
  intro X hP hw hK hc i pins s σ H E I hf st hg
  subst hP hw hK
  have hx : x.cps[i]? = none:=Array.getElem?_eq_none hg
  cases ha : x.cps.all (· < 128) with
  | false =>
   have e : strIterType x = "str_iterator" := by simp [strIterType,ha]
   rw [e] at st
   exact wpAny_pyNext_wide_end (I.ok.hd hc) st hx fun h' eb=>⟨rfl,I.turnedL (fp:=[it]) (t' := s.toks) (fun b o hb q=>eb b o (fun z=>hb (by simp [z])) q) hf⟩
  | true =>
   have e : strIterType x = "str_ascii_iterator" := by simp [strIterType,ha]
   rw [e] at st
   exact wpAny_pyNext_ascii_end (I.ok.hd hc) st hx fun h' eb=>⟨rfl,I.turnedL (fp:=[it]) (t' := s.toks) (fun b o hb q=>eb b o (fun z=>hb (by simp [z])) q) hf⟩
 self:=fun A i s Q E st h=>by
  cases ha : x.cps.all (· < 128) with
  | false =>
   have e : strIterType x = "str_iterator" := by simp [strIterType,ha]
   rw [e] at st
   exact wpAny_pyIter_striter_wide st h
  | true =>
   have e : strIterType x = "str_ascii_iterator" := by simp [strIterType,ha]
   rw [e] at st
   exact wpAny_pyIter_striter_ascii st h
section
variable {X : Cx}
def iStr (tl : TE) : TI:=fun σ H R=>tl σ H fun x H1=>∃ t,x = .str t /\ R (Its t) H1
theorem ygQ {l : Expr} {tl : TE} {y : Str} {py : Pos} (hl : PE X l tl) : PI X (.Name y py) l (iStr tl):=by
 intro pins s σ H R I h
 refine thn (hl pins s σ H _ I h) fun v s1 ⟨x,H1,I1,r1,q1⟩=>?_
 obtain ⟨t,e,q⟩:=q1
 subst e
 obtain ⟨tk,rfl⟩:=r1
 refine wpAny_pyIter_strU ?_
 refine ⟨s1.heap.objs.size,[s1.heap.objs.size],_,_,H1,rfl,I1.kept (t' := s1.toks) fun b o e=>Heap.get?_push_of_some _ e,zhl _ t tk,⟨_,Heap.get?_push_size _ rfl,rfl,rfl⟩,fun b hb=>?_,q⟩
 have e : b = s1.heap.objs.size:=by simpa using hb
 subst e
 exact I1.fpOk (Nat.le_refl _) (I1.hok.fresh (Nat.le_refl _))
end
def yaL (env : Env) : List (Str × NameKind) -> List (Str × Addr) -> List (Str × Addr)
 | [],acc=>acc
 | (n,k) :: r,acc=>yaL env r (if k = .free then (n,(env.cells.lookup n).getD 0) :: acc else acc)
theorem zfM {env : Env} {scope : Scope} (h : ∀ y ∈ scope.names,y.2 = .free -> (env.cells.lookup y.1).isSome = true) : closureFor scope env = pure (yaL env scope.names []):=by
 have all : ∀ (l : List (Str × NameKind)) (acc : List (Str × Addr)),(∀ y ∈ l,y.2 = .free -> (env.cells.lookup y.1).isSome = true) ->
   (forIn l acc fun (x : Str × NameKind) (cs : List (Str × Addr))=>if (x.2 == NameKind.free) = true then (do let a <- cellOf env x.1; pure (ForInStep.yield ((x.1,a) :: cs))) else (pure (ForInStep.yield cs) : Sem _)) = pure (yaL env l acc):=by
  intro l
  induction l with
  | nil=>intro acc _; rfl
  | cons y r ih =>
   intro acc hl
   obtain ⟨n,k⟩:=y
   rw [List.forIn_cons]
   have hr:=fun z hz=>hl z (List.mem_cons_of_mem _ hz)
   by_cases hk : k = .free
   ·subst hk
    obtain ⟨c,hc⟩:=Option.isSome_iff_exists.mp (hl (n,.free) List.mem_cons_self rfl)
    have e1 : cellOf env n = pure c:=by
     simp only [cellOf]
     have hc' : env.cells.lookup n = some c:=hc
     rw [hc']
    simp only [beq_self_eq_true,if_true,e1,pure_bind,yaL]
    have hc' : env.cells.lookup n = some c:=hc
    rw [hc']
    exact ih _ hr
   ·have hb : (k == NameKind.free) = false:=by simpa using hk
    simp only [hb,Bool.false_eq_true,if_false,pure_bind,yaL,hk]
    exact ih _ hr
 unfold closureFor
 have q:=all scope.names [] h
 first
  | exact q
  | (simp only [bind_pure]; exact q)
  | (rw [<- q]; simp)
theorem zcs {env : Env} : ∀ {l : List (Str × NameKind)} {acc : List (Str × Addr)},(∀ y ∈ l,y.2 = .free -> (env.cells.lookup y.1).isSome = true) -> (∀ y c,acc.lookup y = some c -> env.cells.lookup y = some c) ->
  ∀ y c,(yaL env l acc).lookup y = some c -> env.cells.lookup y = some c
 | [],_,_,h,y,c,e=>h y c e
 | (n,k) :: r,acc,hl,h,y,c,e=>by
  refine zcs (l:=r) (fun z hz=>hl z (List.mem_cons_of_mem _ hz)) ?_ y c e
  intro y c e
  by_cases hk : k = .free
  ·rw [if_pos hk] at e
   rw [List.lookup_cons] at e
   cases hy : y == n with
   | true =>
    rw [hy] at e
    have e' : y = n:=by simpa using hy
    obtain ⟨c',hc'⟩:=Option.isSome_iff_exists.mp (hl (n,k) List.mem_cons_self hk)
    have hc'' : env.cells.lookup n = some c' := hc'
    rw [hc''] at e
    rw [e',hc'']
    exact e
   | false =>
    rw [hy] at e
    exact h y c e
  ·rw [if_neg hk] at e
   exact h y c e
theorem zct {env : Env} : ∀ {l : List (Str × NameKind)} {acc : List (Str × Addr)} {y : Str},(y,NameKind.free) ∈ l \/ (acc.lookup y).isSome = true -> ((yaL env l acc).lookup y).isSome = true
 | [],_,_,h=>by
  rcases h with h | h
  ·cases h
  ·exact h
 | (n,k) :: r,acc,y,h=>by
  refine zct (l:=r) ?_
  rcases h with h | h
  ·rcases List.mem_cons.mp h with e | e
   ·right
    cases e
    rw [if_pos rfl,List.lookup_cons]
    simp
   ·exact .inl e
  ·right
   by_cases hk : k = .free
   ·rw [if_pos hk,List.lookup_cons]
    cases hy : y == n with
    | true=>rfl
    | false=>exact h
   ·rw [if_neg hk]; exact h
theorem zay {names : List (Str × NameKind)} {x : Str} {k : NameKind} (h : names.lookup x = some k) : (x,k) ∈ names:=PySem.mem_of_lookup h
theorem zaK {env : Env} {x : Str} {k : NameKind} : ∀ {names : List (Str × NameKind)},(names.map fun (n,k)=>if (k == NameKind.free && env.scope.kind == .function && env.kindOf n == some .cell) then (n,NameKind.cell) else (n,k)).lookup x = some k ->
  names.lookup x = some k \/ (k = .cell /\ names.lookup x = some .free)
 | [],h=>by simp at h
 | (n,kk) :: r,h=>by
  have ih:=@zaK env x k r
  by_cases hc : (kk == NameKind.free && env.scope.kind == .function && env.kindOf n == some .cell) = true
  ·have hf : kk = .free:=by
    have q:=(Bool.and_eq_true _ _).mp ((Bool.and_eq_true _ _).mp hc).1
    simpa using q.1
   subst hf
   have h' : List.lookup x ((n,NameKind.cell) :: (r.map fun (n,k)=>if (k == NameKind.free && env.scope.kind == .function && env.kindOf n == some .cell) then (n,NameKind.cell) else (n,k))) = some k:=by
    have e : (fun (p : Str × NameKind)=>match p with | (n,k)=>if (k == NameKind.free && env.scope.kind == .function && env.kindOf n == some .cell) = true then (n,NameKind.cell) else (n,k)) (n,NameKind.free) = (n,NameKind.cell):=by
     show (if _ then _ else _) = _
     rw [if_pos hc]
    rw [List.map_cons] at h
    rw [<- e]
    exact h
   rw [List.lookup_cons] at h' ⊢
   cases hx : x == n with
   | true =>
    rw [hx] at h'
    right
    exact ⟨(Option.some.inj h').symm,rfl⟩
   | false =>
    rw [hx] at h'
    exact ih h'
  ·have h' : List.lookup x ((n,kk) :: (r.map fun (n,k)=>if (k == NameKind.free && env.scope.kind == .function && env.kindOf n == some .cell) then (n,NameKind.cell) else (n,k))) = some k:=by
    have e : (fun (p : Str × NameKind)=>match p with | (n,k)=>if (k == NameKind.free && env.scope.kind == .function && env.kindOf n == some .cell) = true then (n,NameKind.cell) else (n,k)) (n,kk) = (n,kk):=by
     show (if _ then _ else _) = _
     rw [if_neg hc]
    rw [List.map_cons] at h
    rw [<- e]
    exact h
   rw [List.lookup_cons] at h' ⊢
   cases hx : x == n with
   | true =>
    rw [hx] at h'
    exact .inl h'
   | false =>
    rw [hx] at h'
    exact ih h'
def yaY (X : Cx) (pins : List (Addr × Obj)) (x₁ : Str) (jf : List (Nat × Str)) (scope : Scope) (cl : List (Str × Addr)) (s : Shared) (H : Hp) (fp : List Addr) : Cx where
 prog:=X.prog
 w:=X.w
 K:=X.K
 mg:=X.mg
 base:=X.base
 A:=X.A
 N:=x₁ :: jf.map (·.2)
 s₀:=s
 H₀:=H
 env:=compEnvC scope cl s.heap.objs.size X.env
 outer:=X.stack
 stack:=X.stack
 ex:=fp
 fn:=fun _=>false
 calm:=X.calm
 pn:=X.pn++pins
 xe:=fun _ _=>False
def ybq (v : Option V) (js : List (Nat × Str)) (σ : St) : St:=v :: js.map fun j=>(σ[j.1]?).join
def PTs (X : Cx) (ifs : List Expr) (t : TT) : Prop :=
 ∀ (pins : List (Addr × Obj)) (s : Shared) (σ : St) (H : Hp) (Q : Bool -> Hp -> Prop),Inv X pins σ H s -> t σ H Q ->
  wpAny (model X.prog X.w) X.A (forIn ifs true fun c r=>if r = true then do let ok <- isTrue c X.env (eval c X.env); pure (ForInStep.yield ok) else pure (ForInStep.yield r)) (TP X pins σ Q) X.xe s
def tYes : TT:=fun _ H Q=>Q true H
theorem zil {X : Cx} : PTs X [] tYes:=fun pins s σ H Q I h=>wpAny_tests_nil ⟨H,I,h⟩
def yd6 (jf : List (Nat × Str)) (wi : TI) (tc : TT) (te : TE) : TE:=fun σ H Q=>wi σ H fun J H1=>∀ D,H1 D = none -> ∃ W : Nat -> Nat -> List V -> Hp -> Prop,(∃ m,W 0 m [] (upd H1 D (.lst []))) /\
 ∀ i m ys H2,W i m ys H2 -> H2 D = some (.lst ys) /\ ((J.stop i H2 /\ Q (.ref D) H2) \/ (J.go i H2 /\ ys.length < sizeLine /\ ∀ x H3,J.yld i H2 x H3 -> tc (ybq (some x) jf σ) H3 fun b H5 =>
  if b = true then te (ybq (some x) jf σ) H5 fun v H6=>H6 D = some (.lst ys) /\ ∃ m',m' < m /\ W (i + 1) m' (ys++[v]) (upd H6 D (.lst (ys++[v]))) else ∃ m',m' < m /\ W (i + 1) m' ys H5))
section
variable {X : Cx} {pins : List (Addr × Obj)} {σ : St} {H : Hp} {s : Shared} {x₁ : Str} {jf : List (Nat × Str)} {scope : Scope} {fp : List Addr}
theorem Inv.block {h1 : Heap} {tk : Nat} (I : Inv X pins σ H s) (hf : ∀ b ∈ fp,FpOk X pins H b) (hlt : ∀ b ∈ fp,b < s.heap.objs.size) (hjf : ∀ p ∈ jf,X.N[p.1]? = some p.2) (hjl : ∀ p ∈ jf,scope.names.lookup p.2 = some .free) (hkind : scope.kind = .function)
  (hcell : ∀ y ∈ scope.names,y.2 ≠ .cell) (hfr : ∀ y ∈ scope.names,y.2 = .free -> X.env.kindOf y.1 = some .cell \/ X.env.kindOf y.1 = some .free)
  (hn : h1.Ns s.heap.objs.size (fun _=>none)) (hk : ∀ b o,s.heap.get? b = some o -> h1.get? b = some o) :
  Inv (yaY X pins x₁ jf scope (yaL X.env scope.names []) s H fp) [] (ybq none jf σ) H { s with heap:=h1,toks:=tk }:=by
 have hsome : ∀ y ∈ scope.names,y.2 = .free -> (X.env.cells.lookup y.1).isSome = true:=fun y hy hyf=>Option.isSome_iff_exists.mpr (I.ok.has y.1 (hfr y hy hyf))
 have sub : ∀ y c,(yaL X.env scope.names []).lookup y = some c -> X.env.cells.lookup y = some c:=zcs hsome (fun y c e=>by simp at e)
 have hsz:=I.sz
 have inE : ∀ b,b ∈ (yaY X pins x₁ jf scope (yaL X.env scope.names []) s H fp).ex -> b ∈ fp:=fun b z=>z
 have stk : ∀ b ∈ frs X.stack,b < s.heap.objs.size:=fun b hb=>by
  obtain ⟨_,o,ho,_⟩:=I.stack.mem hb
  exact Heap.lt_size ho
 refine ⟨⟨I.ok.mod,hkind,I.ok.glob,I.ok.blt,Nat.le_refl _,fun y z c e1 e2=>I.ok.inj y z c (sub y c e1) (sub z c e2),fun y hy=>?_,fun y c hfn _=>(by cases hfn),I.ok.hd,I.ok.frames,.inl rfl,fun b hb=>?_,fun b o e=>I.bs b o e,Nat.le_trans I.ok.bsz hsz,fun b o e z=>?_,fun b hb z=>?_,I.stack,I.stkFree⟩,
  rfl,I.bare,Un.kept hk,⟨_,hn,fun i y v e1 e2 e3=>?_⟩,fun y c e=>?_,I.hok.fresh (Nat.le_refl _),fun y c e=>I.freeC y c (sub y c e),fun p hp=>?_,I.hok.kept hk,?_⟩
 ·have hy' : (relabel scope X.env).names.lookup y = some .cell \/ (relabel scope X.env).names.lookup y = some .free:=hy
  have mem : (y,NameKind.free) ∈ scope.names:=by
   rcases hy' with q | q
   ·rcases zaK (env:=X.env) q with z | z
    ·exact absurd rfl (hcell _ (zay z))
    ·exact zay z.2
   ·rcases zaK (env:=X.env) q with z | z
    ·exact zay z
    ·exact zay z.2
  exact Option.isSome_iff_exists.mp (zct (.inl mem))
 ·exact ⟨Nat.ne_of_lt (hlt b hb),fun y c e=>(hf b hb).2.2.2.2.1 y c (sub y c e)⟩
 ·rcases (hf b z).2.2.2.1 with q | q
  ·exact I.ok.noex b o e q
  ·exact absurd (Nat.lt_of_lt_of_le (Heap.lt_size e) (Nat.le_trans I.ok.bsz q)) (Nat.lt_irrefl _)
 ·rcases List.mem_cons.mp (I.stkSub b z) with q | q
  ·exact (hf b hb).2.1 q
  ·exact (hf b hb).2.2.1 q
 ·have e1' : (x₁ :: jf.map (·.2))[i]? = some y:=e1
  unfold ybq at e2
  cases i with
  | zero=>cases e2
  | succ i =>
   rw [List.getElem?_cons_succ,List.getElem?_map] at e1' e2
   cases q : jf[i]? with
   | none=>rw [q] at e2; cases e2
   | some p =>
    rw [q] at e1' e2
    have ey : p.2 = y:=Option.some.inj e1'
    have ev : (σ[p.1]?).join = some v:=Option.some.inj e2
    have hp : p ∈ jf:=List.mem_of_getElem? q
    have eσ : σ[p.1]? = some (some v):=by
     cases z : σ[p.1]? with
     | none=>rw [z] at ev; cases ev
     | some r=>rw [z] at ev; rw [show r = some v from ev]
    have hfree : scope.names.lookup y = some .free:=by rw [<- ey]; exact hjl p hp
    have mem:=zay hfree
    have kX:=hfr _ mem rfl
    obtain ⟨m,hnX,hl⟩:=I.loc
    obtain ⟨u,ru,lk⟩:=hl p.1 y v (by rw [<- ey]; exact hjf p hp) eσ (by
     rcases kX with z | z
     ·exact .inr (.inl z)
     ·exact .inr (.inr z))
    refine ⟨u,ru,.inr ⟨?_,?_⟩⟩
    ·have e3' : Vis (relabel scope X.env) y:=e3
     rcases e3' with z | z | z
     ·exfalso
      rcases zaK (env:=X.env) z with q | q
      ·rw [hfree] at q; cases q
      ·cases q.1
     ·exact .inl z
     ·exact .inr z
    ·rcases lk with ⟨z,_⟩ | ⟨_,c,hc,hcell'⟩
     ·exfalso
      rcases kX with q | q
      ·rw [show X.env.kindOf y = some .cell from q] at z; cases z
      ·rw [show X.env.kindOf y = some .free from q] at z; cases z
     ·obtain ⟨c',hc'⟩:=Option.isSome_iff_exists.mp (zct (env:=X.env) (acc:=[]) (.inl mem))
      have e:=sub y c' hc'
      rw [hc] at e
      cases e
      obtain ⟨o,ho,hd⟩:=hcell'
      exact ⟨c,hc',o,hk c o ho,hd⟩
 ·obtain ⟨v,o,ho,hd⟩:=I.cell y c (sub y c e)
  exact ⟨v,o,hk c o ho,hd⟩
 ·have hp' : p ∈ X.pn++pins:=by simpa [yaY] using hp
  obtain ⟨e,n,ne,nf,d⟩:=I.pin p hp'
  refine ⟨hk _ _ e,n,Nat.ne_of_lt (Heap.lt_size e),fun z=>?_,d⟩
  rcases List.mem_cons.mp (I.stkSub p.1 z) with q | q
  ·exact ne q
  ·exact nf q
 ·unfold ybq
  show _ = (x₁ :: jf.map (·.2)).length
  rw [List.length_cons,List.length_cons,List.length_map,List.length_map]
end
theorem zea {prog : Program} {w : World} {A : Around} {R : Result -> Shared -> Prop} {s : Shared} {elt target iter : Expr} {ifs : List Expr} {scope : Scope} {pos : Pos} {it acc : Value} {env : Env} (I : Nat -> Shared -> Prop)
  (turn : ∀ n s,I n s -> wpAny (model prog w) A (pyNext it) (fun r s₁=>match r with
   | none=>R (.ok .next) s₁
   | some v=>wpAny (model prog w) A (letOwnedTupleGo target it v) (fun _ s₂=>wpAny (model prog w) A (assign target env v) (fun _ s₃ =>
     wpAny (model prog w) A (forIn ifs true fun c r=>if r = true then do let ok <- isTrue c env (eval c env); pure (ForInStep.yield ok) else pure (ForInStep.yield r)) (fun ok s₄ =>
      if ok = true then wpAny (model prog w) A (eval elt env) (fun x s₅=>wpAny (model prog w) A (call (.builtin "list.append") [acc,x]) (fun _ s₆=>∃ m,m < n /\ I m s₆) (fun _ _=>False) s₅) (fun _ _=>False) s₄
      else ∃ m,m < n /\ I m s₄) (fun _ _=>False) s₃) (fun _ _=>False) s₂) (fun _ _=>False) s₁) (fun _ _=>False) s)
  (n : Nat) (h : I n s) : codeAny (model prog w) A (.compLoop (.ListComp elt [⟨target,iter,ifs,0⟩] scope pos) 0 it acc env) R s:=by
 refine codeAny_loop rfl I (fun n s hI=>?_) n h
 show wpAny _ A ((compTurn (.ListComp elt [⟨target,iter,ifs,0⟩] scope pos) 0 it acc env).onRaise (fun x=>do noteFrame x env; theTreesLotGoes x)) _ _ s
 refine wpAny_noted ?_
 rw [compTurn_list]
 refine wpAny_bind (wpAny_standAt (wpAny_bind (wpAny_mono (turn n s hI) (fun r s₁ h₁=>?_) fun _ _ z=>z.elim)))
 cases r with
 | none=>exact wpAny_pure h₁
 | some v =>
  refine wpAny_bind (wpAny_mono h₁ (fun _ s₂ h₂=>?_) fun _ _ z=>z.elim)
  refine wpAny_bind (wpAny_mono h₂ (fun _ s₃ h₃=>wpAny_bind (wpAny_mono h₃ (fun ok s₄ h₄=>?_) fun _ _ z=>z.elim)) fun _ _ z=>z.elim)
  cases ok with
  | false=>exact wpAny_pure ⟨rfl,h₄⟩
  | true =>
   exact wpAny_bind (wpAny_bind (wpAny_mono h₄ (fun x s₅ h₅=>wpAny_bind (wpAny_mono h₅ (fun _ s₆ h₆=>wpAny_pure (wpAny_pure ⟨rfl,h₆⟩)) fun _ _ z=>z.elim)) fun _ _ z=>z.elim))
section
variable {X : Cx} {x₁ : Str} {px : Pos} {jf : List (Nat × Str)} {scope : Scope} {iter elt : Expr} {ifs : List Expr} {pos : Pos} {wi : TI} {tc : TT} {te : TE}
theorem zeb (hcalm : X.calm = true) (hi : PI X (.Name x₁ px) iter wi) (hc : ∀ pins cl s H fp,PTs (yaY X pins x₁ jf scope cl s H fp) ifs tc) (he : ∀ pins cl s H fp,PE (yaY X pins x₁ jf scope cl s H fp) elt te)
  (hN : (x₁ :: jf.map (·.2)).Nodup) (hx : scope.names.lookup x₁ = some .local) (hjf : ∀ p ∈ jf,X.N[p.1]? = some p.2) (hjl : ∀ p ∈ jf,scope.names.lookup p.2 = some .free) (hkind : scope.kind = .function)
  (hcell : ∀ y ∈ scope.names,y.2 ≠ .cell) (hfr : ∀ y ∈ scope.names,y.2 = .free -> X.env.kindOf y.1 = some .cell \/ X.env.kindOf y.1 = some .free)
  (hnames : ∀ y ∈ scope.names,y.2 = .local -> scope.names.lookup y.1 = some .local) {use : Option (Value -> Sem Unit)} {Qf : Value -> Shared -> Prop} {cpos : Pos}
  {pins : List (Addr × Obj)} {σ : St} {H : Hp} {s : Shared} {Q : VK} (I : Inv X pins σ H s) (h : yd6 jf wi tc te σ H Q)
  (fin : ∀ D C s6 H6 m6,Inv X pins σ H6 s6 -> Q (.ref D) H6 -> FpOk X pins H6 C -> s6.heap.Ns C m6 -> compPost (model X.prog X.w) X.A X.xe use Qf (.ref D) C (.ok .next) s6) (hs : ∀ x,foldedSetIterable iter X.env x = pure x) :
  wpAny (model X.prog X.w) X.A (comprehension (.ListComp elt [⟨.Name x₁ px,iter,ifs,0⟩] scope pos) scope X.env cpos (newList []) false (eval iter X.env) use) Qf X.xe s:=by
 have hsome : ∀ y ∈ scope.names,y.2 = .free -> (X.env.cells.lookup y.1).isSome = true:=fun y hy hyf=>Option.isSome_iff_exists.mpr (I.ok.has y.1 (hfr y hy hyf))
 refine wpAny_comprehension_free (use:=use) rfl hs (zfM hsome) hkind hnames (thn (hi pins s σ H _ I h) fun xv s1 h1=>thn h1 fun itv s2 h2=>?_)
 obtain ⟨it,fp,tn,J,H2,e,I2,T,st2,f2,h⟩:=h2
 subst e
 refine wpAny_newObj_type (wpAny_newFunctionEnv hcell (by intro y hy; simp at hy) (fun h₁ hns₁ hsb₁=>?_) hkind)
 have hD0 : H2 s2.heap.objs.size = none:=I2.hok.fresh (Nat.le_refl _)
 obtain ⟨W,⟨m0,w0⟩,step⟩:=h s2.heap.objs.size hD0
 dsimp only at hns₁ hsb₁ ⊢
 have I3 : Inv X pins σ (upd H2 s2.heap.objs.size (.lst [])) { s2 with heap:=s2.heap.push { cls:=.type "list",dict:=none,data:=.seq ([] : List Value).toArray } } :=
  I2.laid (t' := s2.toks) (fun b u q=>Heap.get?_push_of_some _ q) (Nat.le_refl _) ⟨Nat.zero_le _,[],0,.nil,Heap.get?_push_size _ rfl⟩
 generalize hH3 : s2.heap.push { cls:=.type "list",dict:=none,data:=.seq ([] : List Value).toArray } = hp3 at hns₁ hsb₁ I3 ⊢
 have hsz3 : hp3.objs.size = s2.heap.objs.size + 1:=by rw [<- hH3,Heap.size_push]
 have k23 : ∀ b o,s2.heap.get? b = some o -> hp3.get? b = some o:=fun b o q=>by rw [<- hH3]; exact Heap.get?_push_of_some _ q
 have flt : ∀ b ∈ fp,b < s2.heap.objs.size:=fun b hb=>by
  obtain ⟨o,q,_⟩:=T.obj 0 _ st2 b hb
  exact Heap.lt_size q
 have f3 : ∀ b ∈ fp,FpOk X pins (upd H2 s2.heap.objs.size (.lst [])) b:=fun b hb=>by
  obtain ⟨g0,g⟩:=f2 b hb
  exact ⟨by rw [yal (Nat.ne_of_lt (flt b hb))]; exact g0,g⟩
 have kC : ∀ b o,hp3.get? b = some o -> h₁.get? b = some o:=fun b o q=>(hsb₁.2 b (Nat.ne_of_lt (Heap.lt_size q))).trans (Heap.get?_push_of_some _ q)
 have B0:=I3.block (x₁:=x₁) (jf:=jf) (scope:=scope) (fp:=fp) (h1:=h₁) (tk:=s2.toks + ([] : List (Str × Value)).length) f3 (fun b hb=>by show b < hp3.objs.size; rw [hsz3]; exact Nat.lt_succ_of_lt (flt b hb)) hjf hjl hkind hcell hfr (by simpa using hns₁) kC
 have st4 : tn 0 h₁:=T.keep _ _ _ st2 fun b _ o q=>kC b o (k23 b o q)
 have w0' := w0
 have stat : ∀ {H' : Hp},(∀ b ∈ fp,H' b = none) -> ∀ b ∈ fp,FpOk (yaY X pins x₁ jf scope (yaL X.env scope.names []) { s2 with heap:=hp3 } (upd H2 s2.heap.objs.size (.lst [])) fp) [] H' b:=fun hn b hb=>by
  obtain ⟨_,g1,g2,g3,g4,g5⟩:=f2 b hb
  refine ⟨hn b hb,Nat.ne_of_lt (by show b < hp3.objs.size; rw [hsz3]; exact Nat.lt_succ_of_lt (flt b hb)),fun z=>?_,.inl hb,fun y c q=>g4 y c (zcs hsome (fun y c e=>by simp at e) y c q),fun p hp=>g5 p (by simpa [yaY] using hp)⟩
  rcases List.mem_cons.mp (I2.stkSub b z) with q | q
  ·exact g1 q
  ·exact g2 q
 have loop : codeAny (model X.prog X.w) X.A (.compLoop (.ListComp elt [⟨.Name x₁ px,iter,ifs,0⟩] scope pos) 0 (.ref it) (.ref s2.heap.objs.size) (compEnvC scope (yaL X.env scope.names []) hp3.objs.size X.env))
   (compPost (model X.prog X.w) X.A X.xe use Qf (.ref s2.heap.objs.size) hp3.objs.size) { s2 with heap:=h₁,toks:=s2.toks + ([] : List (Str × Value)).length }:=by
  refine zea (fun n s' => ∃ i ys H',Inv (yaY X pins x₁ jf scope (yaL X.env scope.names []) { s2 with heap:=hp3 } (upd H2 s2.heap.objs.size (.lst [])) fp) [] (ybq none jf σ) H' s' /\ tn i s'.heap /\ (∀ b ∈ fp,H' b = none) /\ W i n ys H') ?_ m0
   ⟨0,[],_,B0,st4,fun b hb=>(f3 b hb).1,w0⟩
  rintro n s5 ⟨i,ys,H5,I5,st5,fr5,w5⟩
  obtain ⟨hD5,alt⟩:=step i n ys H5 w5
  rcases alt with ⟨stop,q5⟩ | ⟨go,hlen,next⟩
  ·refine wpAny_mono (T.done (yaY X pins x₁ jf scope (yaL X.env scope.names []) { s2 with heap:=hp3 } (upd H2 s2.heap.objs.size (.lst [])) fp) rfl rfl rfl hcalm i [] s5 _ H5 (fun _ _=>False) I5 (stat fr5) st5 stop) (fun r s6 ⟨hr,I6⟩=>?_) fun _ _ z=>z
   subst hr
   obtain ⟨m6,hn6,_⟩:=id I6.loc
   refine fin _ _ s6 H5 m6 ?_ q5 (I3.fpOk (Nat.le_refl _) I6.free) hn6
   refine I3.call' (ch:=fp) I6.os I6.base I6.hok I6.bare (fun b hb=>?_)
   obtain ⟨_,g1,g2,g3,g4,g5⟩:=f2 b hb
   exact ⟨g3,g1,g4,g5⟩
  ·refine wpAny_mono (T.item (yaY X pins x₁ jf scope (yaL X.env scope.names []) { s2 with heap:=hp3 } (upd H2 s2.heap.objs.size (.lst [])) fp) rfl rfl rfl hcalm i [] s5 _ H5 (fun _ _=>False) I5 (stat fr5) st5 go) (fun r s6 ⟨u,hr,h6⟩=>?_) fun _ _ z=>z
   subst hr
   refine wpAny_mono h6 (fun _ s7 ⟨x,H7,I7,r7,y7,st7,fr7⟩=>?_) fun _ _ z=>z
   have I7' := I7.pinned (stat fr7) (T.obj _ _ st7)
   have hloc : Loc (yaY X pins x₁ jf scope (yaL X.env scope.names []) { s2 with heap:=hp3 } (upd H2 s2.heap.objs.size (.lst [])) fp).env.scope x₁:=.inl (lookup_relabel_local hx)
   refine wpAny_assign_Name (zcp (i:=0) I7' hN rfl hloc r7 (fun s8 I8=>?_) (.inr (lookup_relabel_local hx)))
   have q8:=next x H7 y7
   have I8' : Inv (yaY X pins x₁ jf scope (yaL X.env scope.names []) { s2 with heap:=hp3 } (upd H2 s2.heap.objs.size (.lst [])) fp) ([]++ycq fp s7.heap) (ybq (some x) jf σ) H7 s8:=I8
   have again : ∀ {s9 : Shared} {H9 : Hp} {zs : List V} {m' : Nat},Inv (yaY X pins x₁ jf scope (yaL X.env scope.names []) { s2 with heap:=hp3 } (upd H2 s2.heap.objs.size (.lst [])) fp) ([]++ycq fp s7.heap) (ybq (some x) jf σ) H9 s9 -> m' < n -> W (i + 1) m' zs H9 ->
     ∃ m,m < n /\ ∃ i ys H',Inv (yaY X pins x₁ jf scope (yaL X.env scope.names []) { s2 with heap:=hp3 } (upd H2 s2.heap.objs.size (.lst [])) fp) [] (ybq none jf σ) H' s9 /\ tn i s9.heap /\ (∀ b ∈ fp,H' b = none) /\ W i m ys H' := fun {s9 H9 zs m'} I9 hm w9=>by
    refine ⟨m',hm,i + 1,zs,H9,I9.unpinned.weak (by simp [ybq]) (fun j v e=>?_),T.keep _ _ _ st7 fun b hb o e=>(I9.pin (b,o) (List.mem_append_right _ (List.mem_append_right _ (za6 hb e)))).1,fun b hb=>?_,w9⟩
    ·cases j with
     | zero=>simp [ybq] at e
     | succ j=>simpa [ybq] using e
    ·obtain ⟨o,e,d⟩:=T.obj _ _ st7 b hb
     exact (I9.pin (b,o) (List.mem_append_right _ (List.mem_append_right _ (za6 hb e)))).2.1
   refine wpAny_mono (hc pins _ _ _ fp ([]++ycq fp s7.heap) s8 _ H7 _ I8' q8) (fun ok s9 ⟨H9,I9,q9⟩=>?_) fun _ _ z=>z
   cases ok with
   | false =>
    rw [if_neg Bool.false_ne_true] at q9 ⊢
    obtain ⟨m',hm,w9⟩:=q9
    exact again I9 hm w9
   | true =>
    rw [if_pos rfl] at q9 ⊢
    refine wpAny_mono (he pins _ _ _ fp ([]++ycq fp s7.heap) s9 _ H9 _ I9 q9) (fun y s10 ⟨v,H10,I10,r10,hD10,m',hm,w10⟩=>?_) fun _ _ z=>z
    refine wpAny_mono (zdu (X:=(yaY X pins x₁ jf scope (yaL X.env scope.names []) { s2 with heap:=hp3 } (upd H2 s2.heap.objs.size (.lst [])) fp)) ([]++ycq fp s7.heap) s10 (ybq (some x) jf σ) H10 (.ref s2.heap.objs.size) [v] (.ref s2.heap.objs.size) [y] (fun _ H' => H' = upd H10 s2.heap.objs.size (.lst (ys++[v]))) I10 rfl (.cons r10 .nil) ⟨_,ys,v,rfl,rfl,hD10,hlen,rfl⟩)
     (fun _ s11 ⟨_,H11,I11,_,e11⟩=>?_) fun _ _ z=>z
    subst e11
    exact again I11 hm w10
 exact codeAny_compStart_list loop (T.self _ 0 _ _ _ st4 loop)
theorem zim (hcalm : X.calm = true) (hi : PI X (.Name x₁ px) iter wi) (hc : ∀ pins cl s H fp,PTs (yaY X pins x₁ jf scope cl s H fp) ifs tc) (he : ∀ pins cl s H fp,PE (yaY X pins x₁ jf scope cl s H fp) elt te)
  (hN : (x₁ :: jf.map (·.2)).Nodup) (hx : scope.names.lookup x₁ = some .local) (hjf : ∀ p ∈ jf,X.N[p.1]? = some p.2) (hjl : ∀ p ∈ jf,scope.names.lookup p.2 = some .free) (hkind : scope.kind = .function)
  (hcell : ∀ y ∈ scope.names,y.2 ≠ .cell) (hfr : ∀ y ∈ scope.names,y.2 = .free -> X.env.kindOf y.1 = some .cell \/ X.env.kindOf y.1 = some .free)
  (hnames : ∀ y ∈ scope.names,y.2 = .local -> scope.names.lookup y.1 = some .local) (hs : ∀ x,foldedSetIterable iter X.env x = pure x:=by intro _; rfl) :
  PE X (.ListComp elt [⟨.Name x₁ px,iter,ifs,0⟩] scope pos) (yd6 jf wi tc te):=by
 intro pins s σ H Q I h
 rw [eval_ListComp]
 refine zeb hcalm hi hc he hN hx hjf hjl hkind hcell hfr hnames (use:=none) (Qf:=EP X pins σ Q) I h (fun D C s6 H6 m6 I6 q6 f6 n6=>?_) hs
 refine ⟨m6,n6,fun h' hs' => ⟨.ref D,H6,?_,rfl,q6⟩⟩
 exact I6.turnedL (fp:=[C]) (t' := s6.toks) (fun b o hb q=>(hs'.2 b (fun z=>hb (by simp [z]))).trans q) (fun b hb=>by
  have e : b = C:=by simpa using hb
  subst e
  exact f6)
theorem zin {y : Str} {py spos : Pos} {i : Nat} (hcalm : X.calm = true) (hi : PI X (.Name x₁ px) iter wi) (hc : ∀ pins cl s H fp,PTs (yaY X pins x₁ jf scope cl s H fp) ifs tc) (he : ∀ pins cl s H fp,PE (yaY X pins x₁ jf scope cl s H fp) elt te)
  (hN : (x₁ :: jf.map (·.2)).Nodup) (hx : scope.names.lookup x₁ = some .local) (hjf : ∀ p ∈ jf,X.N[p.1]? = some p.2) (hjl : ∀ p ∈ jf,scope.names.lookup p.2 = some .free) (hkind : scope.kind = .function)
  (hcell : ∀ y ∈ scope.names,y.2 ≠ .cell) (hfr : ∀ y ∈ scope.names,y.2 = .free -> X.env.kindOf y.1 = some .cell \/ X.env.kindOf y.1 = some .free)
  (hnames : ∀ y ∈ scope.names,y.2 = .local -> scope.names.lookup y.1 = some .local) (hNX : X.N.Nodup) (hi' : X.N[i]? = some y) (hy : X.env.scope.names.lookup y = some .local)
  (hsw : swapsWith (.ListComp elt [⟨.Name x₁ px,iter,ifs,0⟩] scope pos) (some (.Name y py)) spos.line X.env = pure true) (hs : ∀ x,foldedSetIterable iter X.env x = pure x:=by intro _; rfl) :
  PS X (.Assign [.Name y py] (.ListComp elt [⟨.Name x₁ px,iter,ifs,0⟩] scope pos) spos) (tAsg (yd6 jf wi tc te) (yeo i)):=by
 intro pins s σ H D I h
 rw [exec_Assign_Name_used _ _ _ _ hsw]
 refine wpAny_bind (wpAny_standAt (wpAny_bind ?_))
 show wpAny _ X.A (do let _ <- comprehension (.ListComp elt [⟨.Name x₁ px,iter,ifs,0⟩] scope pos) scope X.env _ (newList []) false (eval iter X.env) (some (assign (.Name y py) X.env))) _ _ s
 refine wpAny_bind (wpAny_mono (zeb (Qf:=fun _ s' => SP X pins D .next s') hcalm hi hc he hN hx hjf hjl hkind hcell hfr hnames (use:=some (assign (.Name y py) X.env)) I h (fun D' C s6 H6 m6 I6 q6 f6 n6=>?_) hs) (fun _ s' hq=>wpAny_pure (wpAny_pure hq)) fun _ _ e=>e)
 refine wpAny_assign_Name (zdo I6 hNX hi' (.inl hy) (v:=.ref D') rfl (fun s7 I7 ⟨a,hsa,ha⟩=>?_) (.inr hy))
 have ne : C ≠ a:=by
  rcases ha with z | z
  ·rw [z]; exact f6.2.1
  ·exact fun q=>f6.2.2.2.2.1 y a z q.symm
 refine ⟨m6,n6.sameBut hsa ne,fun h' hs' => ⟨_,H6,?_,q6⟩⟩
 exact I7.turnedL (fp:=[C]) (t' := s7.toks) (fun b o hb q=>(hs'.2 b (fun z=>hb (by simp [z]))).trans q) (fun b hb=>by
  have e : b = C:=by simpa using hb
  subst e
  exact f6)
end
end L2
namespace L2
open PySem PySem.Spec PyProof.Rows
section
variable {X : Cx} {a b e : Expr} {ta tb : TE} {p p2 pos : Pos}
theorem zec {c : V} {cv : Value} (rc : ∀ u,RelV c u -> u = cv) :
  CallR X (.builtin "isinstance") (fun xs H Q=>∃ x t r,xs = [x,c] /\ TyOf X.K H x t /\ PySem.W.kitOne X.K t cv = some r /\ Q (.bl r) H):=by
 intro pins s σ H xs us Q I r h
 obtain ⟨x,t,k,rfl,ty,hk,q⟩:=h
 obtain ⟨u,w',rfl,rx,ry⟩:=yeU r
 obtain rfl:=rc _ ry
 exact zgg I rx ty hk fun tk=>⟨.bl k,H,I.tok _,rfl,q⟩
theorem yfU (n : String) : ∀ u,RelV (.ty n) u -> u = Value.type n:=fun _ r=>r
theorem ygR (c : Addr) : ∀ u,RelV (.ref c) u -> u = Value.ref c:=fun _ r=>r
theorem zgp : OpR X (compareOp .LtE) (fun x y H Q=>∃ i j,x = .str i /\ y = .str j /\ Q (.bl (!decide (j.cps.toList < i.cps.toList))) H):=by
 intro pins s σ H x y v u Q I rx ry h
 obtain ⟨i,j,rfl,rfl,q⟩:=h
 obtain ⟨t,rfl⟩:=rx
 obtain ⟨t',rfl⟩:=ry
 exact PySem.P.le_str (yaH I q rfl)
theorem zed : MtR X "str.count" (fun x vs H Q=>∃ z y,x = .str z /\ vs = [.str y] /\ Q (.int ((Builtin.Str.occurrences z y 0 z.length (z.length + 1)).length : Nat)) H):=by
 intro pins s σ H x vs v us Q I rx rv h
 obtain ⟨z,y,rfl,rfl,q⟩:=h
 obtain ⟨t,rfl⟩:=rx
 obtain ⟨u,rfl,t',rfl⟩:=ybP rv
 exact call_gives F.slot_str_count (typeIs_str s z t) F.entry_str_count (F.args_str_count_2 _ _) (gives_str_count z y t t') ⟨.int _,H,I.tok _,⟨_,rfl⟩,q⟩
theorem zhm (hc : X.calm = true) : CallR X (.builtin "all") (fun xs H Q=>∃ (a : Addr) (bs : List Bool),xs = [.ref a] /\ SqL X.K H a (bs.map V.bl) /\ Q (.bl (bs.all id)) H):=by
 intro pins s σ H xs us Q I r h
 obtain ⟨l,bs,rfl,hq,q⟩:=h
 obtain ⟨u,rfl,rx⟩:=ybP r
 cases rx
 obtain ⟨its,rv,pl,hz⟩:=I.list hq
 have hlt : l < s.heap.objs.size:=by obtain ⟨_,_,e,_⟩:=pl; exact Heap.lt_size e
 have hlen : its.length = bs.length:=by rw [<- rv.length,List.length_map]
 refine call_all_walk (wpAny_pyIter_list pl.isList ?_)
 refine ⟨s.heap.objs.size,[s.heap.objs.size,l],[s.heap.objs.size],its.toArray.size,_,_,fun i=>(bs[i]?).getD true,rfl,Walks.list (A:=X.A.in1) (I.ok.hd hc) _ l (Nat.ne_of_lt hlt) its.toArray,
  ⟨⟨_,Heap.get?_push_size _ rfl,rfl,rfl⟩,pl.isList.push _⟩,fun i v s' Q' E' hP hQ=>?_,fun h' tk hk=>?_⟩
 ·have hP' : its[i]? = some v:=by simpa using hP
  have hi : i < its.length:=(List.getElem?_eq_some_iff.mp hP').1
  have hb : (bs.map V.bl)[i]? = some (V.bl (bs[i]'(by omega))):=by rw [List.getElem?_map,List.getElem?_eq_getElem (by omega)]; rfl
  obtain ⟨u,hu,ru⟩:=rv.get hb
  rw [hP'] at hu
  cases hu
  cases ru
  have e : (bs[i]?).getD true = bs[i]'(by omega):=by rw [List.getElem?_eq_getElem (by omega)]; rfl
  have hQ2 : Q' ((bs[i]?).getD true) s' := hQ
  rw [e] at hQ2
  exact wpAny_truthy_bool hQ2
 ·have e : ((List.range its.toArray.size).all fun i=>(bs[i]?).getD true) = bs.all id:=by
   rw [List.size_toArray,hlen,Bool.eq_iff_iff,List.all_eq_true,List.all_eq_true]
   constructor
   ·intro z c hc'
    obtain ⟨i,hi,rfl⟩:=List.getElem_of_mem hc'
    have:=z i (List.mem_range.mpr hi)
    rw [List.getElem?_eq_getElem hi] at this
    exact this
   ·intro z i hi
    have hi' := List.mem_range.mp hi
    rw [List.getElem?_eq_getElem hi']
    exact z _ (List.getElem_mem hi')
  rw [e]
  refine ⟨.bl _,H,I.kept (t' := tk) fun b o q=>?_,rfl,q⟩
  exact hk b o (fun hm=>by rw [List.mem_singleton.mp hm] at q; exact Nat.lt_irrefl _ (Heap.lt_size q)) (Heap.get?_push_of_some _ q)
end
end L2
namespace L2
open PySem PySem.Spec PyProof.Rows
section
variable {X : Cx}
theorem zhn : OpR X (binaryOp .FloorDiv) (rI (fun _ j=>0 < j /\ j < 2 ^ 200) fun i j=>.int (i / j)):=opI fun i j _ _ _ _ _ hc q=>by
 obtain ⟨h1,h2⟩:=hc
 refine floordiv_int (by omega) (by rw [Int.fdiv_eq_ediv_of_nonneg i (by omega)]; exact q) (.inl (PyProof.noPylong_of_log2 ?_))
 have h3 : j.natAbs < 2 ^ 200:=by omega
 have h4 : j.natAbs.log2 < 200:=(Nat.log2_lt (by omega)).mpr h3
 omega
theorem zho : OpR X (binaryOp .Mult) (rI IntMulOk fun i j=>.int (i * j)):=opI fun _ _ _ _ _ _ _ hc q=>mul_int q hc
end
end L2
namespace L2
open PySem PySem.Spec PyProof.Rows
theorem yeE : bootBuiltins "int" = some (.type "int"):=by decide +kernel
theorem zio : bootBuiltins "bool" = some (.type "bool"):=by decide +kernel
theorem ycL : bootBuiltins "str" = some (.type "str"):=by decide +kernel
end L2
namespace L2
open PySem PySem.Spec PyProof.Rows
theorem ObjOk.some {P : Program} {w : World} {H : Hp} {h : Heap} {a : Addr} {o : HO} (x : ObjOk P w H h a o) : ∃ ob,h.get? a = Option.some ob:=by
 cases o with
 | lst xs=>obtain ⟨_,_,_,_,e⟩:=x; exact ⟨_,e⟩
 | tup xs=>obtain ⟨_,_,_,o,e,_⟩:=x; exact ⟨o,e⟩
 | dK kvs=>obtain ⟨_,_,_,_,o,_,_,e,_⟩:=x; exact ⟨_,e⟩
 | dT xc kvs=>obtain ⟨_,_,_,_,o,_,_,e,_⟩:=x; exact ⟨_,e⟩
 | set S n=>obtain ⟨o,_,_,_,e,_⟩:=x; exact ⟨_,e⟩
 | ins C dx fs=>obtain ⟨_,_,_,e,_⟩:=x; exact ⟨_,e⟩
 | own y=>obtain ⟨_,e⟩:=x; exact ⟨_,e⟩
 | xd fs=>obtain ⟨_,⟨_,_,_,e,_⟩,_⟩:=x; exact ⟨_,e⟩
 | rng lo hi=>obtain ⟨_,_,_,e⟩:=x; exact ⟨_,e⟩
 | frz ob u=>obtain ⟨e,_⟩:=x; exact ⟨_,e⟩
 | tbl ps=>exact ⟨_,(show h.get? a = Option.some _ from x)⟩
 | met f y=>exact ⟨_,(show h.get? a = Option.some _ from x)⟩
 | ext φ=>obtain ⟨_,⟨_,e⟩,_⟩:=x; exact ⟨_,e⟩
def Firm (X : Cx) (pins : List (Addr × Obj)) (H : Hp) (h B : Heap) : Prop :=
 ∀ b o,h.get? b = some o -> b ∉ frs X.stack -> ((∃ u,H b = some u) \/ (∃ o',X.s₀.heap.get? b = some o') \/ ∃ p ∈ X.pn++pins,p.1 = b) -> B.get? b = some o
section
variable {X : Cx} {pins : List (Addr × Obj)} {σ : St} {H : Hp} {s : Shared}
theorem Inv.nofr (I : Inv X pins σ H s) {b : Addr} {o : Obj} (e : X.s₀.heap.get? b = some o) (hb : b ∉ X.fs) : b ∉ frs X.stack:=fun z=>by
 rcases List.mem_cons.mp (I.stkSub b z) with q | q
 ·exact Nat.ne_of_lt (Nat.lt_of_lt_of_le (Heap.lt_size e) I.ok.above) q
 ·exact hb q
theorem Inv.nofrT (I : Inv X pins σ H s) {b : Addr} {u : HO} (e : H b = some u) : b ∉ frs X.stack:=fun z=>by
 have q:=I.stkFree b z
 rw [q] at e
 cases e
theorem Inv.nofrP (I : Inv X pins σ H s) {p : Addr × Obj} (hp : p ∈ X.pn++pins) : p.1 ∉ frs X.stack:=fun z=>by
 obtain ⟨_,_,ne,nf,_⟩:=I.pin p hp
 rcases List.mem_cons.mp (I.stkSub p.1 z) with q | q
 ·exact ne q
 ·exact nf q
theorem Inv.flown {B h' : Heap} {t' : Nat} (I : Inv X pins σ H s) (hex : X.ex = []) (F : Firm X pins H s.heap B) (st : B.StaysIn h') (sm : s.heap.UpToSlots h') : Inv X pins σ H { s with heap:=h',toks:=t' }:=by
 have nx : ∀ b,b ∉ X.ex:=fun b z=>by rw [hex] at z; cases z
 refine ⟨I.ok,I.os,I.bare,⟨fun b o e n hb hx=>?_,fun b o e n hb hx=>?_,I.base.free,fun b o e hx=>?_,I.base.tups,I.base.frzs,I.base.tbls⟩,?_,fun x c e=>?_,I.free,I.freeC,fun p hp=>?_,fun b u e=>?_,I.len⟩
 ·exact st b o (F b o (I.base.keep b o e n hb hx) (I.nofr e hb) (.inr (.inl ⟨o,e⟩)))
 ·obtain ⟨sl,q⟩:=I.base.slot b o e n hb hx
  obtain ⟨_,o',ho',hd⟩:=I.funs.mem hb
  rw [q] at ho'
  cases ho'
  obtain ⟨sl',q'⟩:=sm b _ q hd
  exact ⟨sl',q'⟩
 ·obtain ⟨o',q⟩:=I.base.there b o e hx
  by_cases hb : b ∈ X.fs
  ·obtain ⟨_,o'',ho'',hd⟩:=I.funs.mem hb
   rw [q] at ho''
   cases ho''
   obtain ⟨sl',q'⟩:=sm b _ q hd
   exact ⟨_,q'⟩
  ·exact ⟨o',st b o' (F b o' q (I.nofr e hb) (.inr (.inl ⟨o,e⟩)))⟩
 ·obtain ⟨m,hn,hl⟩:=I.loc
  refine ⟨m,sm.ns hn,fun i x v e1 e2 e3=>?_⟩
  obtain ⟨u,r,l⟩:=hl i x v e1 e2 e3
  refine ⟨u,r,?_⟩
  rcases l with l | ⟨k,c,e,o,ho,hd⟩
  ·exact .inl l
  ·obtain ⟨sl,q⟩:=sm c o ho fun vs z=>by rw [hd] at z; cases z
   exact .inr ⟨k,c,e,_,q,hd⟩
 ·obtain ⟨v,o,ho,hd⟩:=I.cell x c e
  obtain ⟨sl,q⟩:=sm c o ho fun vs z=>by rw [hd] at z; cases z
  exact ⟨v,_,q,hd⟩
 ·obtain ⟨e,n,ne,nf,d⟩:=I.pin p hp
  exact ⟨st _ _ (F _ _ e (I.nofrP hp) (.inr (.inr ⟨p,hp,rfl⟩))),n,ne,nf,d⟩
 ·refine (I.hok b u e).stay (fun c v hc q=>?_) (fun _ q=>q) fun _ _ q=>q
  rcases hc with z | z
  ·subst z
   exact st _ _ (F _ _ q (I.nofrT e) (.inl ⟨_,e⟩))
  ·exact st _ _ (F _ _ q (I.nofrT z) (.inl ⟨_,z⟩))
theorem Inv.adopt0 {T : Addr} {ob : HO} (I : Inv X pins σ H s) (hn : H T = none) (hT : X.s₀.heap.get? T = none) (hL : T ≠ X.env.locals) (hc : ∀ x c,X.env.cells.lookup x = some c -> c ≠ T)
  (hp : ∀ p ∈ X.pn++pins,p.1 ≠ T) (new : ObjOk X.prog X.w (upd H T ob) s.heap T ob) : Inv X pins σ (upd H T ob) s:=by
 have hne : ∀ b u,H b = some u -> b ≠ T:=fun b u e=>zaj e hn
 have hs : ∀ b o,X.s₀.heap.get? b = some o -> b ≠ T:=fun b o e z=>by rw [z,hT] at e; cases e
 refine ⟨I.ok,I.os,I.bare,⟨I.base.keep,I.base.slot,fun b o e n hx=>by rw [yal (hs b o e)]; exact I.base.free b o e n hx,I.base.there,fun b xs e=>?_,fun b o u e=>?_,fun b ps e=>?_⟩,I.loc,I.cell,by rw [yal (Ne.symm hL)]; exact I.free,fun x c e=>by rw [yal (hc x c e)]; exact I.freeC x c e,fun p hp' => ?_,fun b u e=>?_,I.len⟩
 ·have q:=I.base.tups b xs e
  rw [yal (hne b _ q)]; exact q
 ·have q:=I.base.frzs b o u e
  rw [yal (hne b _ q)]; exact q
 ·obtain ⟨more,q⟩:=I.base.tbls b ps e
  exact ⟨more,by rw [yal (hne b _ q)]; exact q⟩
 ·obtain ⟨e,n,ne,nf,d⟩:=I.pin p hp'
  exact ⟨e,by rw [yal (hp p hp')]; exact n,ne,nf,d⟩
 ·by_cases hb : b = T
  ·subst hb; rw [zaf] at e; cases e; exact new
  ·rw [yal hb] at e
   exact (I.hok b u e).stay (fun c v _ q=>q) (fun c q=>by rw [yal (hne c _ q)]; exact q) fun c xs q=>by rw [yal (hne c _ q)]; exact q
end
structure Arr (X : Cx) (pins : List (Addr × Obj)) (σ : St) (H : Hp) (a : Addr) (cls : Value) (s : Shared) : Prop where
 inv : Inv X pins σ H s
 un : H a = none
 new : X.s₀.heap.get? a = none
 nl : a ≠ X.env.locals
 nc : ∀ x c,X.env.cells.lookup x = some c -> c ≠ a
 np : ∀ p ∈ X.pn++pins,p.1 ≠ a
 fly : ∃ B a0,Firm X pins H s.heap B /\ B.StaysIn s.heap /\ B.get? a = none /\ s.heap.FunFrames B X.stack /\
  ((∃ oe vs,s.heap.get? a = some oe /\ oe.cls = cls /\ oe.data = .fields vs /\ vs[0]? = some a0 /\ vs[1]? = some .none) \/ s.heap.TracedW B a cls a0)
def CXE (P : Program) (w : World) : CXT:=fun outer H s E e s' => ∃ (a : Addr) (cls a0 : Value) (H' : Hp) (B : Heap),e = .ref a /\ s'.os = s.os /\ AllBare s'.gens /\ Un (frs outer) [] H H' s.heap s'.heap /\ HOk P w H' s'.heap /\
 Heap.FlyingW B outer a cls a0 s'.heap /\ (∀ b o,s'.heap.get? b = some o -> b ∉ frs outer -> ((∃ u,H' b = some u) \/ ∃ o',s.heap.get? b = some o') -> B.get? b = some o) /\ H' a = none /\ s.heap.get? a = none /\ E cls none H'
section
variable {X : Cx} {pins : List (Addr × Obj)} {σ : St} {H : Hp} {s : Shared}
theorem zee {h' : Heap} {e : Addr} {cls : Value} {args : List Value} {t' : Nat} (I : Inv X pins σ H s) (hex : X.ex = []) (hx : Heap.MadeExcOf s.heap h' e cls args) : Arr X pins σ H e cls { s with heap:=h',toks:=t' }:=by
 have nx : ∀ b,b ∉ X.ex:=fun b z=>by rw [hex] at z; cases z
 have none_of : ∀ b o,s.heap.get? b = some o -> b ≠ e:=fun b o q z=>by rw [z,hx.new] at q; cases q
 have eq_of : ∀ b o o1,h'.get? b = some o -> s.heap.get? b = some o1 -> o1 = o:=fun b o o1 q q1=>by
  have z:=hx.keeps b o1 q1
  rw [q] at z
  exact (Option.some.inj z).symm
 obtain ⟨t,he,_,_⟩:=hx.there
 refine ⟨I.kept hx.keeps,?_,?_,fun z=>?_,fun x c q z=>?_,fun p hp z=>?_,PySem.W.hideAll s.heap (frs X.stack),.ref t,fun b o q nb alt=>?_,fun b o q=>hx.keeps b o (PySem.W.of_hideAll _ q),?_,?_,.inl ⟨_,_,he,rfl,rfl,rfl,rfl⟩⟩
 ·cases q : H e with
  | none=>rfl
  | some u =>
   obtain ⟨ob,z⟩:=(I.hok e u q).some
   exact absurd rfl (none_of e ob z)
 ·cases q : X.s₀.heap.get? e with
  | none=>rfl
  | some o =>
   obtain ⟨ob,z⟩:=I.base.there e o q (nx e)
   exact absurd rfl (none_of e ob z)
 ·obtain ⟨m,⟨o,_,_,ho,_⟩,_⟩:=I.loc
  exact none_of _ o ho z.symm
 ·obtain ⟨v,o,ho,_⟩:=I.cell x c q
  exact none_of _ o ho z
 ·exact none_of _ _ (I.pin p hp).1 z
 ·have there : ∃ o1,s.heap.get? b = some o1:=by
   rcases alt with ⟨u,q'⟩ | ⟨o',q'⟩ | ⟨p,hp,rfl⟩
   ·exact (I.hok b u q').some
   ·exact I.base.there b o' q' (nx b)
   ·exact ⟨_,(I.pin p hp).1⟩
  obtain ⟨o1,q1⟩:=there
  rw [<- eq_of b o o1 q q1]
  exact PySem.W.hideAll_get _ q1 nb
 ·cases q : (PySem.W.hideAll s.heap (frs X.stack)).get? e with
  | none=>rfl
  | some o=>exact absurd rfl (none_of e o (PySem.W.of_hideAll _ q))
 ·refine (PySem.W.funFrames_hide I.stack fun env henv b hb=>List.mem_filterMap.mpr ⟨env,henv,hb⟩).of_keeps fun b o q _=>⟨o,hx.keeps b o q,rfl⟩
theorem zef {E : XK} {e : Value} {s' : Shared} (I : Inv X pins σ H s) (hex : X.ex = []) (h : CXE X.prog X.w X.stack H s E e s') : ∃ a cls H',e = .ref a /\ Arr X pins σ H' a cls s' /\ E cls none H' := by
 obtain ⟨a,cls,a0,H',B,rfl,os,bare,un,hok,⟨f1,f2,f3,f4⟩,ext,na,ns,q⟩:=h
 have nx : ∀ b,b ∉ X.ex:=fun b z=>by rw [hex] at z; cases z
 have none_of : ∀ b o,s.heap.get? b = some o -> b ≠ a:=fun b o q z=>by rw [z,ns] at q; cases q
 refine ⟨a,cls,H',rfl,⟨I.call' (ch:=[]) os un hok bare (fun b z=>absurd z (by simp)),na,?_,fun z=>?_,fun x c q z=>?_,fun p hp z=>?_,B,a0,fun b o q nb alt=>?_,f1,f2,f3,.inr f4⟩,q⟩
 ·cases q : X.s₀.heap.get? a with
  | none=>rfl
  | some o =>
   obtain ⟨ob,z⟩:=I.base.there a o q (nx a)
   exact absurd rfl (none_of a ob z)
 ·obtain ⟨m,⟨o,_,_,ho,_⟩,_⟩:=I.loc
  exact none_of _ o ho z.symm
 ·obtain ⟨v,o,ho,_⟩:=I.cell x c q
  exact none_of _ o ho z
 ·exact none_of _ _ (I.pin p hp).1 z
 ·refine ext b o q nb ?_
  rcases alt with ⟨u,q'⟩ | ⟨o',q'⟩ | ⟨p,hp,rfl⟩
  ·exact .inl ⟨u,q'⟩
  ·exact .inr (I.base.there b o' q' (nx b))
  ·exact .inr ⟨_,(I.pin p hp).1⟩
theorem Arr.land {a : Addr} {cls : Value} {Q : Unit -> Shared -> Prop} {E : Value -> Shared -> Prop} {M : Model} {A : Around} (R : Arr X pins σ H a cls s) (hex : X.ex = []) (hfr : A.frames = some X.stack) {outer : List Env} (hst : X.stack = X.env :: outer) (hf : X.env.frame = some X.env.locals)
  (hQ : ∀ h' B a0,Firm X pins H s.heap B -> Heap.FlyingW B X.stack a cls a0 h' -> s.heap.UpToSlots h' -> Inv X pins σ H { s with heap:=h' } -> Q () { s with heap:=h' }) :
  wpAny M A (noteFrame (.ref a) X.env) (fun _ s₂=>wpAny M A (setFlight (.ref a) none) Q E s₂) E s:=by
 obtain ⟨B,a0,fm,st,hb,ff,alt⟩:=R.fly
 have after : ∀ h4,Heap.HeldW B X.stack a cls a0 X.env.locals h4 -> s.heap.UpToSlots h4 -> wpAny M A (setFlight (.ref a) none) Q E { s with heap:=h4 }:=fun h4 hh sm=>by
  refine wpAny_landsW (s:={ s with heap:=h4 }) hh fun h5 fl sm5=>?_
  have sm' : s.heap.UpToSlots h5:=sm.trans sm5
  exact hQ h5 B a0 fm fl sm' (R.inv.flown (t' := s.toks) hex fm fl.1 sm')
 rw [hst] at hfr
 rw [hst] at ff
 rcases alt with ⟨oe,vs,he,hc,hd,h0,h1⟩ | tr
 ·subst hc
  have hsz : 1 < vs.size:=(Array.getElem?_eq_some_iff.mp h1).1
  unfold noteFrame
  simp only [hf]
  refine wpAny_bind (wpAny_field he hd h1 ?_)
  rw [if_neg (by decide)]
  refine wpAny_entryW hfr ff hf he st hb hd hsz h0 fun h4 hN=>?_
  obtain ⟨k1,k2,k3,k4⟩:=hN
  exact after h4 (by rw [hst]; exact ⟨k1,hb,k2,k3⟩) k4
 ·exact wpAny_looks_onW hfr hf ⟨st,hb,ff,tr⟩ fun h4 hh sm=>after h4 (by rw [hst]; exact hh) sm
theorem zdx {P : Program} {w : World} {K : PySem.W.Frag} {mg : Str -> Option Value} {base : Heap} {N : List Str} {qual : Str} {scope : Scope} {f : Addr} {cd : Value} {A : Around} {outer : List Env} {s0 : Shared} {H0 : Hp} {E : XK} {a : Addr} {cls : Value}
  (R : Arr (cxOf (CXE P w) P w K mg base N qual scope f cd A outer s0 H0 E) pins σ H a cls s) (q : E cls none H) : (cxOf (CXE P w) P w K mg base N qual scope f cd A outer s0 H0 E).xe (.ref a) s:=by
 show wpAny _ _ (leaving _ _) _ _ s
 unfold leaving
 refine wpAny_bind (R.land (E:=fun e' s'' => CXE P w outer H0 s0 E e' s'') rfl R.inv.ok.frames rfl rfl fun h' B a0 fm fl sm I' => ?_)
 have I:=R.inv
 obtain ⟨k1,k2,⟨_,_,k3⟩,k4⟩:=fl
 refine ⟨a,cls,a0,H,B,rfl,I'.os,I'.bare,I'.base,I'.hok,⟨k1,k2,k3,k4⟩,fun b o e nb alt=>?_,R.un,R.new,q⟩
 have nstk : b ∉ frs (cxOf (CXE P w) P w K mg base N qual scope f cd A outer s0 H0 E).stack:=by
  rcases alt with ⟨u,z⟩ | ⟨o',z⟩
  ·exact I.nofrT z
  ·exact I.nofr z nb
 have there : ∃ o1,s.heap.get? b = some o1:=by
  rcases alt with ⟨u,z⟩ | ⟨o',z⟩
  ·exact (I.hok b u z).some
  ·exact I.base.there b o' z (fun z=>absurd (show b ∈ ([] : List Addr) from z) (by simp))
 obtain ⟨o1,q1⟩:=there
 have z : B.get? b = some o1:=fm b o1 q1 nstk (by
  rcases alt with ⟨u,z⟩ | ⟨o',z⟩
  ·exact .inl ⟨u,z⟩
  ·exact .inr (.inl ⟨o',z⟩))
 have z2:=k1 b o1 z
 rw [show (Heap.get? h' b) = some o from e] at z2
 cases z2
 exact z
end
def yb4 (X : Cx) (Ex : St -> XK) : Prop:=∀ (pins : List (Addr × Obj)) (σ : St) (H : Hp) (s : Shared) (a : Addr) (cls : Value),Arr X pins σ H a cls s -> Ex σ cls none H -> X.xe (.ref a) s
def ycn (CX : CXT) (X : Cx) (Ex : St -> XK) : Prop:=∀ (pins : List (Addr × Obj)) (σ : St) (H : Hp) (s : Shared) (e : Value) (s' : Shared),Inv X pins σ H s -> CX X.stack H s (Ex σ) e s' -> X.xe e s'
section
variable {P : Program} {w : World} {K : PySem.W.Frag} {mg : Str -> Option Value} {base : Heap} {N : List Str} {qual : Str} {scope : Scope} {f : Addr} {cd : Value} {A : Around} {outer : List Env} {s0 : Shared} {H0 : Hp} {E : XK}
theorem zaN : yb4 (cxOf (CXE P w) P w K mg base N qual scope f cd A outer s0 H0 E) (fun _=>E):=fun _ _ _ _ _ _ R q=>zdx R q
theorem ze3 : yfd (CXE P w) (cxOf (CXE P w) P w K mg base N qual scope f cd A outer s0 H0 E) E:=fun pins σ H s e s' I h=>by
 obtain ⟨a,cls,H',rfl,R,q⟩:=zef (X:=cxOf (CXE P w) P w K mg base N qual scope f cd A outer s0 H0 E) I rfl h
 exact zdx R q
theorem ygS {X : Cx} : yfd (CXE P w) X E0:=fun _ _ _ _ _ _ _ h=>by
 obtain ⟨_,_,_,_,_,_,_,_,_,_,_,_,_,_,q⟩:=h
 exact q.elim
end
section
variable {X : Cx} {x : Str} {C : Addr} {bm : List Value} {B newId initId : String} {np cpos pos : Pos} {e : Expr} {es : List Expr} {t : TA} {Ex : St -> XK}
def ygT (cls : Value) (Ex : St -> XK) (t : TA) : TS:=fun _ σ H=>t σ H fun vs H1=>vs.length <= 1000 /\ Ex σ cls none H1
theorem zhp (O : OwnCls x C bm newId X.mg X.base) (FB : ExcBaseFacts B newId initId bm) (hc : X.calm = true) (hex : X.ex = []) (hr : yb4 X Ex) (hg : Gl X x) (ha : PA X (e :: es) t)
  (hdb : (x == ("__debug__" : Str)) = false:=by decide) (he : starEach (e :: es) X.env = (false,eval e X.env) :: starEach es X.env:=by rfl) (hpl : (backTo cpos (starEach es X.env)).any (·.1) = false:=by rfl) :
  PS X (.Raise (some (.Call (.Name x np) (e :: es) [] cpos)) none pos) (ygT (.ref C) Ex t):=by
 intro pins s σ H D I h
 obtain ⟨tl,NN,nm,q,bs,hdct,sn,sub,ab,col,dd,k0,k1,k2,k3,k5,mN,hC,hN,hni,T⟩:=O.obj
 refine wpAny_Raise_call_subT (C:=C) (nm:=nm) (q:=q) (N:=NN) (bs:=bs) (bm:=tl) (hdct:=hdct) (sn:=sn) (sub:=sub) (ab:=ab) (col:=col) (dd:=dd) (k0:=k0) (k1:=k1) (k2:=k2) (k3:=k3) (k5:=k5) FB (mN:=mN)
  (T.hasType FB.hasBase) (I.ok.hd hc) (by rw [he]; show (false || (backTo cpos (starEach es X.env)).any (·.1)) = false; rw [hpl]; rfl) hni (zaT I hg O.bound ⟨rfl,?_⟩ hdb)
 have hA:=ha cpos pins s σ H _ I h
 rw [he] at hA ⊢
 refine Calls.evalArgs_plain (thn hA fun us s2 ⟨vs,H1,I1,r1,hl,q1⟩=>⟨rfl,?_,I1.bk _ _ hC,hN.keeps I1.bk,T.keeps I1.bk,fun h' a hm=>hr pins σ H1 _ a _ (zee (t' := s2.toks) I1 hex hm) q1⟩)
 show us.length <= sizeLine
 rw [<- r1.length]
 exact Nat.le_trans hl (by decide)
end
section
variable {X : Cx} {CX : CXT} {k : Nat} {f C : Addr} {fd : FuncData} {ps : List Str} {sp : Sp} {dvs : List V} {ds : List Value} {Ex : St -> XK} {x m : Str} {p pos apos : Pos} {e o : Expr} {es : List Expr} {ta : TE} {t : TA}
theorem zc0 {pins : List (Addr × Obj)} {σ : St} {H : Hp} {s : Shared} {Q : VK} {us : List Value} {vs : List V} (F : FnOk X.prog X.w X.K X.mg X.base CX k f fd ps sp) (hr : Room k X.A) (hb : Binds X.K fd ps ds) (hd : Vals dvs ds) (hx : ycn CX X Ex)
  (I : Inv X pins σ H s) (r : Vals vs us) (h : sp (vs++dvs) H Q (Ex σ)) : wpAny (model X.prog X.w) X.A (call (.ref f) us) (EP X pins σ Q) X.xe s:=by
 have r2 : Vals (vs++dvs) (us++ds):=r.append hd
 have hl : (us++ds).length = ps.length:=by rw [<- r2.length]; exact F.len _ _ _ _ h
 refine wpAny_call (codeAny_mono (F.run X.A X.stack s H ⟨us,[]⟩ (us++ds) (vs++dvs) Q (Ex σ) hr I.env0 (hb s us I.kIn hl) r2 h) fun r s' hq=>?_)
 cases r with
 | error e=>exact hx pins σ H s e s' I hq
 | ok fl =>
  cases fl with
  | ret u=>exact I.after hq
  | next=>exact False.elim hq
  | brk=>exact False.elim hq
  | cont=>exact False.elim hq
def yff (sp : Sp) (dvs : List V) (Ex : St -> XK) (t : TA) : TE:=fun σ H Q=>t σ H fun vs H1=>sp (vs++dvs) H1 Q (Ex σ)
theorem zhq (F : FnOk X.prog X.w X.K X.mg X.base CX k f fd ps sp) (hr : Room k X.A) (hg : Gl X x) (hm : X.mg x = some (.ref f)) (hk : PySem.W.keepIn X.K (.ref f) = true) (hb : Binds X.K fd ps ds) (hd : Vals dvs ds) (hx : ycn CX X Ex)
  (ha : PA X (e :: es) t) (hdb : (x == ("__debug__" : Str)) = false:=by decide) (he : starEach (e :: es) X.env = (false,eval e X.env) :: starEach es X.env:=by rfl) (hpl : (backTo pos (starEach es X.env)).any (·.1) = false:=by rfl) :
  PE X (.Call (.Name x p) (e :: es) [] pos) (yff sp dvs Ex t):=by
 intro pins s σ H Q I h
 refine wpAny_Call_Name_kw (zaT I hg hm ?_ hdb)
 refine PySem.W.callWith_K (h₀:=X.base) I.ok.mod.kin hk (thn (ha pos pins s σ H _ I h) fun us s1 ⟨vs,H1,I1,r,q⟩=>⟨I1.kIn,?_⟩) he hpl
 exact zc0 F hr hb hd hx I1 r q
def yfg (C : Addr) (m : Str) (sp : Sp) (dvs : List V) (Ex : St -> XK) (ta : TE) (t : TA) : TE:=fun σ H Q=>ta σ H fun x H1=>∃ a dx fs,x = .ref a /\ H1 a = some (.ins C dx fs) /\ fs.lookup m = none /\
 t σ H1 fun vs H2=>sp (x :: (vs++dvs)) H2 Q (Ex σ)
theorem zhr {pl : Sem Bool} (he : PE X o ta) (c : Cls X.K C) (hm : Meth X.K C m f) (F : FnOk X.prog X.w X.K X.mg X.base CX k f fd ps sp) (hr : Room k X.A) (hb : Binds X.K fd ps ds) (hd : Vals dvs ds) (hx : ycn CX X Ex) (ha : PA X (e :: es) t)
  (hst : starEach (e :: es) X.env = (false,eval e X.env) :: starEach es X.env:=by rfl) (hpl : (backTo pos (starEach es X.env)).any (·.1) = false:=by rfl)
  (ht : eval (.Call (.Attribute o m apos) (e :: es) [] pos) X.env = (do
   let ov <- eval o X.env
   standAt apos.atName
   let (f,first) <- holding [ov] (getMethod ov m pl)
   callWith pos f first (backTo pos (starEach (e :: es) X.env)) (backToKw pos (keywordEach [] X.env))):=by rfl) :
  PE X (.Call (.Attribute o m apos) (e :: es) [] pos) (yfg C m sp dvs Ex ta t):=by
 intro pins s σ H Q I h
 refine PySem.W.methodCall_KW (pl:=pl) (thn (he pins s σ H _ I h) fun u s1 ⟨x,H1,I1,rx,a,dx,fs,ex,ea,l,q⟩=>?_) ht
 subst ex
 obtain rfl : u = Value.ref a:=rx
 refine zcK I1 ea c hm l ?_
 refine PySem.W.callWith_K (first:=[.ref a]) (h₀:=X.base) I.ok.mod.kin hm.kp (thn (ha pos pins s1 σ H1 _ I1 q) fun us s2 ⟨vs,H2,I2,r,q2⟩=>⟨I2.kIn,?_⟩) hst hpl
 exact zc0 (us:=.ref a :: us) (vs:=.ref a :: vs) F hr hb hd hx I2 (.cons rfl r) q2
end
abbrev tryC (X : Cx) (pins : List (Addr × Obj)) (xe : Value -> Shared -> Prop) : Cx:={ X with pn:=X.pn++pins,xe:=xe }
abbrev hdlC (X : Cx) (a : Addr) : Cx:={ X with A:=X.A.mark (some (.ref a)),calm:=false,xe:=fun _ _=>False }
def excO (a : Addr) (cls : Value) : HO:=.ext fun h=>∃ ob vs,h.get? a = some ob /\ ob.cls = cls /\ ob.data = .fields vs
section
variable {X : Cx} {pins pins' : List (Addr × Obj)} {σ : St} {H : Hp} {s : Shared} {xe : Value -> Shared -> Prop}
theorem Cx.Ok.tryC (ok : X.Ok) : (tryC X pins xe).Ok:=⟨ok.mod,ok.kind,ok.glob,ok.blt,ok.above,ok.inj,ok.has,ok.cab,ok.hd,ok.frames,ok.stk,ok.exf,ok.bs,ok.bsz,ok.noex,ok.exfs,ok.funs,ok.frf⟩
theorem Cx.Ok.untry (ok : (L2.tryC X pins xe).Ok) : X.Ok:=⟨ok.mod,ok.kind,ok.glob,ok.blt,ok.above,ok.inj,ok.has,ok.cab,ok.hd,ok.frames,ok.stk,ok.exf,ok.bs,ok.bsz,ok.noex,ok.exfs,ok.funs,ok.frf⟩
theorem Cx.Ok.hdl (ok : X.Ok) (a : Addr) : (hdlC X a).Ok:=⟨ok.mod,ok.kind,ok.glob,ok.blt,ok.above,ok.inj,ok.has,ok.cab,fun z=>(nomatch z),ok.frames,ok.stk,ok.exf,ok.bs,ok.bsz,ok.noex,ok.exfs,ok.funs,ok.frf⟩
theorem Inv.toTry (I : Inv X pins σ H s) : Inv (tryC X pins xe) [] σ H s:=⟨I.ok.tryC,I.os,I.bare,I.base,I.loc,I.cell,I.free,I.freeC,fun p hp=>I.pin p (by simpa using hp),I.hok,I.len⟩
theorem Inv.untry (I : Inv (tryC X pins xe) pins' σ H s) : Inv X pins σ H s:=⟨I.ok.untry,I.os,I.bare,I.base,I.loc,I.cell,I.free,I.freeC,fun p hp=>I.pin p (List.mem_append_left _ hp),I.hok,I.len⟩
theorem Inv.hdl (I : Inv X pins σ H s) (a : Addr) : Inv (hdlC X a) pins σ H s:=⟨I.ok.hdl a,I.os,I.bare,I.base,I.loc,I.cell,I.free,I.freeC,I.pin,I.hok,I.len⟩
theorem Inv.unhdl {a : Addr} (I : Inv (hdlC X a) pins σ H s) (ok : X.Ok) : Inv X pins σ H s:=⟨ok,I.os,I.bare,I.base,I.loc,I.cell,I.free,I.freeC,I.pin,I.hok,I.len⟩
theorem Arr.untry {a : Addr} {cls : Value} (R : Arr (tryC X pins xe) pins' σ H a cls s) : Arr X pins σ H a cls s:=by
 obtain ⟨B,a0,fm,r⟩:=R.fly
 refine ⟨R.inv.untry,R.un,R.new,R.nl,R.nc,fun p hp=>R.np p (List.mem_append_left _ hp),B,a0,fun b o q nb alt=>fm b o q nb ?_,r⟩
 rcases alt with z | z | ⟨p,hp,e⟩
 ·exact .inl z
 ·exact .inr (.inl z)
 ·exact .inr (.inr ⟨p,List.mem_append_left _ hp,e⟩)
end
theorem zeg {M : Model} {h : Heap} {a : Addr} {ob : Obj} (e : h.get? a = some ob) : PySem.W.Looks M h (typeOf (.ref a)) ob.cls:=(PySem.W.Looks.ld e).andThen .now
section
variable {X : Cx} {xc n : Str} {C : Addr} {i : Nat} {body suite : List Stmt} {b0 : Stmt} {np hpos pos : Pos} {tb : (St -> XK) -> TS} {th : TS} {outer : List Env}
end
section
variable {P : Program} {w : World} {K : PySem.W.Frag} {mg : Str -> Option Value} {base : Heap}
theorem Fun.okE {x qual : Str} {st : Stmt} {f : Addr} {fd : FuncData} {N ps : List Str} {k : Nat} {sp : Sp} (F : Fun K x qual st f fd) (S : FnScope N ps (yad st)) (len : ∀ vs H Q E,sp vs H Q E -> vs.length = ps.length)
  (hbody : ∀ (cdv : Value) (A : Around) (outer : List Env) (s : Shared) (H : Hp) (vs : List V) (Q : VK) (E : XK),Room k (A.deeper (envOfC qual (yad st) s.heap.objs.size f cdv)) -> sp vs H Q E ->
   ∃ t,PSs (cxOf (CXE P w) P w K mg base N qual (yad st) f cdv A outer s H E) (ybf st) t /\ t { nx:=fun _ H' => Q .non H',rt:=Q } (start N vs) H) : FnOk P w K mg base (CXE P w) (k + 1) f fd ps sp:=by
 obtain ⟨oc,od,kV,doc,pm,an,cdv,ct,osl,rfl,lk,hcd⟩:=F.ex
 exact yhO lk hcd S len fun A outer s H vs Q E hr hsp=>hbody cdv A outer s H vs Q E hr hsp
end
end L2
namespace L2
open PySem PySem.Spec PyProof.Rows
theorem zhs {K : PySem.W.Frag} {hp : Heap} {g : Str -> Option Value} {nm : Str} {Ca : Addr} {bb : List Value} {nid : String} (Z : K.In hp) (hb : g nm = some (.ref Ca)) (ok : PySem.W.excIn K Ca bb nid = true) : OwnCls nm Ca bb nid g hp:=by
 refine ⟨hb,?_⟩
 unfold PySem.W.excIn at ok
 split at ok
 ·rename_i dA cA sA hA
  split at ok
  ·rename_i D' tl w0 w1 w2 w3 bn w5 eM eS
   simp only [Bool.and_eq_true,beq_iff_eq,Bool.not_eq_true'] at ok
   obtain ⟨⟨⟨⟨⟨rfl,rfl⟩,e1⟩,e2⟩,e3⟩,e4⟩:=ok
   obtain ⟨f1,f2,f3,f4,f5,f6,f7,f8,f9,f10,f11⟩:=cA
   dsimp only at eM e1 e3 e4
   subst eM e1
   have eA : sA = #[w0,w1,w2,w3,some (.builtin bn),w5]:=by
    obtain ⟨ll⟩:=sA
    simp only at eS
    rw [eS]
   subst eA
   refine ⟨tl,f4,f1,f5,f2,f6,f7,f8,f9,f10,dA,w0,w1,w2,w3,w5,_,Z _ _ hA,.of_isNs (PySem.W.isNs_of_in Z e3),?_,PySem.W.tail_of_in Z e2⟩
   exact PySem.W.nsMap_none_of_in Z e3 e4
  ·cases ok
 ·cases ok
mutual
inductive DaV (K : PySem.W.Frag) (H : Hp) : V -> PyData -> Prop
 | non : DaV K H .non .none
 | bl (b) : DaV K H (.bl b) (.bool b)
 | int (i) : DaV K H (.int i) (.int i)
 | str (x) : DaV K H (.str x) (.str x)
 | lst {a xs ds} : SqL K H a xs -> DaVs K H xs ds -> DaV K H (.ref a) (.list ds)
 | tup {a xs ds} : SqT K H a xs -> DaVs K H xs ds -> DaV K H (.ref a) (.tuple ds)
inductive DaVs (K : PySem.W.Frag) (H : Hp) : List V -> List PyData -> Prop
 | nil : DaVs K H [] []
 | cons {x xs d ds} : DaV K H x d -> DaVs K H xs ds -> DaVs K H (x :: xs) (d :: ds)
end
section
variable {X : Cx} {pins : List (Addr × Obj)} {σ : St} {H : Hp} {s : Shared}
mutual
theorem DaV.reads (I : Inv X pins σ H s) : ∀ {x : V} {d : PyData} {u : Value},DaV X.K H x d -> RelV x u -> ∃ as,Reads s.heap u d as
 | _,_,_,.non,r=>by cases r; exact ⟨_,.none⟩
 | _,_,_,.bl b,r=>by cases r; exact ⟨_,.bool b⟩
 | _,_,_,.int i,r=>by obtain ⟨t,rfl⟩:=r; exact ⟨_,.int i t⟩
 | _,_,_,.str x,r=>by obtain ⟨t,rfl⟩:=r; exact ⟨_,.str x t⟩
 | _,_,_,.lst (a:=a) h1 h2,r=>by
  cases r
  obtain ⟨its,rv,⟨o,n,e1,e2,e3⟩,_⟩:=I.list h1
  obtain ⟨as,q⟩:=DaVs.reads I h2 rv
  exact ⟨_,.list (vs:=its.toArray) (n:=n) e1 (by first | exact e2.1 | exact e2) (by first | exact e2.2.2 | exact e2.2 | exact e3 | exact e3.2) (by simpa using q)⟩
 | _,_,_,.tup (a:=a) h1 h2,r=>by
  cases r
  obtain ⟨its,rv,⟨o,e1,e2,n,e3⟩,_⟩:=I.tuple h1
  obtain ⟨as,q⟩:=DaVs.reads I h2 rv
  exact ⟨_,.tuple (vs:=its.toArray) (n:=n) e1 e2 e3 (by simpa using q)⟩
theorem DaVs.reads (I : Inv X pins σ H s) : ∀ {xs : List V} {ds : List PyData} {us : List Value},DaVs X.K H xs ds -> Vals xs us -> ∃ as,ReadsAll s.heap us ds as
 | _,_,_,.nil,r=>by cases r; exact ⟨_,.nil⟩
 | _,_,_,.cons h1 h2,r=>by
  cases r with
  | cons r1 r2 =>
   obtain ⟨as,q1⟩:=DaV.reads I h1 r1
   obtain ⟨bs,q2⟩:=DaVs.reads I h2 r2
   exact ⟨_,.cons q1 q2⟩
end
def rEqD (K : PySem.W.Frag) : R2:=fun x y H Q=>∃ d e,DaV K H x d /\ DaV K H y e /\ d.canLay0 = true /\ e.canLay0 = true /\ d.depth <= 60 /\ Q (.bl (PyData.eqv d e)) H
def rNeD (K : PySem.W.Frag) : R2:=fun x y H Q=>∃ d e,DaV K H x d /\ DaV K H y e /\ d.canLay0 = true /\ e.canLay0 = true /\ d.depth <= 60 /\ Q (.bl (!PyData.eqv d e)) H
theorem yfh (hu : X.A.units + 64 < cLine) : OpR X (compareOp .Eq) (rEqD X.K):=by
 intro pins s σ H x y v u Q I rx ry h
 obtain ⟨d,e,h1,h2,c1,c2,dp,q⟩:=h
 obtain ⟨as,r1⟩:=h1.reads I rx
 obtain ⟨bs,r2⟩:=h2.reads I ry
 exact SeqAt.compareEq_reads r1 r2 c1 c2 (by have:=Nat.min_le_left d.depth e.depth; omega) ⟨.bl _,H,I,rfl,q⟩
theorem yfi (hu : X.A.units + 64 < cLine) : OpR X (compareOp .NotEq) (rNeD X.K):=by
 intro pins s σ H x y v u Q I rx ry h
 obtain ⟨d,e,h1,h2,c1,c2,dp,q⟩:=h
 obtain ⟨as,r1⟩:=h1.reads I rx
 obtain ⟨bs,r2⟩:=h2.reads I ry
 exact SeqAt.compareNe_reads r1 r2 c1 c2 (by have:=Nat.min_le_left d.depth e.depth; omega) ⟨.bl _,H,I,rfl,q⟩
end
theorem hu64 {A : Around} {k : Nat} (hr : Room k A) : A.units + 64 < cLine:=by
 have:=hr.un
 omega
def yhY (K : PySem.W.Frag) : R2:=fun x y H Q=>∃ l b xs zs,x = .ref l /\ y = .ref b /\ SqL K H l xs /\ SqL K H b zs /\ xs.length + zs.length <= sizeLine /\ ∀ p,H p = none -> Q (.ref p) (upd H p (.lst (xs++zs)))
theorem ziq {X : Cx} : OpR X (binaryOp .Add) (yhY X.K):=by
 intro pins s σ H x y v u Q I rx ry h
 obtain ⟨l,b,xs,zs,rfl,rfl,hH,hB,hz,q⟩:=h
 cases rx
 cases ry
 obtain ⟨its,r,⟨o,n,e1,e2,e3,e4⟩,z⟩:=I.list hH
 obtain ⟨its2,r2,⟨o2,n2,g1,g2,g3,g4⟩,z2⟩:=I.list hB
 obtain ⟨oc,od,oda,osl⟩:=o
 obtain ⟨oc2,od2,oda2,osl2⟩:=o2
 dsimp only at e2 e3 e4 g2 g3 g4
 subst e2 e3 e4 g2 g3 g4
 have l1:=r.length
 have l2:=r2.length
 refine concat_meets ⟨_,e1,rfl⟩ ⟨_,g1,rfl⟩ noFill_list_add seq_list_add PySem.F.slot_list_add PySem.F.entry_list_add (PySem.F.args_list_add_2 _ _) (list_addW l b its.toArray its2.toArray n n2 none none osl osl2 (by rw [List.size_toArray,List.size_toArray]; omega)) ⟨e1,g1,?_⟩
 have ea : its.toArray++its2.toArray = (its++its2).toArray:=by simp
 rw [ea]
 exact ⟨.ref s.heap.objs.size,_,I.lnew (t' := s.toks) (r.append r2) (by rw [List.length_append]; exact hz),rfl,q _ I.fresh⟩
end L2
namespace L2
open PySem PySem.Spec PyProof.Rows
section
variable {X : Cx} {pins : List (Addr × Obj)} {σ : St} {H : Hp} {s : Shared}
open Classical in
def isD (h : Heap) (d : PyData) (v : Value) : Bool:=if q : ∃ e as,e.canLay0 = true /\ Reads h v e as then PyData.eqv q.choose d else false
theorem isD_of {h : Heap} {d e : PyData} {v : Value} {as : List Addr} (c : e.canLay0 = true) (r : Reads h v e as) : isD h d v = PyData.eqv e d:=by
 have q : ∃ e as,e.canLay0 = true /\ Reads h v e as:=⟨e,as,c,r⟩
 unfold isD
 rw [dif_pos q]
 obtain ⟨as',c',r'⟩:=q.choose_spec
 have z : q.choose = e:=by first | exact (Reads.unique _ _ r' r).1 | exact (Reads.unique r' r).1 | exact Reads.unique _ _ _ _ _ c' r' r | exact PySem.SeqAt.Reads.unique _ _ _ _ _ c' r' r | exact PySem.Reads.unique _ _ _ _ _ c' r' r
 rw [z]
theorem ze4 (I : Inv X pins σ H s) : ∀ {xs : List V} {ds : List PyData} {us : List Value},DaVs X.K H xs ds -> Vals xs us -> us.length = ds.length /\ ∀ (j : Nat) u d,us[j]? = some u -> ds[j]? = some d -> ∃ as,Reads s.heap u d as
 | _,_,_,.nil,r=>by cases r; exact ⟨rfl,fun j u d e=>by cases e⟩
 | _,_,_,.cons h1 h2,r=>by
  cases r with
  | cons r1 r2 =>
   obtain ⟨l,q⟩:=ze4 I h2 r2
   refine ⟨by rw [List.length_cons,List.length_cons,l],fun j u d e1 e2=>?_⟩
   cases j with
   | zero=>cases e1; cases e2; exact h1.reads I r1
   | succ j=>exact q j u d e1 e2
theorem ze5 {h : Heap} {d : PyData} : ∀ {us : List Value} {ds : List PyData},us.length = ds.length -> (∀ (j : Nat) u e,us[j]? = some u -> ds[j]? = some e -> isD h d u = PyData.eqv e d) -> us.any (isD h d) = ds.any fun e=>PyData.eqv e d
 | [],[],_,_=>rfl
 | u :: us,e :: ds,hl,hh=>by
  rw [List.any_cons,List.any_cons,hh 0 u e rfl rfl,ze5 (us:=us) (ds:=ds) (Nat.succ.inj hl) fun j u' e' a b=>hh (j + 1) u' e' a b]
end
theorem zc1 : ∀ {xs : List Str} {us : List Value},Vals (xs.map V.str) us -> ∃ l : List (Str × Tok),us = strValues l /\ l.map (·.1) = xs
 | [],_,r=>by cases r; exact ⟨[],rfl,rfl⟩
 | x :: xs,_,r=>by
  cases r with
  | cons r1 r2 =>
   obtain ⟨t,rfl⟩:=r1
   obtain ⟨l,e1,e2⟩:=zc1 r2
   exact ⟨(x,t) :: l,by rw [e1]; rfl,by rw [List.map_cons,e2]⟩
theorem zfN : ∀ (xs : List Str),(Builtin.Str.glued Str.empty xs).cps.toList = (xs.map fun x=>x.cps.toList).flatten:=by
 have all : ∀ (xs : List Str) (acc : Array Nat),(xs.foldl (fun acc p=>acc++Str.empty.cps++p.cps) acc).toList = acc.toList++(xs.map fun x=>x.cps.toList).flatten:=by
  intro xs
  induction xs with
  | nil=>intro acc; simp
  | cons x r ih =>
   intro acc
   rw [List.foldl_cons,ih]
   have e : (Str.empty.cps) = #[]:=rfl
   simp [e]
 intro xs
 unfold Builtin.Str.glued
 cases xs with
 | nil=>rfl
 | cons x r=>simp only [List.drop_succ_cons,List.drop_zero,List.headD_cons]; rw [all]; simp
theorem fold_len : ∀ (xs : List Str) (a : Nat),xs.foldl (fun n x=>n + x.length + Str.empty.length) a = a + ((xs.map fun x=>x.cps.toList).flatten).length
 | [],a=>by simp
 | x :: r,a=>by
  rw [List.foldl_cons,fold_len r]
  have e1 : Str.empty.length = 0:=rfl
  have e2 : x.length = x.cps.toList.length:=by simp [Str.length]
  rw [e1,e2,List.map_cons,List.flatten_cons,List.length_append]
  omega
def yhZ (K : PySem.W.Frag) : V -> List V -> Hp -> VK -> Prop:=fun x vs H Q=>∃ (l : Addr) (xs : List Str),x = .str Str.empty /\ vs = [.ref l] /\ SqL K H l (xs.map V.str) /\ ((xs.map fun x : Str=>x.cps.toList).flatten).length <= 1000000 /\ ∀ r : Str,r.cps.toList = (xs.map fun x : Str=>x.cps.toList).flatten -> Q (.str r) H
theorem zir {X : Cx} : MtR X "str.join" (yhZ X.K):=by
 intro pins s σ H x vs v us Q I rx rv h
 obtain ⟨l,xs,rfl,rfl,hq,hz,q⟩:=h
 obtain ⟨t,rfl⟩:=rx
 obtain ⟨u,rfl,ru⟩:=ybP rv
 cases ru
 obtain ⟨its,r,pl,_⟩:=I.list hq
 obtain ⟨ll,rfl,e2⟩:=zc1 r
 have hok : JoinOk Str.empty xs = true:=by
  unfold JoinOk
  rw [Bool.not_eq_true']
  first
   | (rw [List.foldl_toArray,fold_len,Nat.zero_add]; unfold Builtin.Str.tooLong; exact decide_eq_false (Nat.not_lt.mpr (Nat.le_trans hz (by decide))))
   | (unfold joinFit; rw [List.foldl_toArray,fold_len,Nat.zero_add]; unfold Builtin.Str.tooLong; exact decide_eq_false (Nat.not_lt.mpr (Nat.le_trans hz (by decide))))
 exact SC.join pl.isList e2 hok fun t' k=>⟨.str _,H,I.tok _,⟨_,rfl⟩,q _ (zfN xs)⟩
end L2
namespace L2
open PySem PySem.Spec PyProof.Rows
section
variable {X : Cx} {tg : Expr}
theorem zcj (ns : List Int) : ∀ k,k <= ns.length -> preSum (fun i=>(ns[i]?).getD 0) k = (ns.take k).sum
 | 0,_=>by simp [preSum]
 | k + 1,h=>by
  show preSum _ k + (ns[k]?).getD 0 = _
  rw [zcj ns k (by omega),List.take_succ,List.sum_append]
  congr 1
  rw [List.getElem?_eq_getElem (by omega)]
  simp
theorem zht (hc : X.calm = true) : CallR X (.builtin "sum") (fun xs H Q=>∃ (a : Addr) (ns : List Int),xs = [.ref a] /\ SqL X.K H a (ns.map V.int) /\ Q (.int ns.sum) H):=by
 intro pins s σ H xs us Q I r h
 obtain ⟨l,bs,rfl,hq,q⟩:=h
 obtain ⟨u,rfl,rx⟩:=ybP r
 cases rx
 obtain ⟨its,rv,pl,hz⟩:=I.list hq
 have hlt : l < s.heap.objs.size:=by obtain ⟨_,_,e,_⟩:=pl; exact Heap.lt_size e
 have hlen : its.length = bs.length:=by rw [<- rv.length,List.length_map]
 refine call_sum_walkAnyS (wpAny_pyIter_list pl.isList ?_)
 refine ⟨s.heap.objs.size,[s.heap.objs.size,l],[s.heap.objs.size],_,its.toArray.size,_,_,fun i=>(bs[i]?).getD 0,rfl,(Walks.list (prog:=X.prog) (w:=X.w) (A:=X.A.in1) (I.ok.hd hc) s.heap.objs.size l (Nat.ne_of_lt hlt) its.toArray).toS,
  ⟨⟨_,Heap.get?_push_size _ rfl,rfl,rfl⟩,pl.isList.push _⟩,fun b hb=>?_,fun i v hP=>?_,fun s' t' hm=>?_⟩
 ·rcases List.mem_cons.mp hb with rfl | hb
  ·exact Heap.lt_size (Heap.get?_push_size _ rfl)
  ·obtain rfl:=List.mem_singleton.mp hb
   obtain ⟨_,_,e,_⟩:=pl
   exact Heap.lt_size (Heap.get?_push_of_some _ e)
 ·have hP' : its[i]? = some v:=by simpa using hP
  have hi : i < its.length:=(List.getElem?_eq_some_iff.mp hP').1
  have hb : (bs.map V.int)[i]? = some (V.int (bs[i]'(by omega))):=by rw [List.getElem?_map,List.getElem?_eq_getElem (by omega)]; rfl
  obtain ⟨u,hu,ru⟩:=rv.get hb
  rw [hP'] at hu
  cases hu
  obtain ⟨t,rfl⟩:=ru
  refine ⟨t,?_⟩
  show Value.int _ t = Value.int ((bs[i]?).getD 0) t
  rw [List.getElem?_eq_getElem (by omega)]; rfl
 ·obtain ⟨h',g',d',tk',os'⟩:=s'
  have e1 : g' = s.gens:=hm.gens
  have e2 : d' = s.drawn:=hm.drawn
  have e3 : os' = s.os:=hm.os
  subst e1 e2 e3
  have e : preSum (fun i=>(bs[i]?).getD 0) its.toArray.size = bs.sum:=by
   rw [List.size_toArray,hlen,zcj bs _ (Nat.le_refl _),List.take_of_length_le (Nat.le_refl _)]
  rw [e]
  refine ⟨.int _,H,I.kept (t' := tk') fun b o q=>?_,⟨_,rfl⟩,q⟩
  exact hm.heap b o (fun hb=>by rw [List.mem_singleton.mp hb] at q; exact Nat.lt_irrefl _ (Heap.lt_size q)) (Heap.get?_push_of_some _ q)
def Itr3 (lo c : Int) (n : Nat) : It:=⟨fun i _=>i < n,fun i H x H' => H' = H /\ x = .int (lo + i * c),fun i _=>n <= i⟩
theorem zck {P : Program} {w : World} {K : PySem.W.Frag} {tg : Expr} (it : Addr) (lo c : Int) (n : Nat) : Turn P w K tg (Itr3 lo c n) [it] it (fun i h=>IsRangeIter h it (lo + (i : Nat) * c) ((n : Int) - (i : Nat)) c) where
 mem:=by simp
 obj:=fun i h st b hb=>by
  have e : b = it:=by simpa using hb
  subst e
  exact ⟨_,st,fun v z=>by
   have z' : Data.fields _ = Data.cell v:=z
   cases z'⟩
 keep:=fun i h h' st k=>k it (by simp) _ st
 item:=by
  intro X hP hw hK hc i pins s σ H E I hf st hg
  subst hP hw hK
  obtain ⟨f0,f1,f2,f3,f4,f5⟩:=hf it (by simp)
  have W:=Walks.range (prog:=X.prog) (w:=X.w) (I.ok.hd hc) it lo c n
  refine W.item i s _ _ hg st fun v h' tk hv st' kk=>?_
  obtain ⟨t,rfl⟩:=hv
  have I1 : Inv X pins σ H { s with heap:=h',toks:=tk }:=I.turned (fun b o hb e=>kk b o (by simpa using hb) e) f0 f1 f3 f4 f5
  exact ⟨_,rfl,yep (s:={ s with heap:=h',toks:=tk }) (n := "range_iterator") st' rfl rfl (by decide) ⟨.int (lo + i * c),H,I1,⟨t,rfl⟩,⟨rfl,rfl⟩,st',fun b hb=>(hf b hb).1⟩⟩
 done:=by
  intro X hP hw hK hc i pins s σ H E I hf st hg
  subst hP hw hK
  obtain ⟨f0,f1,f2,f3,f4,f5⟩:=hf it (by simp)
  exact wpAny_pyNext_range_end (I.ok.hd hc) st (by have : n <= i:=hg; omega) fun h' eb=>⟨rfl,I.turned (t' := s.toks) (fun b o hb e=>eb b o hb e) f0 f1 f3 f4 f5⟩
 self:=fun _ _ _ _ _ st h=>wpAny_pyIter_rangeiter st h
theorem zgq {a b c : Int} (hc : 0 < c) : Builtin.Range.rangeSize a b c = (((if a < b then (b - a - 1) / c + 1 else 0 : Int).toNat : Nat) : Int):=by
 unfold Builtin.Range.rangeSize
 rw [if_pos hc]
 split
 ·have : 0 <= (b - a - 1) / c:=Int.ediv_nonneg (by omega) (by omega)
  omega
 ·rfl
theorem zaD {x : Int} (h : x.natAbs < 2 ^ 42) : Builtin.Range.rangeFitsLong x = true:=by
 have h2 : x.natAbs < 4398046511104:=h
 simp only [Builtin.Range.rangeFitsLong,Bool.and_eq_true,decide_eq_true_eq]
 omega
theorem zgr {a b c : Int} (ha : a.natAbs < 2 ^ 40) (hb : b.natAbs < 2 ^ 40) (hc : 0 < c) : (Builtin.Range.rangeSize a b c).natAbs < 2 ^ 42:=by
 have ha2 : a.natAbs < 1099511627776:=ha
 have hb2 : b.natAbs < 1099511627776:=hb
 show _ < 4398046511104
 unfold Builtin.Range.rangeSize
 rw [if_pos hc]
 split
 ·have h1 : 0 <= (b - a - 1) / c:=Int.ediv_nonneg (by omega) (by omega)
  have h2 : (b - a - 1) / c <= b - a - 1:=Int.ediv_le_self _ (by omega)
  generalize (b - a - 1) / c = d at *
  omega
 ·decide
theorem zfO {a b c : Int} (ha : a.natAbs < 2 ^ 40) (hb : b.natAbs < 2 ^ 40) (hc : 0 < c) (hc' : c < 2 ^ 20) : Builtin.Range.small a b c = true:=by
 have l : (2 : Nat) ^ 40 < 2 ^ 42:=by decide
 unfold Builtin.Range.small
 rw [zaD (Nat.lt_trans ha l),zaD (Nat.lt_trans hb l),zaD (x:=c) (by have h2 : c < 1048576:=hc'; show _ < 4398046511104; omega),zaD (zgr ha hb hc),if_pos hc,zaD (x:=b + (c - 1)) (by have h2 : c < 1048576:=hc'; have h3 : b.natAbs < 1099511627776:=hb; show _ < 4398046511104; omega)]
 simp
def yh0 (ta : TA) : TI:=fun σ H R=>ta σ H fun vs H1=>∃ i j c : Int,vs = [.int i,.int j,.int c] /\ (i.natAbs < 2 ^ 40 /\ j.natAbs < 2 ^ 40 /\ 0 < c /\ c < 2 ^ 20) /\ R (Itr3 i c (if i < j then (j - i - 1) / c + 1 else 0 : Int).toNat) H1
theorem zgs {pins : List (Addr × Obj)} {σ : St} {H : Hp} {s : Shared} {R : It -> Hp -> Prop} {E : Value -> Shared -> Prop} {lo hi c : Int} {t u v : Tok} {tk : Nat} (I : Inv X pins σ H s) (h1 : lo.natAbs < 2 ^ 40) (h2 : hi.natAbs < 2 ^ 40) (h3 : 0 < c) (h4 : c < 2 ^ 20)
  (q : R (Itr3 lo c (if lo < hi then (hi - lo - 1) / c + 1 else 0 : Int).toNat) H) : wpAny (model X.prog X.w) X.A (pyIter (.ref s.heap.objs.size)) (PIE X pins σ tg R) E { s with heap:=s.heap.push { cls:=.type "range",data:=.fields #[.int lo t,.int hi u,.int c v] },toks:=tk }:=by
 refine wpAny_pyIter_range (IsRange.new ..) (zfO h1 h2 h3 h4) ?_
 have I1 : Inv X pins σ H { s with heap:=s.heap.push { cls:=.type "range",data:=.fields #[.int lo t,.int hi u,.int c v] },toks:=tk }:=I.kept fun b o e=>Heap.get?_push_of_some _ e
 refine ⟨(s.heap.push { cls:=.type "range",data:=.fields #[.int lo t,.int hi u,.int c v] }).objs.size,[(s.heap.push { cls:=.type "range",data:=.fields #[.int lo t,.int hi u,.int c v] }).objs.size],_,_,H,rfl,
  I1.kept (t' := tk) fun b o e=>Heap.get?_push_of_some _ e,zck _ lo c (if lo < hi then (hi - lo - 1) / c + 1 else 0 : Int).toNat,?_,fun b hb=>?_,q⟩
 ·have e1 : lo + ((0 : Nat) : Int) * c = lo:=by simp
  have e2 : (((if lo < hi then (hi - lo - 1) / c + 1 else 0 : Int).toNat : Nat) : Int) - ((0 : Nat) : Int) = Builtin.Range.rangeSize lo hi c:=by rw [zgq h3]; omega
  show IsRangeIter _ _ (lo + ((0 : Nat) : Int) * c) ((((if lo < hi then (hi - lo - 1) / c + 1 else 0 : Int).toNat : Nat) : Int) - ((0 : Nat) : Int)) c
  rw [e1,e2]
  exact Heap.get?_push_size _ rfl
 ·have e : b = (s.heap.push { cls:=.type "range",data:=.fields #[.int lo t,.int hi u,.int c v] }).objs.size:=by simpa using hb
  subst e
  exact I1.fpOk (Nat.le_refl _) (I1.hok.fresh (Nat.le_refl _))
theorem zgt {a b c : Expr} {ta : TA} {p pos : Pos} (hg : Gl X "range") (hm : X.mg "range" = none) (ha : PA X [a,b,c] ta) (hs : starEach [a,b,c] X.env = [(false,eval a X.env),(false,eval b X.env),(false,eval c X.env)]:=by rfl) (hs2 : starEach [b,c] X.env = [(false,eval b X.env),(false,eval c X.env)]:=by rfl) :
  PI X tg (.Call (.Name "range" p) [a,b,c] [] pos) (yh0 ta):=by
 intro pins s σ H R I h
 refine Call_ (ycK I hg hm boot_range (PyProof.Rows.callWith_type1 (thn (ha pos pins s σ H _ I h) fun us s1 ⟨vs,H1,I1,r1,q1⟩=>?_) (by rw [hs,hs2]) (by rw [hs2]; rfl)))
 obtain ⟨i,j,c,e,⟨q1,q2,q3,q4⟩,q⟩:=q1
 subst e
 cases r1 with
 | cons r rr =>
  cases rr with
  | cons r' rr =>
   cases rr with
   | cons r'' rr =>
    cases rr
    obtain ⟨t,rfl⟩:=r
    obtain ⟨t',rfl⟩:=r'
    obtain ⟨t'',rfl⟩:=r''
    exact call_range_3 (by omega) (zgs I1 q1 q2 q3 q4 q) (.inl (PyProof.noPylong_small (by omega)))
end
end L2
namespace L2
open PySem PySem.Spec PyProof.Rows
open PySem.Builtin PySem.Builtin.Str
section
variable {X : Cx}
def cutS (z : Str) (lo hi : Option Int) : Str:=⟨((z.cps.toList.drop (HT.sIx z.cps.toList.length 0 lo)).take (HT.sIx z.cps.toList.length z.cps.toList.length hi - HT.sIx z.cps.toList.length 0 lo)).toArray⟩
theorem zbg (n d : Nat) (i : Int) : max 0 (min (if i < 0 then i + (n : Int) else i) (n : Int)) = ((HT.sIx n d (some i) : Nat) : Int):=by
 show max 0 (min (if i < 0 then i + (n : Int) else i) (n : Int)) = (((if i < 0 then (i + (n : Int)).toNat else min i.toNat n) : Nat) : Int)
 split<;>omega
theorem zbx {a b : Int} {A B : Nat} (ha : a = A) (hb : b = B) : sliceRange a b 1 = (List.range (B - A)).map fun k=>A + k:=by
 subst ha hb
 unfold sliceRange
 simp only [show (1 : Int) > 0 by decide,if_true]
 have : (if (A : Int) < (B : Int) then ((B : Int) - A + 1 - 1) / 1 else 0).toNat = B - A:=by
  split<;>(try simp only [Int.ediv_one])<;>omega
 rw [this]
 apply List.map_congr_left
 intro k _
 omega
theorem zhu (xs : List Nat) (i k : Nat) : (List.range k).filterMap (fun m=>xs[i + m]?) = (xs.drop i).take k:=by
 induction k generalizing i with
 | zero=>simp
 | succ k ih =>
  rw [List.range_succ_eq_map,List.filterMap_cons,List.filterMap_map]
  have e : ((fun m=>xs[i + m]?) ∘ Nat.succ) = fun m=>xs[(i + 1) + m]? := by
   funext m; show xs[i + (m + 1)]? = _; congr 1; omega
  rw [e,ih (i + 1)]
  cases h : xs[i]? with
  | none =>
   have hl : xs.length <= i:=List.getElem?_eq_none_iff.mp h
   simp only [Nat.add_zero,h]
   rw [List.drop_of_length_le (by omega),List.drop_of_length_le hl]; simp
  | some v =>
   have hi:=(List.getElem?_eq_some_iff.mp h).1
   simp only [Nat.add_zero,h]
   rw [List.drop_eq_getElem_cons hi,List.take_succ_cons]
   congr 1
   exact (Option.some.inj ((List.getElem?_eq_getElem hi).symm.trans h)).symm
theorem zfP (n : Nat) (lo hi : Option Int) : strSliceIndices lo hi 1 n = (List.range (HT.sIx n n hi - HT.sIx n 0 lo)).map fun k=>HT.sIx n 0 lo + k:=by
 cases lo with
 | none =>
  cases hi with
  | none=>exact zbx rfl rfl
  | some j=>exact zbx rfl (zbg n n j)
 | some i =>
  cases hi with
  | none=>exact zbx (zbg n 0 i) rfl
  | some j=>exact zbx (zbg n 0 i) (zbg n n j)
theorem zhv (z : Str) (lo hi : Option Int) : Txt.slice z lo hi = cutS z lo hi:=by
 have hz : z.length = z.cps.toList.length:=by simp [Str.length]
 unfold Txt.slice cutS
 rw [hz,zfP,List.filterMap_map]
 have e : ((fun x=>z.cps[x]?) ∘ fun k=>HT.sIx z.cps.toList.length 0 lo + k) = fun m=>z.cps.toList[HT.sIx z.cps.toList.length 0 lo + m]? := by
  funext m; simp
 rw [e,zhu]
 split
 ·rename_i hc
  simp only [beq_self_eq_true,Bool.true_and,beq_iff_eq,List.length_map,List.length_range] at hc
  have h1 : HT.sIx z.cps.toList.length z.cps.toList.length hi <= z.cps.toList.length:=HT.sIx_le _ _ (Nat.le_refl _) _
  have h2 : HT.sIx z.cps.toList.length 0 lo = 0 \/ z.cps.toList.length = 0:=by omega
  rw [hc]
  rcases h2 with h2 | h2
  ·rw [h2,List.drop_zero,List.take_of_length_le (Nat.le_refl _)]
  ·have : z.cps.toList = []:=List.eq_nil_of_length_eq_zero h2
   have h3 : z.cps = #[]:=by simpa using this
   simp [h3]
   cases z; simp_all
 ·rfl
theorem zcO {v : Value} {o : Option Int} (p : IsPart v o) : ∃ l : Option (Int × Tok),v = partValue l /\ l.map (·.1) = o:=by
 cases p with
 | none=>exact ⟨none,rfl,rfl⟩
 | int i t=>exact ⟨some (i,t),rfl,rfl⟩
theorem ygU : SlR X (fun x lo hi H Q=>∃ z,x = .str z /\ z.length <= sizeLine /\ Q (.str (cutS z lo hi)) H):=by
 intro pins s σ H x v vl vu lo hi sl Q I rx hs pl pu h
 obtain ⟨z,rfl,hz,q⟩:=h
 obtain ⟨t,rfl⟩:=rx
 obtain ⟨l,rfl,rfl⟩:=zcO pl
 obtain ⟨u,rfl,rfl⟩:=zcO pu
 refine ⟨"str",_,F.slot_str_getitem.lookup,typeIs_str _ _ _,?_⟩
 refine wpAny_getItem_str_slice (l:=l) (u:=u) (st:=none) hs rfl ?_
 refine post_val_or_str ⟨Nat.le_trans (Txt.slice_le z (l.map (·.1)) (u.map (·.1))) hz,fun t' k=>?_⟩
 have e:=zhv z (l.map (·.1)) (u.map (·.1))
 refine ⟨.str (cutS z (l.map (·.1)) (u.map (·.1))),H,I.tok _,⟨t',?_⟩,q⟩
 rw [<- e]; rfl
end
end L2
namespace L2
open PySem PySem.Spec PyProof.Rows
open PySem.Builtin PySem.Builtin.Str
section
variable {X : Cx}
theorem zdy : ∀ l : List (Str × Tok),Vals ((l.map (·.1)).map V.str) (strValues l)
 | []=>.nil
 | (x,t) :: r=>.cons ⟨t,rfl⟩ (zdy r)
theorem zeh : MtR X "str.split" (fun x vs H Q=>∃ z y,x = .str z /\ vs = [.str y] /\ (y.length == 0) = false /\ z.length <= sizeLine /\ (partsBetween z (occurrences z y 0 z.length (z.length + 1)) y.length).length <= sizeLine /\ ∀ p,H p = none -> Q (.ref p) (upd H p (.lst ((Txt.split z y).map V.str)))):=by
 intro pins s σ H x vs v us Q I rx rv h
 obtain ⟨z,y,rfl,rfl,hy,hz,hp,q⟩:=h
 obtain ⟨t,rfl⟩:=rx
 obtain ⟨u,rfl,t',rfl⟩:=ybP rv
 have sp : (Txt.split z y).length <= sizeLine:=by
  unfold Txt.split
  split
  ·exact (by decide : 1 <= sizeLine)
  ·split
   ·exact (by decide : 1 <= sizeLine)
   ·exact hp
 have fin : ∀ (l : List (Str × Tok)) (k : Nat),l.map (·.1) = Txt.split z y -> EP X pins σ Q (.ref s.heap.objs.size) { s with toks:=k,heap:=s.heap.push { cls:=.type "list",data:=.seq (strValues l).toArray } }:=fun l k e =>
  ⟨.ref s.heap.objs.size,_,I.lnew (t' := k) (zdy l) (by rw [e,List.length_map]; exact sp),rfl,by rw [e]; exact q _ I.fresh⟩
 cases h1 : (decide (z.length < y.length) || decide (strKind z < strKind y))
 ·cases hf : (occurrences z y 0 z.length (z.length + 1)).isEmpty
  ·refine call_meets F.slot_str_split (typeIs_str _ _ _) F.entry_str_split (F.args_str_split_2 _ _) (meets_str_split_sep z y t t' h1 hy hf hz hp) ?_
   show wants _ _ _ { s with toks:=_,heap:=s.heap.push { cls:=.type "list",data:=.seq (strsFrom s.toks (partsBetween z (occurrences z y 0 z.length (z.length + 1)) y.length)).toArray } }
   rw [strsFrom_eq]
   exact fin (numbered s.toks _) _ ((numbered_texts _ _).trans ((if_neg (ne_true_of_eq_false h1)).trans (if_neg (ne_true_of_eq_false hf))).symm)
  ·exact call_meets F.slot_str_split (typeIs_str _ _ _) F.entry_str_split (F.args_str_split_2 _ _) (meets_str_split_not_found z y t t' h1 hy hf)
    (fin [(z,t)] s.toks ((if_neg (ne_true_of_eq_false h1)).trans (if_pos hf)).symm)
 ·exact call_meets F.slot_str_split (typeIs_str _ _ _) F.entry_str_split (F.args_str_split_2 _ _) (meets_str_split_cannot_occur z y t t' h1)
   (fin [(z,t)] s.toks (if_pos h1).symm)
end
end L2
namespace Sm
open PySem L2
inductive AV where
 | non | bl (b : Bool) | int (i : Int) | str (x : Str)
 | tup (xs : List AV)
 | fl (xs : List AV)
 | ref (n : Nat)
 | exc (c : Nat)
 deriving Inhabited
inductive AO where
 | lst (xs : List AV)
 | dct (t : Bool) (kvs : List (AV × AV))
 | dcx (kvs : List (AV × AV))
 | ins (c : Nat) (fs : List (Option AV))
abbrev AH:=List AO
abbrev En:=List (Option AV)
inductive Out (α : Type) where
 | ok (a : α) (h : AH)
 | ex (c : Nat) (h : AH)
 | bad
@[simp] def Out.bind {α β : Type} (o : Out α) (f : α -> AH -> Out β) : Out β :=
 match o with
 | .ok a h=>f a h
 | .ex c h=>.ex c h
 | .bad=>.bad
inductive OutS where
 | nx (e : En) (h : AH)
 | rt (v : AV) (h : AH)
 | bk (e : En) (h : AH)
 | ct (e : En) (h : AH)
 | ex (c : Nat) (e : En) (h : AH)
 | bad
abbrev SE:=En -> AH -> Out AV
abbrev SB:=En -> AH -> Out Bool
abbrev SL:=En -> AH -> Out (List AV)
abbrev SS:=En -> AH -> OutS
abbrev Fn:=List AV -> AH -> Out AV
@[simp] def Out.go {α : Type} (o : Out α) (e : En) (f : α -> AH -> OutS) : OutS :=
 match o with
 | .ok a h=>f a h
 | .ex c h=>.ex c e h
 | .bad=>.bad
structure Tb where
 K : PySem.W.Frag
 cls : Nat -> Option Addr
 exc : Nat -> Option Addr
 fields : Nat -> List Str
 nd : ∀ c,(fields c).Nodup
 few : ∀ c,(fields c).length <= 500
def KL (K : PySem.W.Frag) (a : Addr) (xs : List V) : Prop:=∃ (o : Obj) (its : Array Value) (n : Nat),K.lookup a = some o /\ o.cls = .type "list" /\ o.dict = none /\ o.data = .seq its n /\ its.size <= sizeLine /\ Vals xs its.toList
structure Ix where
 refs : List Addr
 priv : List Addr
def Ix.all (ι : Ix) : List Addr:=ι.refs++ι.priv
mutual
inductive RV (T : Tb) (ι : Ix) (H : Hp) : AV -> V -> Prop
 | non : RV T ι H .non .non
 | bl (b : Bool) : RV T ι H (.bl b) (.bl b)
 | int (i : Int) : RV T ι H (.int i) (.int i)
 | str {x : Str} (n : x.length <= sizeLine) (o : x.cps.all (· < 0x110000) = true) : RV T ι H (.str x) (.str x)
 | tup {xs : List AV} {us : List V} {a : Addr} (n : a ∉ ι.all) (h : H a = some (.tup us)) (r : RVs T ι H xs us) : RV T ι H (.tup xs) (.ref a)
 | fl {xs : List AV} {us : List V} {a : Addr} (n : a ∉ ι.all) (h : Rd H a (.lst us)) (r : RVs T ι H xs us) : RV T ι H (.fl xs) (.ref a)
 | kfl {xs : List AV} {us : List V} {a : Addr} (h : KL T.K a us) (r : RVs T ι H xs us) : RV T ι H (.fl xs) (.ref a)
 | ref {k : Nat} {a : Addr} (h : ι.refs[k]? = some a) : RV T ι H (.ref k) (.ref a)
 | exc {c : Nat} {C a : Addr} (n : a ∉ ι.all) (h : T.exc c = some C) (q : H a = some (excO a (.ref C))) : RV T ι H (.exc c) (.ref a)
inductive RVs (T : Tb) (ι : Ix) (H : Hp) : List AV -> List V -> Prop
 | nil : RVs T ι H [] []
 | cons {x : AV} {u : V} {xs : List AV} {us : List V} (r : RV T ι H x u) (rs : RVs T ι H xs us) : RVs T ι H (x :: xs) (u :: us)
end
structure Grow (ι : Ix) (H : Hp) (ι' : Ix) (H' : Hp) : Prop where
 pre : ∃ n,ι'.refs = ι.refs++n /\ ∀ a ∈ n,H a = none
 priv : ι'.priv = ι.priv
 keep : ∀ a o,a ∉ ι.refs -> H a = some o -> H' a = some o
 live : ∀ a ∈ ι.all,H' a ≠ none
theorem zei : ∀ {l : List Addr} {i j : Nat} {a : Addr},l.Nodup -> l[i]? = some a -> l[j]? = some a -> i = j
 | [],_,_,_,_,e,_=>by simp at e
 | x :: l,0,0,_,_,_,_=>rfl
 | x :: l,0,j + 1,a,n,e,f=>by
  simp at e f; subst e
  exact absurd (List.mem_of_getElem? f) (List.nodup_cons.mp n).1
 | x :: l,i + 1,0,a,n,e,f=>by
  simp at e f; subst f
  exact absurd (List.mem_of_getElem? e) (List.nodup_cons.mp n).1
 | x :: l,i + 1,j + 1,a,n,e,f=>by
  simp at e f
  rw [zei (List.nodup_cons.mp n).2 e f]
theorem Ix.nr {ι : Ix} {a : Addr} (h : a ∉ ι.all) : a ∉ ι.refs:=fun z=>h (List.mem_append_left _ z)
theorem Ix.np {ι : Ix} {a : Addr} (h : a ∉ ι.all) : a ∉ ι.priv:=fun z=>h (List.mem_append_right _ z)
theorem Grow.refl {ι : Ix} {H : Hp} (l : ∀ a ∈ ι.all,H a ≠ none) : Grow ι H ι H:=⟨⟨[],by simp,by simp⟩,rfl,fun _ _ _ e=>e,l⟩
theorem Grow.at {ι ι' : Ix} {H H' : Hp} (g : Grow ι H ι' H') {k : Nat} {a : Addr} (h : ι.refs[k]? = some a) : ι'.refs[k]? = some a:=by
 obtain ⟨n,e,_⟩:=g.pre
 rw [e,List.getElem?_append_left (List.getElem?_eq_some_iff.mp h).1]
 exact h
theorem Grow.outR {ι ι' : Ix} {H H' : Hp} (g : Grow ι H ι' H') {a : Addr} {o : HO} (n : a ∉ ι.refs) (e : H a = some o) : a ∉ ι'.refs:=fun z=>by
 obtain ⟨m,e',hm⟩:=g.pre
 rw [e'] at z
 rcases List.mem_append.mp z with z | z
 ·exact n z
 ·rw [hm a z] at e; cases e
theorem Grow.out {ι ι' : Ix} {H H' : Hp} (g : Grow ι H ι' H') {a : Addr} {o : HO} (n : a ∉ ι.all) (e : H a = some o) : a ∉ ι'.all:=fun z=>by
 rcases List.mem_append.mp z with z | z
 ·exact g.outR (Ix.nr n) e z
 ·rw [g.priv] at z; exact Ix.np n z
theorem Grow.trans {ι ι' ι'' : Ix} {H H' H'' : Hp} (g : Grow ι H ι' H') (k : Grow ι' H' ι'' H'') : Grow ι H ι'' H'' := by
 obtain ⟨n,e1,hn⟩:=g.pre
 obtain ⟨m,e2,hm⟩:=k.pre
 refine ⟨⟨n++m,by rw [e2,e1]; simp,fun a ha=>?_⟩,k.priv.trans g.priv,fun a o na e=>k.keep a o (g.outR na e) (g.keep a o na e),fun a ha=>k.live a ?_⟩
 ·rcases List.mem_append.mp ha with z | z
  ·exact hn a z
  ·have q:=hm a z
   by_cases hi : a ∈ ι.refs
   ·exact absurd q (g.live a (List.mem_append_left _ hi))
   ·cases e : H a with
    | none=>rfl
    | some o=>rw [g.keep a o hi e] at q; cases q
 ·rcases List.mem_append.mp ha with z | z
  ·exact List.mem_append_left _ (by rw [e1]; exact List.mem_append_left _ z)
  ·exact List.mem_append_right _ (by rw [g.priv]; exact z)
structure Ext (ι : Ix) (H : Hp) (ι' : Ix) (H' : Hp) : Prop where
 at_ : ∀ {k : Nat} {a : Addr},ι.refs[k]? = some a -> ι'.refs[k]? = some a
 keep : ∀ a o,a ∉ ι.all -> H a = some o -> H' a = some o
 out : ∀ a o,a ∉ ι.all -> H a = some o -> a ∉ ι'.all
theorem Grow.ext {ι ι' : Ix} {H H' : Hp} (g : Grow ι H ι' H') : Ext ι H ι' H' := ⟨g.at,fun a o n e=>g.keep a o (Ix.nr n) e,fun a o n e=>g.out n e⟩
theorem Ext.trans {ι ι' ι'' : Ix} {H H' H'' : Hp} (g : Ext ι H ι' H') (k : Ext ι' H' ι'' H'') : Ext ι H ι'' H'' :=
 ⟨fun e=>k.at_ (g.at_ e),fun a o n e=>k.keep a o (g.out a o n e) (g.keep a o n e),fun a o n e=>k.out a o (g.out a o n e) (g.keep a o n e)⟩
theorem ze6 {ι ι' : Ix} {H H' : Hp} (g : Ext ι H ι' H') {a : Addr} {u : HO} (n : a ∉ ι.all) (r : Rd H a u) : Rd H' a u:=by
 rcases r with r | ⟨o,r⟩
 ·exact .inl (g.keep a _ n r)
 ·exact .inr ⟨o,g.keep a _ n r⟩
theorem ygV {ι ι' : Ix} {H H' : Hp} (g : Ext ι H ι' H') {a : Addr} {u : HO} (n : a ∉ ι.all) (r : Rd H a u) : a ∉ ι'.all:=by
 rcases r with r | ⟨o,r⟩
 ·exact g.out _ _ n r
 ·exact g.out _ _ n r
mutual
theorem RV.ext {T : Tb} {ι ι' : Ix} {H H' : Hp} (g : Ext ι H ι' H') : ∀ {x : AV} {u : V},RV T ι H x u -> RV T ι' H' x u
 | _,_,.non=>.non
 | _,_,.bl b=>.bl b
 | _,_,.int i=>.int i
 | _,_,.str n o=>.str n o
 | _,_,.tup n h r=>.tup (g.out _ _ n h) (g.keep _ _ n h) (RVs.ext g r)
 | _,_,.fl n h r=>.fl (ygV g n h) (ze6 g n h) (RVs.ext g r)
 | _,_,.kfl h r=>.kfl h (RVs.ext g r)
 | _,_,.ref h=>.ref (g.at_ h)
 | _,_,.exc n h q=>.exc (g.out _ _ n q) h (g.keep _ _ n q)
theorem RVs.ext {T : Tb} {ι ι' : Ix} {H H' : Hp} (g : Ext ι H ι' H') : ∀ {xs : List AV} {us : List V},RVs T ι H xs us -> RVs T ι' H' xs us
 | _,_,.nil=>.nil
 | _,_,.cons r rs=>.cons (RV.ext g r) (RVs.ext g rs)
end
theorem RV.mono {T : Tb} {ι ι' : Ix} {H H' : Hp} (g : Grow ι H ι' H') {x : AV} {u : V} (r : RV T ι H x u) : RV T ι' H' x u:=r.ext g.ext
theorem RVs.mono {T : Tb} {ι ι' : Ix} {H H' : Hp} (g : Grow ι H ι' H') {xs : List AV} {us : List V} (r : RVs T ι H xs us) : RVs T ι' H' xs us:=r.ext g.ext
section
variable {T : Tb} {ι : Ix} {H : Hp}
theorem RVs.length : ∀ {xs : List AV} {us : List V},RVs T ι H xs us -> xs.length = us.length
 | _,_,.nil=>rfl
 | _,_,.cons _ rs=>by simp [RVs.length rs]
theorem RVs.get : ∀ {xs : List AV} {us : List V} {i : Nat} {x : AV},RVs T ι H xs us -> xs[i]? = some x -> ∃ u,us[i]? = some u /\ RV T ι H x u
 | _,_,_,_,.nil,e=>by simp at e
 | _,_,0,_,.cons r _,e=>by simp at e; subst e; exact ⟨_,rfl,r⟩
 | _,_,i + 1,x,.cons _ t,e=>by
  obtain ⟨u,h1,h2⟩:=RVs.get (i:=i) (x:=x) t (by simpa using e)
  exact ⟨u,by simpa using h1,h2⟩
theorem RVs.append : ∀ {xs ys : List AV} {us ws : List V},RVs T ι H xs us -> RVs T ι H ys ws -> RVs T ι H (xs++ys) (us++ws)
 | _,_,_,_,.nil,s=>s
 | _,_,_,_,.cons r t,s=>.cons r (RVs.append t s)
theorem RVs.set {x : AV} {u : V} (r : RV T ι H x u) : ∀ {xs : List AV} {us : List V} (i : Nat),RVs T ι H xs us -> RVs T ι H (xs.set i x) (us.set i u)
 | _,_,_,.nil=>.nil
 | _,_,0,.cons _ t=>.cons r t
 | _,_,i + 1,.cons q t=>.cons q (RVs.set r i t)
theorem RVs.take : ∀ {xs : List AV} {us : List V} (n : Nat),RVs T ι H xs us -> RVs T ι H (xs.take n) (us.take n)
 | _,_,0,_=>by simpa using RVs.nil
 | _,_,_ + 1,.nil=>.nil
 | _,_,n + 1,.cons r t=>.cons r (RVs.take n t)
theorem RVs.drop : ∀ {xs : List AV} {us : List V} (n : Nat),RVs T ι H xs us -> RVs T ι H (xs.drop n) (us.drop n)
 | _,_,0,r=>r
 | _,_,_ + 1,.nil=>.nil
 | _,_,n + 1,.cons _ t=>RVs.drop n t
end
def kA : Key -> AV
 | .inl i=>.int i
 | .inr x=>.str x
def OR (T : Tb) (ι : Ix) (H : Hp) : AO -> HO -> Prop
 | .lst xs,o=>∃ us,o = .lst us /\ RVs T ι H xs us
 | .dct false kvs,o=>∃ kus : List (Key × V),o = .dK kus /\ Paired (fun (p : AV × AV) (q : Key × V)=>p.1 = kA q.1 /\ RV T ι H p.2 q.2) kvs kus
 | .dct true kvs,o=>∃ kus : List (List Key × V),o = .dT none kus /\ Paired (fun (p : AV × AV) (q : List Key × V)=>p.1 = .tup (q.1.map kA) /\ RV T ι H p.2 q.2) kvs kus
 | .dcx kvs,o=>∃ (ads : List Addr) (kus : List (List Key × V)),o = .dT (some ads) kus /\ ads.length = kus.length /\ Paired (fun (p : AV × AV) (q : Addr × List Key × V)=>p.1 = .tup (q.2.1.map kA) /\ RV T ι H p.1 (.ref q.1) /\ RV T ι H p.2 q.2.2) kvs (ads.zip kus)
 | .ins c fs,o=>∃ C dx fus,T.cls c = some C /\ o = .ins C dx fus /\ (fus.map (·.1)).Nodup /\ (∀ p ∈ fus,p.1 ∈ T.fields c) /\ fs.length = (T.fields c).length /\
   ∀ (i : Nat) (v : AV),fs[i]? = some (some v) -> ∃ f u,(T.fields c)[i]? = some f /\ fus.lookup f = some u /\ RV T ι H v u
theorem OR.mono {T : Tb} {ι ι' : Ix} {H H' : Hp} (g : Grow ι H ι' H') {o : AO} {u : HO} (h : OR T ι H o u) : OR T ι' H' o u:=by
 cases o with
 | lst xs=>obtain ⟨us,e,r⟩:=h; exact ⟨us,e,r.mono g⟩
 | dct t kvs =>
  cases t with
  | false=>obtain ⟨us,e,r⟩:=h; exact ⟨us,e,Paired.mapP r fun _ _ ⟨a,b⟩=>⟨a,b.mono g⟩⟩
  | true=>obtain ⟨us,e,r⟩:=h; exact ⟨us,e,Paired.mapP r fun _ _ ⟨a,b⟩=>⟨a,b.mono g⟩⟩
 | dcx kvs=>obtain ⟨ads,us,e,l,r⟩:=h; exact ⟨ads,us,e,l,Paired.mapP r fun _ _ ⟨a,b,c⟩=>⟨a,b.mono g,c.mono g⟩⟩
 | ins c fs =>
  obtain ⟨C,dx,fus,a,b,n,w,l,r⟩:=h
  refine ⟨C,dx,fus,a,b,n,w,l,fun i v e=>?_⟩
  obtain ⟨f,u,e1,e2,q⟩:=r i v e
  exact ⟨f,u,e1,e2,q.mono g⟩
structure Sim (T : Tb) (ι : Ix) (h : AH) (H : Hp) : Prop where
 len : ι.refs.length = h.length
 nd : ι.refs.Nodup
 plive : ∀ a ∈ ι.priv,H a ≠ none
 obj : ∀ (i : Nat) (o : AO) (a : Addr),h[i]? = some o -> ι.refs[i]? = some a -> ∃ u,H a = some u /\ OR T ι H o u
section
variable {T : Tb} {ι : Ix} {h : AH} {H : Hp}
theorem Sim.live (S : Sim T ι h H) : ∀ a ∈ ι.all,H a ≠ none:=fun a ha z=>by
 rcases List.mem_append.mp ha with ha | ha
 ·obtain ⟨i,hi⟩:=List.mem_iff_getElem?.mp ha
  have hl : i < h.length:=by rw [<- S.len]; exact (List.getElem?_eq_some_iff.mp hi).1
  obtain ⟨u,e,_⟩:=S.obj i h[i] a (by simp [hl]) hi
  rw [z] at e; cases e
 ·exact S.plive a ha z
theorem Sim.refl (S : Sim T ι h H) : Grow ι H ι H:=.refl S.live
theorem Sim.fresh (S : Sim T ι h H) {p : Addr} (n : H p = none) : p ∉ ι.all:=fun z=>S.live p z n
theorem Sim.still (S : Sim T ι h H) {H' : Hp} (g : Grow ι H ι H') (k : ∀ a ∈ ι.refs,H' a = H a) : Sim T ι h H' :=
 ⟨S.len,S.nd,fun a ha=>g.live a (List.mem_append_right _ ha),fun i o a e1 e2=>by
  obtain ⟨u,e,r⟩:=S.obj i o a e1 e2
  exact ⟨u,by rw [k a (List.mem_of_getElem? e2)]; exact e,r.mono g⟩⟩
theorem Sim.growNew (S : Sim T ι h H) {p : Addr} {o : HO} (n : H p = none) : Grow ι H ι (upd H p o) :=
 ⟨⟨[],by simp,by simp⟩,rfl,fun a u _ e=>by rw [yal (zaj e n)]; exact e,fun a ha=>by
  rw [yal (show a ≠ p from fun z=>S.fresh n (z ▸ ha))]; exact S.live a ha⟩
theorem Sim.new (S : Sim T ι h H) {p : Addr} {o : HO} (n : H p = none) : Sim T ι h (upd H p o) :=
 S.still (S.growNew n) fun a ha=>yal fun z=>S.fresh n (z ▸ List.mem_append_left _ ha)
def Ix.add (ι : Ix) (p : Addr) : Ix:=⟨ι.refs++[p],ι.priv⟩
theorem Sim.growAdd (S : Sim T ι h H) {p : Addr} {u : HO} (n : H p = none) : Grow ι H (ι.add p) (upd H p u) :=
 ⟨⟨[p],rfl,fun a ha=>by have e : a = p:=(by simpa using ha); rw [e]; exact n⟩,rfl,(S.growNew n).keep,(S.growNew n).live⟩
theorem Sim.add (S : Sim T ι h H) {p : Addr} {u : HO} {o : AO} (n : H p = none) (r : OR T (ι.add p) (upd H p u) o u) : Sim T (ι.add p) (h++[o]) (upd H p u):=by
 refine ⟨by simp [Ix.add,S.len],?_,fun a ha=>(S.growNew n).live a (List.mem_append_right _ ha),fun i o' a e1 e2=>?_⟩
 ·show (ι.refs++[p]).Nodup
  rw [List.nodup_append]
  exact ⟨S.nd,by simp,fun a ha b hb z=>by have e : b = p:=(by simpa using hb); subst e; subst z; exact S.fresh n (List.mem_append_left _ ha)⟩
 ·replace e2 : (ι.refs++[p])[i]? = some a:=e2
  by_cases hi : i < h.length
  ·rw [List.getElem?_append_left hi] at e1
   rw [List.getElem?_append_left (by rw [S.len]; exact hi)] at e2
   obtain ⟨v,e,q⟩:=S.obj i o' a e1 e2
   exact ⟨v,by rw [yal (zaj e n)]; exact e,q.mono (S.growAdd n)⟩
  ·have e3 : i = h.length:=by
    have:=(List.getElem?_eq_some_iff.mp e1).1
    simp at this; omega
   subst e3
   rw [List.getElem?_append_right (Nat.le_refl _)] at e1
   rw [List.getElem?_append_right (by rw [S.len]; exact Nat.le_refl _),S.len] at e2
   simp at e1 e2
   subst e1 e2
   exact ⟨u,zaf,r⟩
theorem Sim.addAt (S : Sim T ι h H) {p : Addr} : (ι.add p).refs[h.length]? = some p:=by
 show (ι.refs++[p])[h.length]? = some p
 rw [<- S.len]; simp
theorem Sim.growSet (S : Sim T ι h H) {i : Nat} {a : Addr} {u : HO} (e : ι.refs[i]? = some a) : Grow ι H ι (upd H a u) :=
 ⟨⟨[],by simp,by simp⟩,rfl,fun b o nb q=>by rw [yal (show b ≠ a from fun z=>nb (by rw [z]; exact List.mem_of_getElem? e))]; exact q,fun b hb=>by
  by_cases z : b = a
  ·subst z; rw [zaf]; simp
  ·rw [yal z]; exact S.live b hb⟩
theorem Sim.set (S : Sim T ι h H) {i : Nat} {a : Addr} {u : HO} {o : AO} (e : ι.refs[i]? = some a) (r : OR T ι (upd H a u) o u) : Sim T ι (h.set i o) (upd H a u):=by
 refine ⟨by simp [S.len],S.nd,fun b hb=>(S.growSet e).live b (List.mem_append_right _ hb),fun j o' b e1 e2=>?_⟩
 by_cases hj : j = i
 ·subst hj
  rw [e] at e2; cases e2
  have hl : j < h.length:=by rw [<- S.len]; exact (List.getElem?_eq_some_iff.mp e).1
  rw [List.getElem?_set_self hl] at e1; cases e1
  exact ⟨u,zaf,r⟩
 ·rw [List.getElem?_set_ne (Ne.symm hj)] at e1
  obtain ⟨v,q,r'⟩:=S.obj j o' b e1 e2
  have ne : b ≠ a:=fun z=>hj (by
   subst z
   exact zei S.nd e2 e)
  exact ⟨v,by rw [yal ne]; exact q,r'.mono (S.growSet e)⟩
end
def Ix.hide (ι : Ix) (D : Addr) : Ix:=⟨ι.refs,D :: ι.priv⟩
theorem Ix.hide_all {ι : Ix} {D a : Addr} : a ∉ (ι.hide D).all ↔ a ∉ ι.all /\ a ≠ D:=by
 unfold Ix.all Ix.hide
 simp only [List.mem_append,List.mem_cons]
 constructor
 ·intro h; exact ⟨fun z=>h (z.elim .inl fun z=>.inr (.inr z)),fun z=>h (.inr (.inl z))⟩
 ·rintro ⟨h1,h2⟩ (z | z | z)
  ·exact h1 (.inl z)
  ·exact h2 z
  ·exact h1 (.inr z)
section
variable {T : Tb} {ι : Ix} {H : Hp} {D : Addr}
theorem Ext.hide {o : HO} (hn : H D = none) : Ext ι H (ι.hide D) (upd H D o):=⟨fun e=>e,fun a u n e=>by rw [yal (zaj e hn)]; exact e,fun a u n e=>Ix.hide_all.mpr ⟨n,zaj e hn⟩⟩
theorem Ext.poke {o : HO} : Ext (ι.hide D) H (ι.hide D) (upd H D o):=⟨fun e=>e,fun a u n e=>by rw [yal (Ix.hide_all.mp n).2]; exact e,fun a u n e=>n⟩
theorem Ext.show : Ext (ι.hide D) H ι H:=⟨fun e=>e,fun a u n e=>e,fun a u n e=>(Ix.hide_all.mp n).1⟩
theorem OR.ext {ι ι' : Ix} {H H' : Hp} (g : Ext ι H ι' H') {o : AO} {u : HO} (h : OR T ι H o u) : OR T ι' H' o u:=by
 cases o with
 | lst xs=>obtain ⟨us,e,r⟩:=h; exact ⟨us,e,r.ext g⟩
 | dct t kvs =>
  cases t with
  | false=>obtain ⟨us,e,r⟩:=h; exact ⟨us,e,Paired.mapP r fun _ _ ⟨a,b⟩=>⟨a,b.ext g⟩⟩
  | true=>obtain ⟨us,e,r⟩:=h; exact ⟨us,e,Paired.mapP r fun _ _ ⟨a,b⟩=>⟨a,b.ext g⟩⟩
 | dcx kvs=>obtain ⟨ads,us,e,l,r⟩:=h; exact ⟨ads,us,e,l,Paired.mapP r fun _ _ ⟨a,b,c⟩=>⟨a,b.ext g,c.ext g⟩⟩
 | ins c fs =>
  obtain ⟨C,dx,fus,a,b,n,w,l,r⟩:=h
  refine ⟨C,dx,fus,a,b,n,w,l,fun i v e=>?_⟩
  obtain ⟨f,u,e1,e2,q⟩:=r i v e
  exact ⟨f,u,e1,e2,q.ext g⟩
theorem Sim.hide {h : AH} {o : HO} (S : Sim T ι h H) (hn : H D = none) : Sim T (ι.hide D) h (upd H D o) :=
 ⟨S.len,S.nd,fun a ha=>by
  rcases List.mem_cons.mp ha with rfl | ha
  ·rw [zaf]; simp
  ·rw [yal (show a ≠ D from fun z=>S.plive a ha (z ▸ hn))]; exact S.plive a ha,fun i o' a e1 e2=>by
  obtain ⟨u,e,r⟩:=S.obj i o' a e1 e2
  exact ⟨u,by rw [yal (zaj e hn)]; exact e,r.ext (Ext.hide hn)⟩⟩
theorem Sim.poke {h : AH} {o : HO} (S : Sim T (ι.hide D) h H) (hr : D ∉ ι.refs) : Sim T (ι.hide D) h (upd H D o) :=
 ⟨S.len,S.nd,fun a ha=>by
  by_cases z : a = D
  ·subst z; rw [zaf]; simp
  ·rw [yal z]; exact S.plive a ha,fun i o' a e1 e2=>by
  obtain ⟨u,e,r⟩:=S.obj i o' a e1 e2
  have ne : a ≠ D:=fun z=>hr (z ▸ List.mem_of_getElem? e2)
  exact ⟨u,by rw [yal ne]; exact e,r.ext Ext.poke⟩⟩
theorem Sim.show {h : AH} (S : Sim T (ι.hide D) h H) : Sim T ι h H :=
 ⟨S.len,S.nd,fun a ha=>S.plive a (List.mem_cons_of_mem _ ha),fun i o' a e1 e2=>by
  obtain ⟨u,e,r⟩:=S.obj i o' a e1 e2
  exact ⟨u,e,r.ext Ext.show⟩⟩
end
def ER (T : Tb) (ι : Ix) (H : Hp) (e : En) (σ : St) : Prop:=e.length = σ.length /\ ∀ (i : Nat) (v : AV),e[i]? = some (some v) -> ∃ u,σ[i]? = some (some u) /\ RV T ι H v u
theorem ER.mono {T : Tb} {ι ι' : Ix} {H H' : Hp} {e : En} {σ : St} (r : ER T ι H e σ) (g : Grow ι H ι' H') : ER T ι' H' e σ :=
 ⟨r.1,fun i v q=>let ⟨u,a,b⟩:=r.2 i v q; ⟨u,a,b.mono g⟩⟩
theorem ER.ext {T : Tb} {ι ι' : Ix} {H H' : Hp} {e : En} {σ : St} (r : ER T ι H e σ) (g : Ext ι H ι' H') : ER T ι' H' e σ :=
 ⟨r.1,fun i v q=>let ⟨u,a,b⟩:=r.2 i v q; ⟨u,a,b.ext g⟩⟩
theorem ER.set {T : Tb} {ι : Ix} {H : Hp} {e : En} {σ : St} (r : ER T ι H e σ) {v : AV} {u : V} (q : RV T ι H v u) (i : Nat) : ER T ι H (e.set i (some v)) (σ.set i (some u)):=by
 refine ⟨by simp [r.1],fun j w z=>?_⟩
 by_cases hj : j = i
 ·subst hj
  by_cases hl : j < e.length
  ·rw [List.getElem?_set_self hl] at z; cases z
   exact ⟨u,by rw [List.getElem?_set_self (by rw [<- r.1]; exact hl)],q⟩
  ·rw [List.getElem?_eq_none (by simpa using hl)] at z; cases z
 ·rw [List.getElem?_set_ne (Ne.symm hj)] at z ⊢
  exact r.2 j w z
def Post {α β : Type} (T : Tb) (ι : Ix) (H : Hp) (E : XK) (R : Ix -> Hp -> α -> β -> Prop) (o : Out α) (Q : β -> Hp -> Prop) : Prop :=
 match o with
 | .ok v h' => ∀ ι' H' u,Grow ι H ι' H' -> Sim T ι' h' H' -> R ι' H' v u -> Q u H'
 | .ex c h' => ∀ ι' H' C,Grow ι H ι' H' -> Sim T ι' h' H' -> T.exc c = some C -> E (.ref C) none H'
 | .bad=>False
def PostS (T : Tb) (ι : Ix) (H : Hp) (E : St -> XK) (o : OutS) (D : Ends) : Prop :=
 match o with
 | .nx e h' => ∀ ι' H' σ',Grow ι H ι' H' -> Sim T ι' h' H' -> ER T ι' H' e σ' -> D.nx σ' H'
 | .bk e h' => ∀ ι' H' σ',Grow ι H ι' H' -> Sim T ι' h' H' -> ER T ι' H' e σ' -> D.bk σ' H'
 | .ct e h' => ∀ ι' H' σ',Grow ι H ι' H' -> Sim T ι' h' H' -> ER T ι' H' e σ' -> D.ct σ' H'
 | .rt v h' => ∀ ι' H' u,Grow ι H ι' H' -> Sim T ι' h' H' -> RV T ι' H' v u -> D.rt u H'
 | .ex c e h' => ∀ ι' H' σ' C,Grow ι H ι' H' -> Sim T ι' h' H' -> ER T ι' H' e σ' -> T.exc c = some C -> E σ' (.ref C) none H'
 | .bad=>False
abbrev REq {α : Type} : Ix -> Hp -> α -> α -> Prop:=fun _ _ a b=>a = b
section
variable {T : Tb} {ι ι' : Ix} {h : AH} {H H' : Hp} {α β γ δ : Type} {E : XK} {R : Ix -> Hp -> α -> β -> Prop} {R' : Ix -> Hp -> γ -> δ -> Prop}
theorem Post.shift {o : Out α} {Q : β -> Hp -> Prop} (p : Post T ι H E R o Q) (g : Grow ι H ι' H') : Post T ι' H' E R o Q:=by
 cases o with
 | ok v h' => exact fun i2 H2 u g2=>p i2 H2 u (g.trans g2)
 | ex c h' => exact fun i2 H2 C g2=>p i2 H2 C (g.trans g2)
 | bad=>exact p
theorem Post.bind {o : Out α} {f : α -> AH -> Out γ} {Q : δ -> Hp -> Prop} {Q1 : β -> Hp -> Prop} (p : Post T ι H E R' (o.bind f) Q)
  (k : ∀ v h' ι' H' u,Grow ι H ι' H' -> Sim T ι' h' H' -> R ι' H' v u -> Post T ι' H' E R' (f v h') Q -> Q1 u H') : Post T ι H E R o Q1:=by
 cases o with
 | ok v h' => exact fun i2 H2 u g S r=>k v h' i2 H2 u g S r (Post.shift p g)
 | ex c h' => exact p
 | bad=>exact p
theorem Post.now {v : α} {u : β} {Q : β -> Hp -> Prop} (p : Post T ι H E R (.ok v h) Q) (S : Sim T ι h H) (r : R ι H v u) : Q u H:=p ι H u S.refl S r
theorem PostS.shift {E : St -> XK} {o : OutS} {D : Ends} (p : PostS T ι H E o D) (g : Grow ι H ι' H') : PostS T ι' H' E o D:=by
 cases o with
 | nx e h' => exact fun i2 H2 u g2=>p i2 H2 u (g.trans g2)
 | bk e h' => exact fun i2 H2 u g2=>p i2 H2 u (g.trans g2)
 | ct e h' => exact fun i2 H2 u g2=>p i2 H2 u (g.trans g2)
 | rt v h' => exact fun i2 H2 u g2=>p i2 H2 u (g.trans g2)
 | ex c e h' => exact fun i2 H2 u C g2=>p i2 H2 u C (g.trans g2)
 | bad=>exact p
theorem PostS.go {E : St -> XK} {o : Out α} {en : En} {σ : St} {f : α -> AH -> OutS} {D : Ends} {Q1 : β -> Hp -> Prop} (p : PostS T ι H E (o.go en f) D) (er : ER T ι H en σ)
  (k : ∀ v h' ι' H' u,Grow ι H ι' H' -> Sim T ι' h' H' -> R ι' H' v u -> PostS T ι' H' E (f v h') D -> Q1 u H') : Post T ι H (E σ) R o Q1:=by
 cases o with
 | ok v h' => exact fun i2 H2 u g S r=>k v h' i2 H2 u g S r (PostS.shift p g)
 | ex c h' => exact fun i2 H2 C g S e=>p i2 H2 σ C g S (er.mono g) e
 | bad=>exact p
end
def tE (T : Tb) (E : St -> XK) (a : SE) : TE:=fun σ H Q=>∃ ι h en,Sim T ι h H /\ ER T ι H en σ /\ Post T ι H (E σ) (RV T) (a en h) Q
def tT (T : Tb) (E : St -> XK) (a : SB) : TT:=fun σ H Q=>∃ ι h en,Sim T ι h H /\ ER T ι H en σ /\ Post T ι H (E σ) REq (a en h) Q
def tA (T : Tb) (E : St -> XK) (a : SL) : TA:=fun σ H Q=>∃ ι h en,Sim T ι h H /\ ER T ι H en σ /\ Post T ι H (E σ) (RVs T) (a en h) Q
def tS (T : Tb) (E : St -> XK) (b : SS) : TS:=fun D σ H=>∃ ι h en,Sim T ι h H /\ ER T ι H en σ /\ PostS T ι H E (b en h) D
abbrev PEA (T : Tb) (E : St -> XK) (X : Cx) (e : Expr) (a : SE) : Prop:=PE X e (tE T E a)
abbrev PTA (T : Tb) (E : St -> XK) (X : Cx) (e : Expr) (a : SB) : Prop:=PT X e (tT T E a)
abbrev PWA (T : Tb) (E : St -> XK) (X : Cx) (e : Expr) (a : SB) : Prop:=PW X e (tT T E a)
abbrev PAA (T : Tb) (E : St -> XK) (X : Cx) (es : List Expr) (a : SL) : Prop:=PA X es (tA T E a)
abbrev PSA (T : Tb) (E : St -> XK) (X : Cx) (st : Stmt) (b : SS) : Prop:=PS X st (tS T E b)
abbrev PSsA (T : Tb) (E : St -> XK) (X : Cx) (sts : List Stmt) (b : SS) : Prop:=PSs X sts (tS T E b)
theorem yaE {X : Cx} {e : Expr} {t t' : TE} (h : PE X e t) (k : ∀ σ H Q,t' σ H Q -> t σ H Q) : PE X e t' := fun pins s σ H Q I q=>h pins s σ H Q I (k σ H Q q)
theorem yd7 {X : Cx} {e : Expr} {t t' : TT} (h : PT X e t) (k : ∀ σ H Q,t' σ H Q -> t σ H Q) : PT X e t' := fun pins s σ H Q I q=>h pins s σ H Q I (k σ H Q q)
theorem yfj {X : Cx} {e : Expr} {t t' : TT} (h : PW X e t) (k : ∀ σ H Q,t' σ H Q -> t σ H Q) : PW X e t' := fun w pins s σ H Q I q=>h w pins s σ H Q I (k σ H Q q)
theorem yfk {X : Cx} {e : List Expr} {t t' : TA} (h : PA X e t) (k : ∀ σ H Q,t' σ H Q -> t σ H Q) : PA X e t' := fun p pins s σ H Q I q=>h p pins s σ H Q I (k σ H Q q)
theorem ybS {X : Cx} {e : Stmt} {t t' : TS} (h : PS X e t) (k : ∀ D σ H,t' D σ H -> t D σ H) : PS X e t' := fun pins s σ H D I q=>h pins s σ H D I (k D σ H q)
theorem ze7 {X : Cx} {e : List Stmt} {t t' : TS} (h : PSs X e t) (k : ∀ D σ H,t' D σ H -> t D σ H) : PSs X e t' := fun pins s σ H D I q=>h pins s σ H D I (k D σ H q)
theorem ygW {X : Cx} {st : Stmt} {t : TS} (h : PS X.nox st t) : PS X st t:=fun pins s σ H D I hw=>by
 refine wpAny_mono (h pins s σ H D (I.wish _) hw) (fun f s' q=>SP.unwish q) fun _ _ z=>z.elim
end Sm
namespace Sm
open PySem L2
instance : DecidableEq AV:=fun _ _=>Classical.propDecidable _
@[simp] def sVar (i : Nat) : SE:=fun en h=>match en[i]? with
 | some (some v)=>.ok v h
 | _=>.bad
@[simp] def sLit (v : AV) : SE:=fun _ h=>.ok v h
abbrev F1:=AV -> AH -> Out AV
abbrev F2:=AV -> AV -> AH -> Out AV
@[simp] def sOp1 (f : F1) (a : SE) : SE:=fun en h=>(a en h).bind f
@[simp] def sOp2 (f : F2) (a b : SE) : SE:=fun en h=>(a en h).bind fun x h1=>(b en h1).bind fun y h2=>f x y h2
@[simp] def sNil : SL:=fun _ h=>.ok [] h
@[simp] def yab (a : SE) (r : SL) : SL:=fun en h=>(a en h).bind fun x h1=>(r en h1).bind fun xs h2=>.ok (x :: xs) h2
@[simp] def yae (F : Fn) (as : SL) : SE:=fun en h=>(as en h).bind F
@[simp] def sTup (as : SL) : SE:=fun en h=>(as en h).bind fun xs h1=>if xs.length <= 1000 then .ok (.tup xs) h1 else .bad
@[simp] def sLst (as : SL) : SE:=fun en h=>(as en h).bind fun xs h1=>if xs.length <= 1000 then .ok (.fl xs) h1 else .bad
@[simp] def yb5 (as : SL) : SE:=fun en h=>(as en h).bind fun xs h1=>if xs.length <= 1000 then .ok (.ref h1.length) (h1++[.lst xs]) else .bad
@[simp] def yeq (t : Bool) : SE:=fun _ h=>.ok (.ref h.length) (h++[.dct t []])
@[simp] def yis (v : AV) (h : AH) : Option (List AV):=match v with
 | .tup xs=>some xs
 | .fl xs=>some xs
 | .ref n=>match h[n]? with
  | some (.lst xs)=>some xs
  | _=>none
 | _=>none
@[simp] def ybi (v : AV) (h : AH) : Option (List AV):=match v with
 | .fl xs=>some xs
 | .ref n=>match h[n]? with
  | some (.lst xs)=>some xs
  | _=>none
 | _=>none
@[simp] def fAdd : F2:=fun x y h=>match x,y with
 | .int i,.int j=>.ok (.int (i + j)) h
 | .str i,.str j=>if i.length + j.length <= sizeLine then .ok (.str (i++j)) h else .bad
 | .tup xs,.tup ys=>if xs ≠ [] /\ xs.length + ys.length <= sizeLine then .ok (.tup (xs++ys)) h else .bad
 | x,y=>match ybi x h,ybi y h with
  | some xs,some ys=>if xs.length + ys.length <= sizeLine then .ok (.fl (xs++ys)) h else .bad
  | _,_=>.bad
@[simp] def fSub : F2:=fun x y h=>match x,y with
 | .int i,.int j=>.ok (.int (i - j)) h
 | _,_=>.bad
@[simp] def fMul : F2:=fun x y h=>match x,y with
 | .int i,.int j=>if (i.natAbs < 2 ^ 64 \/ j.natAbs < 2 ^ 64) \/ (i.natAbs < 2 ^ 4000 /\ j.natAbs < 2 ^ 4000) then .ok (.int (i * j)) h else .bad
 | _,_=>.bad
@[simp] def fDiv : F2:=fun x y h=>match x,y with
 | .int i,.int j=>if 0 < j /\ j.natAbs < 2 ^ 200 then .ok (.int (i / j)) h else .bad
 | _,_=>.bad
@[simp] def fMod : F2:=fun x y h=>match x,y with
 | .int i,.int j=>if 0 < j then .ok (.int (i % j)) h else .bad
 | _,_=>.bad
@[simp] def fPow : F2:=fun x y h=>match x,y with
 | .int i,.int j=>if 0 <= j /\ j <= 1000000 /\ i.natAbs < 2 ^ 64 then .ok (.int (i ^ j.toNat)) h else .bad
 | _,_=>.bad
@[simp] def fNeg : F1:=fun x h=>match x with
 | .int i=>.ok (.int (-i)) h
 | _=>.bad
def toDs (f : AV -> Option PyData) : List AV -> Option (List PyData)
 | []=>some []
 | x :: xs=>match f x,toDs f xs with
  | some d,some ds=>some (d :: ds)
  | _,_=>none
def toD : Nat -> AH -> AV -> Option PyData
 | 0,_,v=>match v with
  | .non=>some .none
  | .bl b=>some (.bool b)
  | .int i=>some (.int i)
  | .str x=>some (.str x)
  | _=>none
 | n + 1,h,v=>match v with
  | .non=>some .none
  | .bl b=>some (.bool b)
  | .int i=>some (.int i)
  | .str x=>some (.str x)
  | .tup xs=>(toDs (toD n h) xs).map .tuple
  | .fl xs=>(toDs (toD n h) xs).map .list
  | .ref k=>match h[k]? with
   | some (.lst xs)=>(toDs (toD n h) xs).map .list
   | _=>none
  | .exc _=>none
@[simp] def eqA (x y : AV) (h : AH) : Option Bool:=match x,y with
 | .int i,.int j=>some (decide (i = j))
 | .str i,.str j=>some (decide (i = j))
 | .bl i,.bl j=>some (decide (i = j))
 | .non,.non=>some true
 | x,y=>match toD 8 h x,toD 8 h y with
  | some d,some e=>some (PyData.eqv d e)
  | _,_=>none
@[simp] def fEq : F2:=fun x y h=>match eqA x y h with
 | some b=>.ok (.bl b) h
 | none=>.bad
@[simp] def fNe : F2:=fun x y h=>match eqA x y h with
 | some b=>.ok (.bl (!b)) h
 | none=>.bad
@[simp] def fLt : F2:=fun x y h=>match x,y with
 | .int i,.int j=>.ok (.bl (decide (i < j))) h
 | .str i,.str j=>.ok (.bl (decide (i.cps.toList < j.cps.toList))) h
 | _,_=>.bad
@[simp] def fLe : F2:=fun x y h=>match x,y with
 | .int i,.int j=>.ok (.bl (decide (i <= j))) h
 | .str i,.str j=>.ok (.bl (!decide (j.cps.toList < i.cps.toList))) h
 | _,_=>.bad
@[simp] def fGt : F2:=fun x y h=>match x,y with
 | .int i,.int j=>.ok (.bl (decide (j < i))) h
 | _,_=>.bad
@[simp] def fGe : F2:=fun x y h=>match x,y with
 | .int i,.int j=>.ok (.bl (decide (j <= i))) h
 | _,_=>.bad
@[simp] def fIsN : F2:=fun x y h=>match y with
 | .non=>.ok (.bl (decide (x = .non))) h
 | _=>.bad
@[simp] def truA (v : AV) (h : AH) : Option Bool:=match v with
 | .non=>some false
 | .bl b=>some b
 | .int i=>some (i != 0)
 | .str y=>some ((y.length : Int) != 0)
 | .tup xs=>some (!xs.isEmpty)
 | .fl xs=>some (!xs.isEmpty)
 | .ref n=>match h[n]? with
  | some (.lst xs)=>some (!xs.isEmpty)
  | some (.dct false kvs)=>some (!kvs.isEmpty)
  | _=>none
 | _=>none
@[simp] def ybJ (a : SE) : SB:=fun en h=>(a en h).bind fun v h1=>match truA v h1 with
 | some b=>.ok b h1
 | none=>.bad
@[simp] def yam (a : SE) : SB:=fun en h=>(a en h).bind fun v h1=>match v with
 | .bl b=>.ok b h1
 | _=>.bad
@[simp] def sAnd (a b : SB) : SB:=fun en h=>(a en h).bind fun x h1=>if x = true then b en h1 else .ok false h1
@[simp] def sOr (a b : SB) : SB:=fun en h=>(a en h).bind fun x h1=>if x = true then .ok true h1 else b en h1
@[simp] def sNot (a : SB) : SB:=fun en h=>(a en h).bind fun x h1=>.ok (!x) h1
@[simp] def ydX (a b : SE) : SE:=fun en h=>(a en h).bind fun v h1=>match v with
 | .bl k=>if k = true then b en h1 else .ok (.bl false) h1
 | _=>.bad
@[simp] def sOrV (a b : SE) : SE:=fun en h=>(a en h).bind fun v h1=>match v with
 | .bl k=>if k = true then .ok (.bl true) h1 else b en h1
 | _=>.bad
@[simp] def yfV (a : SE) : SE:=fun en h=>(a en h).bind fun v h1=>match v with
 | .bl b=>.ok (.bl (!b)) h1
 | _=>.bad
@[simp] def sIfE (c : SB) (a b : SE) : SE:=fun en h=>(c en h).bind fun x h1=>if x = true then a en h1 else b en h1
@[simp] def ybZ (f f' : F2) (a b c : SE) : SE:=fun en h=>(a en h).bind fun x h1=>(b en h1).bind fun y h2=>(f x y h2).bind fun z h3=>match z with
 | .bl k=>if k = true then (c en h3).bind fun w h4=>f' y w h4 else .ok (.bl false) h3
 | _=>.bad
@[simp] def yaA : SS:=fun en h=>.nx en h
@[simp] def sSeq (a b : SS) : SS:=fun en h=>match a en h with
 | .nx e h' => b e h'
 | o=>o
@[simp] def yaG (a : SE) : SS:=fun en h=>(a en h).go en fun _ h' => .nx en h'
@[simp] def sRet (a : SE) : SS:=fun en h=>(a en h).go en fun v h' => .rt v h'
@[simp] def sIf (c : SB) (a b : SS) : SS:=fun en h=>(c en h).go en fun x h' => if x = true then a en h' else b en h'
@[simp] def sSet (i : Nat) (a : SE) : SS:=fun en h=>(a en h).go en fun v h' => .nx (en.set i (some v)) h'
def yfl (c : SB) (b : SS) : Nat -> SS
 | 0=>fun _ _=>.bad
 | n + 1=>fun en h=>match c en h with
  | .ok true h1=>(match b en h1 with
   | .nx e2 h2=>yfl c b n e2 h2
   | .ct e2 h2=>yfl c b n e2 h2
   | .bk e2 h2=>.nx e2 h2
   | .rt v h2=>.rt v h2
   | _=>.bad)
  | .ok false h1=>.nx en h1
  | _=>.bad
abbrev SI:=En -> AH -> Out (List AV × Option Nat)
@[simp] def ybF (w : Option Nat) (xs : List AV) (h : AH) : Bool:=match w with
 | none=>true
 | some n=>match h[n]? with
  | some (.lst ys)=>decide (ys = xs)
  | _=>false
inductive Tg where
 | nm (i : Nat)
 | tup (is : List Nat)
 | nst (i : Nat) (is : List Nat)
@[simp] def yd8 : List Nat -> List AV -> En -> Option En
 | [],[],en=>some en
 | i :: is,x :: xs,en=>yd8 is xs (en.set i (some x))
 | _,_,_=>none
@[simp] def setT (t : Tg) (v : AV) (en : En) : Option En:=match t,v with
 | .nm i,v=>some (en.set i (some v))
 | .tup is,.tup xs=>yd8 is xs en
 | .nst i is,.tup [y,.tup xs]=>yd8 is xs (en.set i (some y))
 | _,_=>none
def ya4 (w : Option Nat) (all : List AV) (t : Tg) (b : SS) : List AV -> SS
 | []=>fun en h=>if ybF w all h = true then .nx en h else .bad
 | x :: xs=>fun en h=>if ybF w all h = true then
   (match setT t x en with
   | some e1=>(match b e1 h with
    | .nx e2 h2=>ya4 w all t b xs e2 h2
    | .ct e2 h2=>ya4 w all t b xs e2 h2
    | .bk e2 h2=>.nx e2 h2
    | .rt v h2=>.rt v h2
    | _=>.bad)
   | none=>.bad) else .bad
@[simp] def sFor (it : SI) (t : Tg) (b : SS) : SS:=fun en h=>match it en h with
 | .ok (xs,w) h1=>ya4 w xs t b xs en h1
 | _=>.bad
@[simp] def yfW (t : Tg) (a : SE) : SS:=fun en h=>(a en h).go en fun v h' => match setT t v en with
 | some e=>.nx e h'
 | none=>.bad
@[simp] def iVal (a : SE) : SI:=fun en h=>(a en h).bind fun v h1=>match v with
 | .fl xs=>.ok (xs,none) h1
 | .tup xs=>.ok (xs,none) h1
 | .str z=>.ok (z.cps.toList.map (fun c=>.str ⟨#[c]⟩),none) h1
 | .ref n=>match h1[n]? with
  | some (.lst xs)=>.ok (xs,some n) h1
  | _=>.bad
 | _=>.bad
def yau (lo : Int) : Nat -> List AV
 | 0=>[]
 | n + 1=>.int lo :: yau (lo + 1) n
@[simp] def yaW (a : SE) : SI:=fun en h=>(a en h).bind fun v h1=>match v with
 | .int j=>if j.natAbs < 2 ^ 62 then .ok (yau 0 j.toNat,none) h1 else .bad
 | _=>.bad
@[simp] def yaX (a b : SE) : SI:=fun en h=>(a en h).bind fun v h1=>(b en h1).bind fun w h2=>match v,w with
 | .int i,.int j=>if i.natAbs < 2 ^ 62 /\ j.natAbs < 2 ^ 62 then .ok (yau i (j - i).toNat,none) h2 else .bad
 | _,_=>.bad
def numbered (k : Nat) : List AV -> List AV
 | []=>[]
 | x :: xs=>.tup [.int k,x] :: numbered (k + 1) xs
@[simp] def iEnum (a : SE) : SI:=fun en h=>(a en h).bind fun v h1=>match v with
 | .fl xs=>.ok (numbered 0 xs,none) h1
 | _=>.bad
def yaM (js : List Nat) (en : En) (w : Option Nat) (all : List AV) (c : SB) (e : SE) : List AV -> List AV -> AH -> Out (List AV)
 | [],ys,h=>if ybF w all h = true then .ok ys h else .bad
 | x :: xs,ys,h=>if ybF w all h = true /\ ys.length < sizeLine then
   (match c (some x :: js.map fun j=>(en[j]?).join) h with
   | .ok true h1=>(match e (some x :: js.map fun j=>(en[j]?).join) h1 with
    | .ok v h2=>yaM js en w all c e xs (ys++[v]) h2
    | _=>.bad)
   | .ok false h1=>yaM js en w all c e xs ys h1
   | _=>.bad) else .bad
@[simp] def sYes : SB:=fun _ h=>.ok true h
@[simp] def ya1 (js : List Nat) (it : SI) (c : SB) (e : SE) : SE:=fun en h=>match it en h with
 | .ok (xs,w) h1=>(match yaM js en w xs c e xs [] h1 with
  | .ok ys h2=>.ok (.fl ys) h2
  | _=>.bad)
 | _=>.bad
@[simp] def mkFn (n m : Nat) (b : SS) : Fn:=fun args h =>
 if args.length = n then
  match b (args.map some++List.replicate (m - n) none) h with
  | .nx _ h' => .ok .non h'
  | .rt v h' => .ok v h'
  | .ex c _ h' => .ex c h'
  | _=>.bad
 else .bad
@[simp] def yaj (c : Nat) (F : Fn) (o : SE) (as : SL) : SE:=fun en h=>(o en h).bind fun x h1=>match x with
 | .ref n=>match h1[n]? with
  | some (.ins c' _)=>if c' = c then (as en h1).bind fun xs h2=>F (x :: xs) h2 else .bad
  | _=>.bad
 | _=>.bad
@[simp] def ydj (c k : Nat) (F : Fn) (as : SL) : SE:=fun en h=>(as en h).bind fun xs h1=>match F (.ref h1.length :: xs) (h1++[.ins c (List.replicate k none)]) with
 | .ok .non h2=>.ok (.ref h1.length) h2
 | .ex c h2=>.ex c h2
 | _=>.bad
@[simp] def sFld (c i : Nat) (o : SE) : SE:=fun en h=>(o en h).bind fun x h1=>match x with
 | .ref n=>match h1[n]? with
  | some (.ins c' fs)=>if c' = c then (match fs[i]? with | some (some v)=>.ok v h1 | _=>.bad) else .bad
  | _=>.bad
 | _=>.bad
@[simp] def yb6 (c i : Nat) (o v : SE) : SS:=fun en h=>(v en h).go en fun y h1=>(o en h1).go en fun x h2=>match x with
 | .ref n=>match h2[n]? with
  | some (.ins c' fs)=>if c' = c then .nx en (h2.set n (.ins c (fs.set i (some y)))) else .bad
  | _=>.bad
 | _=>.bad
@[simp] def ycr (c : Nat) (as : SL) : SS:=fun en h=>(as en h).go en fun xs h1=>if xs.length <= 1000 then .ex c en h1 else .bad
@[simp] def keyOf? (v : AV) : Option Key:=match v with
 | .int i=>some (.inl i)
 | .str x=>some (.inr x)
 | _=>none
@[simp] def keysOf? : List AV -> Option (List Key)
 | []=>some []
 | v :: r=>match keyOf? v,keysOf? r with
  | some k,some ks=>some (k :: ks)
  | _,_=>none
@[simp] def ybX (t : Bool) (v : AV) : Bool:=match t,v with
 | false,v=>(keyOf? v).isSome
 | true,.tup xs=>(keysOf? xs).isSome
 | true,_=>false
def valA (kvs : List (AV × AV)) (k : AV) : Option AV:=(kvs.find? fun p=>decide (p.1 = k)).map (·.2)
def putA (kvs : List (AV × AV)) (k v : AV) : List (AV × AV) :=
 if kvs.any (fun p=>decide (p.1 = k)) then kvs.map fun p=>if p.1 = k then (p.1,v) else p else kvs++[(k,v)]
@[simp] def fIx : F2:=fun x y h=>match x,y with
 | .str z,.int i=>match atI z.cps.toList i with
  | some c=>.ok (.str ⟨#[c]⟩) h
  | none=>.bad
 | .tup xs,.int i=>match atI xs i with
  | some v=>.ok v h
  | none=>.bad
 | .fl xs,.int i=>match atI xs i with
  | some v=>.ok v h
  | none=>.bad
 | .ref n,y=>match h[n]? with
  | some (.lst xs)=>match y with
   | .int i=>match atI xs i with
    | some v=>.ok v h
    | none=>.bad
   | _=>.bad
  | some (.dct t kvs)=>if ybX t y then (match valA kvs y with | some v=>.ok v h | none=>.bad) else .bad
  | _=>.bad
 | _,_=>.bad
@[simp] def ycs (o i v : SE) : SS:=fun en h=>(v en h).go en fun z h1=>(o en h1).go en fun x h2=>(i en h2).go en fun y h3=>match x with
 | .ref n=>match h3[n]? with
  | some (.lst xs)=>match y with
   | .int k=>match ixN xs.length k with
    | some j=>.nx en (h3.set n (.lst (xs.set j z)))
    | none=>.bad
   | _=>.bad
  | some (.dct t kvs)=>if ybX t y = true /\ kvs.length < sizeLine then .nx en (h3.set n (.dct t (putA kvs y z))) else .bad
  | _=>.bad
 | _=>.bad
@[simp] def inA (x y : AV) (h : AH) : Option Bool:=match x,y with
 | .str i,.str j=>some (!(Builtin.Str.occurrences j i 0 j.length 1).isEmpty)
 | x,.ref n=>match h[n]? with
  | some (.dct t kvs)=>if ybX t x then some (valA kvs x).isSome else none
  | some (.lst xs)=>match toD 8 h x,toDs (toD 8 h) xs with
   | some d,some ds=>some (ds.any fun e=>PyData.eqv e d)
   | _,_=>none
  | _=>none
 | x,.fl xs=>match toD 8 h x,toDs (toD 8 h) xs with
  | some d,some ds=>some (ds.any fun e=>PyData.eqv e d)
  | _,_=>none
 | x,.tup xs=>match toD 8 h x,toDs (toD 8 h) xs with
  | some d,some ds=>some (ds.any fun e=>PyData.eqv e d)
  | _,_=>none
 | _,_=>none
@[simp] def yeF : F2:=fun x y h=>match inA x y h with
 | some b=>.ok (.bl (!b)) h
 | none=>.bad
@[simp] def fLen : Fn:=fun args h=>match args with
 | [.str x]=>.ok (.int x.length) h
 | [.tup xs]=>.ok (.int xs.length) h
 | [.fl xs]=>.ok (.int xs.length) h
 | [.ref n]=>match h[n]? with
  | some (.lst xs)=>.ok (.int xs.length) h
  | some (.dct false kvs)=>.ok (.int kvs.length) h
  | _=>.bad
 | _=>.bad
@[simp] def fAbs : Fn:=fun args h=>match args with
 | [.int i]=>.ok (.int (if i < 0 then -i else i)) h
 | _=>.bad
@[simp] def ydY : Fn:=fun args h=>match args with
 | [.int i,.int j]=>.ok (.int (if j > i then j else i)) h
 | _=>.bad
@[simp] def ydr : List AV -> Option (List Bool)
 | []=>some []
 | .bl b :: r=>(ydr r).map (b :: ·)
 | _ :: _=>none
@[simp] def fAll : Fn:=fun args h=>match args with
 | [.fl xs]=>match ydr xs with
  | some bs=>.ok (.bl (bs.all id)) h
  | none=>.bad
 | _=>.bad
@[simp] def fInt : Fn:=fun args h=>match args with
 | [.int i]=>.ok (.int i) h
 | [.bl k]=>.ok (.int (if k then 1 else 0)) h
 | _=>.bad
@[simp] def tyN (v : AV) (h : AH) : Option String:=match v with
 | .non=>some "NoneType"
 | .bl _=>some "bool"
 | .int _=>some "int"
 | .str _=>some "str"
 | .tup _=>some "tuple"
 | .fl _=>some "list"
 | .ref n=>match h[n]? with
  | some (.lst _)=>some "list"
  | some (.dct _ _)=>some "dict"
  | _=>none
 | .exc _=>none
@[simp] def sIsB (t : String) (a : SE) : SE:=fun en h=>(a en h).bind fun v h1=>match tyN v h1 with
 | some n=>.ok (.bl (n == t || (t == "int" && n == "bool"))) h1
 | none=>.bad
abbrev FM:=AV -> List AV -> AH -> Out AV
@[simp] def ya2 (v : AV) (h : AH) : Bool:=(ybi v h).isSome
@[simp] def ybj (v : AV) (_ : AH) : Bool:=match v with
 | .str _=>true
 | _=>false
@[simp] def sBM (chk : AV -> AH -> Bool) (f : FM) (o : SE) (as : SL) : SE:=fun en h=>(o en h).bind fun x h1=>if chk x h1 = true then (as en h1).bind fun xs h2=>f x xs h2 else .bad
@[simp] def yaD : FM:=fun x vs h=>match x,vs with
 | .ref n,[y]=>match h[n]? with
  | some (.lst xs)=>if xs.length < sizeLine then .ok .non (h.set n (.lst (xs++[y]))) else .bad
  | _=>.bad
 | _,_=>.bad
def yfX (d : PyData) : List PyData -> Nat -> Option Nat
 | [],_=>none
 | e :: r,k=>if PyData.eqv e d = true then some k else yfX d r (k + 1)
@[simp] def yir : FM:=fun x vs h=>match vs with
 | [y]=>match ybi x h with
  | some xs=>match toD 8 h y,toDs (toD 8 h) xs with
   | some d,some ds=>match yfX d ds 0 with
    | some k=>.ok (.int k) h
    | none=>.bad
   | _,_=>.bad
  | none=>.bad
 | _=>.bad
@[simp] def yen : FM:=fun x vs h=>match x,vs with
 | .str z,[.str y]=>.ok (.int ((Builtin.Str.occurrences z y 0 z.length (z.length + 1)).length : Nat)) h
 | _,_=>.bad
@[simp] def ycM : List AV -> Option (List Str)
 | []=>some []
 | .str x :: r=>(ycM r).map (x :: ·)
 | _ :: _=>none
@[simp] def ybD : FM:=fun x vs h=>match x,vs with
 | .str z,[y]=>if z = Str.empty then (match ybi y h with
  | some xs=>match ycM xs with
   | some zs=>if ((zs.map fun x : Str=>x.cps.toList).flatten).length <= 1000000 then .ok (.str ⟨((zs.map fun x : Str=>x.cps.toList).flatten).toArray⟩) h else .bad
   | none=>.bad
  | none=>.bad) else .bad
 | _,_=>.bad
def cutA {α : Type} (xs : List α) (lo hi : Option Int) : List α:=(xs.drop (HT.sIx xs.length 0 lo)).take (HT.sIx xs.length xs.length hi - HT.sIx xs.length 0 lo)
end Sm
namespace Sm
open PySem L2
structure CA (T : Tb) (E : St -> XK) (X : Cx) : Prop where
 hK : X.K = T.K
 pass : ycn (CXE X.prog X.w) X E
abbrev EN : St -> XK:=fun _=>E0
theorem CA.nox {T : Tb} {E : St -> XK} {X : Cx} (c : CA T E X) : CA T EN X.nox:=⟨c.hK,fun _ _ _ _ _ _ _ h=>by
 obtain ⟨_,_,_,_,_,_,_,_,_,_,_,_,_,_,q⟩:=h
 exact q.elim⟩
theorem CA.never {T : Tb} {X : Cx} (hK : X.K = T.K) : CA T EN X:=⟨hK,fun _ _ _ _ _ _ _ h=>by
 obtain ⟨_,_,_,_,_,_,_,_,_,_,_,_,_,_,q⟩:=h
 exact q.elim⟩
section
variable {T : Tb} {ι : Ix} {h : AH} {H : Hp}
theorem ybx {x : AV} {u : V} {xs : List AV} (S : Sim T ι h H) (r : RV T ι H x u) (e : ybi x h = some xs) : ∃ a us,u = .ref a /\ SqL T.K H a us /\ RVs T ι H xs us:=by
 unfold ybi at e
 cases r with
 | fl n q r=>cases e; exact ⟨_,_,rfl,.inl q,r⟩
 | kfl q r=>cases e; exact ⟨_,_,rfl,.inr q,r⟩
 | @ref k a q =>
  dsimp only at e
  split at e
  ·rename_i ys hk
   cases e
   obtain ⟨u,e1,us,rfl,r⟩:=S.obj k _ a hk q
   exact ⟨a,us,rfl,.inl (.inl e1),r⟩
  ·cases e
 | _=>cases e
theorem yc4 {u : V} {xs : List AV} (r : RV T ι H (.tup xs) u) : ∃ a us,u = .ref a /\ SqT T.K H a us /\ RVs T ι H xs us:=by
 cases r with
 | tup n q r=>exact ⟨_,_,rfl,.of q,r⟩
theorem yaV {u : V} {x : Str} (r : RV T ι H (.str x) u) : u = .str x /\ x.length <= sizeLine /\ x.cps.all (· < 0x110000) = true:=by
 cases r with
 | str n o=>exact ⟨rfl,n,o⟩
theorem yax {u : V} {i : Int} (r : RV T ι H (.int i) u) : u = .int i:=by cases r; rfl
theorem yct {u : V} {i : Bool} (r : RV T ι H (.bl i) u) : u = .bl i:=by cases r; rfl
theorem yd9 {u : V} (r : RV T ι H .non u) : u = .non:=by cases r; rfl
theorem ydN {us : List V} {xs : List AV} {p : Addr} {E : XK} {Q : VK} (S : Sim T ι h H) (r : RVs T ι H xs us) (n : H p = none) (q : Post T ι H E (RV T) (.ok (.fl xs) h) Q) : Q (.ref p) (upd H p (.lst us)) :=
 q ι _ _ (S.growNew n) (S.new n) (.fl (S.fresh n) (.inl zaf) (r.mono (S.growNew n)))
theorem zc2 {us : List V} {xs : List AV} {p : Addr} {E : XK} {Q : VK} (S : Sim T ι h H) (r : RVs T ι H xs us) (n : H p = none) (q : Post T ι H E (RV T) (.ok (.tup xs) h) Q) : Q (.ref p) (upd H p (.tup us)) :=
 q ι _ _ (S.growNew n) (S.new n) (.tup (S.fresh n) zaf (r.mono (S.growNew n)))
theorem zis {us : List V} {xs : List AV} {p : Addr} {E : XK} {Q : VK} (S : Sim T ι h H) (r : RVs T ι H xs us) (n : H p = none) (q : Post T ι H E (RV T) (.ok (.ref h.length) (h++[.lst xs])) Q) : Q (.ref p) (upd H p (.lst us)) :=
 q _ _ _ (S.growAdd n) (S.add n ⟨us,rfl,r.mono (S.growAdd n)⟩) (.ref S.addAt)
end
section
variable {T : Tb} {E : St -> XK} {X : Cx} {pos : Pos}
theorem yaa (i : Nat) {x : Str} {p : Pos} (hN : X.N[i]? = some x:=by rfl) (hv : Vis X.env.scope x:=by first | exact Or.inl rfl | exact Or.inr (Or.inl rfl) | exact Or.inr (Or.inr rfl)) (hd : (x == ("__debug__" : Str)) = false:=by decide)
  (hcd : (x == ("__classdict__" : Str)) = false:=by decide) : PEA T E X (.Name x p) (sVar i) :=
 yaE (pv i hN hv hd hcd) fun σ H Q ⟨ι,h,en,S,er,q⟩=>by
  unfold sVar at q
  split at q
  ·rename_i v hv
   obtain ⟨u,e,r⟩:=er.2 i v hv
   exact ⟨u,e,q.now S r⟩
  ·exact q.elim
theorem yaf {i j p} : PEA T E X (.Constant (.int i) j p) (sLit (.int i)):=yaE ygj fun σ H Q ⟨ι,h,en,S,er,q⟩=>q.now S (.int i)
theorem r_bl {i j p} : PEA T E X (.Constant (.bool i) j p) (sLit (.bl i)):=yaE yhy fun σ H Q ⟨ι,h,en,S,er,q⟩=>q.now S (.bl i)
theorem ydx {j p} : PEA T E X (.Constant .none j p) (sLit .non):=yaE ygk fun σ H Q ⟨ι,h,en,S,er,q⟩=>q.now S .non
theorem yas {x j p} (n : x.length <= sizeLine:=by decide +kernel) (o : x.cps.all (· < 0x110000) = true:=by decide +kernel) : PEA T E X (.Constant (.str x) j p) (sLit (.str x)):=yaE ydL fun σ H Q ⟨ι,h,en,S,er,q⟩=>q.now S (.str n o)
theorem zit {x : Str} {i : Int} {t : Tok} {p : Pos} (hg : Gl X x) (hm : X.mg x = some (.int i t)) (hd : (x == ("__debug__" : Str)) = false:=by decide) : PEA T E X (.Name x p) (sLit (.int i)) :=
 yaE (zb2 (v:=.int i) hg hm ⟨t,rfl⟩ hd) fun σ H Q ⟨ι,h,en,S,er,q⟩=>q.now S (.int i)
theorem ziu {x z : Str} {t : Tok} {p : Pos} (hg : Gl X x) (hm : X.mg x = some (.str z t)) (n : z.length <= sizeLine:=by decide +kernel) (o : z.cps.all (· < 0x110000) = true:=by decide +kernel) (hd : (x == ("__debug__" : Str)) = false:=by decide) : PEA T E X (.Name x p) (sLit (.str z)) :=
 yaE (zb2 (v:=.str z) hg hm ⟨t,rfl⟩ hd) fun σ H Q ⟨ι,h,en,S,er,q⟩=>q.now S (.str n o)
def OpS (T : Tb) (f : F2) (r : R2) : Prop:=∀ (ι : Ix) (h : AH) (H : Hp) (x y : AV) (u w : V) (E : XK) (Q : VK),Sim T ι h H -> RV T ι H x u -> RV T ι H y w -> Post T ι H E (RV T) (f x y h) Q -> r u w H Q
def Op (T : Tb) (X : Cx) (g : Value -> Value -> Sem Value) (f : F2) : Prop:=∃ r,OpR X g r /\ OpS T f r
variable {a b c : Expr} {sa sb sc : SE}
theorem two {f : F2} {r : R2} (hs : OpS T f r) {σ : St} {H : Hp} {Q : VK} (q : tE T E (sOp2 f sa sb) σ H Q) : tOp r (tE T E sa) (tE T E sb) σ H Q:=by
 obtain ⟨ι,h,en,S,er,q⟩:=q
 refine ⟨ι,h,en,S,er,q.bind fun x h1 ι1 H1 u g1 S1 r1 q1=>⟨ι1,h1,en,S1,er.mono g1,q1.bind fun y h2 ι2 H2 w g2 S2 r2 q2=>?_⟩⟩
 exact hs ι2 h2 H2 x y u w _ Q S2 (r1.mono g2) r2 q2
theorem yak {op : Operator} {f : F2} (ho : Op T X (binaryOp op) f) (ha : PEA T E X a sa) (hb : PEA T E X b sb) : PEA T E X (.BinOp a op b pos) (sOp2 f sa sb):=by
 obtain ⟨r,h1,h2⟩:=ho
 exact yaE (yhJ h1 ha hb) fun σ H Q q=>two h2 q
theorem ziv {i j : Str} (hi : i.cps.all (· < 0x110000) = true) (hj : j.cps.all (· < 0x110000) = true) : (i++j).cps.all (· < 0x110000) = true:=by
 show (i.cps++j.cps).all _ = true
 rw [Array.all_append,hi,hj]; rfl
theorem zeI (i j : Str) : (i++j).length = i.length + j.length:=by
 show (i.cps++j.cps).size = _
 rw [Array.size_append]; rfl
theorem yaK (hK : X.K = T.K) : Op T X (binaryOp .Add) fAdd:=by
 refine ⟨_,op_add.or (zfE.or (zib.or ziq)),fun ι h H x y u w E Q S rx ry p=>?_⟩
 unfold fAdd at p
 split at p
 ·rw [yax rx,yax ry]
  exact .inl ⟨_,_,rfl,rfl,p.now S (.int _)⟩
 ·split at p
  ·rename_i hz
   obtain ⟨rfl,_,o1⟩:=yaV rx
   obtain ⟨rfl,_,o2⟩:=yaV ry
   exact .inr (.inl ⟨_,_,rfl,rfl,hz,p.now S (.str (by rw [zeI]; exact hz) (ziv o1 o2))⟩)
  ·exact p.elim
 ·split at p
  ·rename_i hz
   obtain ⟨a,us,rfl,q1,r1⟩:=yc4 rx
   obtain ⟨b,ws,rfl,q2,r2⟩:=yc4 ry
   refine .inr (.inr (.inl ⟨a,b,us,ws,rfl,rfl,hK ▸ q1,hK ▸ q2,fun z=>hz.1 ?_,by rw [<- r1.length,<- r2.length]; exact hz.2,fun z=>?_,fun _ l n=>zc2 S (r1.append r2) n p⟩))
   ·subst z; cases r1; rfl
   ·subst z; cases r2
    rw [List.append_nil] at p
    exact p.now S rx
  ·exact p.elim
 ·split at p
  ·split at p
   ·rename_i e1 e2 hz
    obtain ⟨a,us,rfl,q1,r1⟩:=ybx S rx e1
    obtain ⟨b,ws,rfl,q2,r2⟩:=ybx S ry e2
    exact .inr (.inr (.inr ⟨a,b,us,ws,rfl,rfl,hK ▸ q1,hK ▸ q2,by rw [<- r1.length,<- r2.length]; exact hz,fun l n=>ydN S (r1.append r2) n p⟩))
   ·exact p.elim
  ·exact p.elim
theorem ycU : Op T X (binaryOp .Sub) fSub:=by
 refine ⟨_,ygx,fun ι h H x y u w E Q S rx ry p=>?_⟩
 unfold fSub at p
 split at p
 ·rw [yax rx,yax ry]
  exact ⟨_,_,rfl,rfl,p.now S (.int _)⟩
 ·exact p.elim
theorem ze8 {i : Int} (h : i.natAbs < 2 ^ 4000) : Builtin.Int.intBits i <= 2 ^ 20:=by
 unfold Builtin.Int.intBits
 split
 ·exact Nat.zero_le _
 ·rename_i hz
  have h0 : i.natAbs ≠ 0:=fun z=>hz (by simpa using z)
  have : i.natAbs.log2 < 4000:=(Nat.log2_lt h0).mpr h
  exact Nat.le_trans (by omega : i.natAbs.log2 + 1 <= 4001) (by decide)
theorem ybY : Op T X (binaryOp .Mult) fMul:=by
 refine ⟨_,zho,fun ι h H x y u w E Q S rx ry p=>?_⟩
 unfold fMul at p
 split at p
 ·split at p
  ·rename_i hz
   rw [yax rx,yax ry]
   exact ⟨_,_,rfl,rfl,hz.elim (fun z=>CMul.ok (z.elim (fun z=>.inl ⟨by omega,by omega⟩) (fun z=>.inr ⟨by omega,by omega⟩))) (fun z=>.of_bits (ze8 z.1) (ze8 z.2)),p.now S (.int _)⟩
  ·exact p.elim
 ·exact p.elim
theorem yeV : Op T X (binaryOp .FloorDiv) fDiv:=by
 refine ⟨_,zhn,fun ι h H x y u w E Q S rx ry p=>?_⟩
 unfold fDiv at p
 split at p
 ·split at p
  ·rename_i hz
   rw [yax rx,yax ry]
   exact ⟨_,_,rfl,rfl,⟨hz.1,by omega⟩,p.now S (.int _)⟩
  ·exact p.elim
 ·exact p.elim
theorem ydy : Op T X (binaryOp .Mod) fMod:=by
 refine ⟨_,ygy,fun ι h H x y u w E Q S rx ry p=>?_⟩
 unfold fMod at p
 split at p
 ·split at p
  ·rename_i hz
   rw [yax rx,yax ry]
   exact ⟨_,_,rfl,rfl,hz,p.now S (.int _)⟩
  ·exact p.elim
 ·exact p.elim
theorem ydz : Op T X (binaryOp .Pow) fPow:=by
 refine ⟨_,ygz,fun ι h H x y u w E Q S rx ry p=>?_⟩
 unfold fPow at p
 split at p
 ·split at p
  ·rename_i hz
   rw [yax rx,yax ry]
   exact ⟨_,_,rfl,rfl,hz,p.now S (.int _)⟩
  ·exact p.elim
 ·exact p.elim
theorem yfY (ha : PEA T E X a sa) : PEA T E X (.UnaryOp .USub a pos) (sOp1 fNeg sa) :=
 yaE (yhK ygA ha) fun σ H Q ⟨ι,h,en,S,er,q⟩=>⟨ι,h,en,S,er,q.bind fun x h1 ι1 H1 u g1 S1 r1 q1=>by
  unfold fNeg at q1
  split at q1
  ·rw [yax r1]
   exact ⟨_,rfl,q1.now S1 (.int _)⟩
  ·exact q1.elim⟩
theorem zgu {ds : List PyData} (h : ∀ d ∈ ds,d.canLay0 = true) : PyData.canLayAll0 ds = true:=by
 induction ds with
 | nil=>rfl
 | cons d r ih=>show (d.canLay0 && PyData.canLayAll0 r) = true; rw [h d (by simp),ih fun e he=>h e (by simp [he])]; rfl
theorem zeJ {n : Nat} {ds : List PyData} (h : ∀ d ∈ ds,d.depth <= n) : PyData.depthAll ds <= n:=by
 induction ds with
 | nil=>exact Nat.zero_le _
 | cons d r ih=>show max d.depth (PyData.depthAll r) <= n; have:=h d (by simp); have:=ih fun e he=>h e (by simp [he]); omega
section
variable {ι : Ix} {h : AH} {H : Hp}
theorem zbn {f : AV -> Option PyData} {n : Nat} (hf : ∀ {x : AV} {u : V} {d : PyData},RV T ι H x u -> f x = some d -> DaV T.K H u d /\ d.canLay0 = true /\ d.depth <= n) :
  ∀ {xs : List AV} {us : List V} {ds : List PyData},RVs T ι H xs us -> toDs f xs = some ds -> DaVs T.K H us ds /\ ∀ d ∈ ds,d.canLay0 = true /\ d.depth <= n
 | _,_,ds,.nil,e=>by cases e; exact ⟨.nil,by simp⟩
 | _,_,ds,.cons (x:=x) (xs:=xs) r rs,e=>by
  unfold toDs at e
  split at e
  ·rename_i d ds' e1 e2
   cases e
   obtain ⟨q1,q2⟩:=hf r e1
   obtain ⟨q3,q4⟩:=zbn hf rs e2
   refine ⟨.cons q1 q3,fun d hd=>?_⟩
   rcases List.mem_cons.mp hd with rfl | hd
   ·exact q2
   ·exact q4 d hd
  ·cases e
theorem ycu (S : Sim T ι h H) : ∀ (n : Nat) {x : AV} {u : V} {d : PyData},RV T ι H x u -> toD n h x = some d -> DaV T.K H u d /\ d.canLay0 = true /\ d.depth <= n
 | 0,x,u,d,r,e=>by
  unfold toD at e
  cases r with
  | non=>cases e; exact ⟨.non,rfl,Nat.le_refl _⟩
  | bl b=>cases e; exact ⟨.bl b,rfl,Nat.le_refl _⟩
  | int b=>cases e; exact ⟨.int b,rfl,Nat.le_refl _⟩
  | str a b=>cases e; exact ⟨.str _,b,Nat.le_refl _⟩
  | _=>cases e
 | n + 1,x,u,d,r,e=>by
  unfold toD at e
  have many : ∀ {xs : List AV} {us : List V} {ds : List PyData},RVs T ι H xs us -> toDs (toD n h) xs = some ds -> DaVs T.K H us ds /\ ∀ d ∈ ds,d.canLay0 = true /\ d.depth <= n:=fun r e=>zbn (fun r e=>ycu S n r e) r e
  have fin : ∀ {ds : List PyData},(∀ d ∈ ds,d.canLay0 = true /\ d.depth <= n) -> PyData.canLayAll0 ds = true /\ PyData.depthAll ds + 1 <= n + 1:=fun q=>⟨zgu fun d hd=>(q d hd).1,Nat.succ_le_succ (zeJ fun d hd=>(q d hd).2)⟩
  cases r with
  | non=>cases e; exact ⟨.non,rfl,Nat.zero_le _⟩
  | bl b=>cases e; exact ⟨.bl b,rfl,Nat.zero_le _⟩
  | int b=>cases e; exact ⟨.int b,rfl,Nat.zero_le _⟩
  | str a b=>cases e; exact ⟨.str _,b,Nat.zero_le _⟩
  | tup k q r =>
   obtain ⟨ds,e1,rfl⟩:=Option.map_eq_some_iff.mp e
   obtain ⟨q1,q2⟩:=many r e1
   exact ⟨.tup (.of q) q1,fin q2⟩
  | fl k q r =>
   obtain ⟨ds,e1,rfl⟩:=Option.map_eq_some_iff.mp e
   obtain ⟨q1,q2⟩:=many r e1
   exact ⟨.lst (.inl q) q1,fin q2⟩
  | kfl q r =>
   obtain ⟨ds,e1,rfl⟩:=Option.map_eq_some_iff.mp e
   obtain ⟨q1,q2⟩:=many r e1
   exact ⟨.lst (.inr q) q1,fin q2⟩
  | @ref k a q =>
   dsimp only at e
   split at e
   ·rename_i ys hk
    obtain ⟨ds,e1,rfl⟩:=Option.map_eq_some_iff.mp e
    obtain ⟨u,e2,us,rfl,r⟩:=S.obj k _ a hk q
    obtain ⟨q1,q2⟩:=many r e1
    exact ⟨.lst (.inl (.inl e2)) q1,fin q2⟩
   ·cases e
  | exc _ _ _=>cases e
end
theorem ygX {i j : Int} : decide (V.int i = V.int j) = decide (i = j):=by rw [Bool.eq_iff_iff]; simp
theorem ygY {i j : Str} : decide (V.str i = V.str j) = decide (i = j):=by rw [Bool.eq_iff_iff]; simp
theorem yh1 {i j : Bool} : decide (V.bl i = V.bl j) = decide (i = j):=by rw [Bool.eq_iff_iff]; simp
theorem ze9 {r : R2} {neg : Bool} (ho : OpR X g r) (h1 : ∀ x y H Q,(scal x y = true /\ Q (.bl (if neg then !decide (x = y) else decide (x = y))) H) -> r x y H Q)
  (h2 : ∀ x y H Q,(∃ d e,DaV T.K H x d /\ DaV T.K H y e /\ d.canLay0 = true /\ e.canLay0 = true /\ d.depth <= 60 /\ Q (.bl (if neg then !PyData.eqv d e else PyData.eqv d e)) H) -> r x y H Q) :
  OpS T (fun x y h=>match eqA x y h with | some b=>.ok (.bl (if neg then !b else b)) h | none=>.bad) r:=by
 intro ι h H x y u w E Q S rx ry p
 dsimp only at p
 cases hb : eqA x y h with
 | none=>rw [hb] at p; exact p.elim
 | some b =>
  rw [hb] at p
  dsimp only at p
  unfold eqA at hb
  split at hb
  ·cases hb
   rw [yax rx,yax ry]
   exact h1 _ _ _ _ ⟨rfl,by rw [ygX]; exact p.now S (.bl _)⟩
  ·cases hb
   obtain ⟨rfl,_⟩:=yaV rx
   obtain ⟨rfl,_⟩:=yaV ry
   exact h1 _ _ _ _ ⟨rfl,by rw [ygY]; exact p.now S (.bl _)⟩
  ·cases hb
   rw [yct rx,yct ry]
   exact h1 _ _ _ _ ⟨rfl,by rw [yh1]; exact p.now S (.bl _)⟩
  ·cases hb
   rw [yd9 rx,yd9 ry]
   exact h1 _ _ _ _ ⟨rfl,by rw [show decide (V.non = V.non) = true from rfl]; exact p.now S (.bl _)⟩
  ·split at hb
   ·rename_i d e e1 e2
    cases hb
    obtain ⟨q1,q2,q3⟩:=ycu S 8 rx e1
    obtain ⟨q4,q5,q6⟩:=ycu S 8 ry e2
    exact h2 _ _ _ _ ⟨d,e,q1,q4,q2,q5,by omega,p.now S (.bl _)⟩
   ·cases hb
theorem o_eq (hK : X.K = T.K) (hu : X.A.units + 64 < cLine) : Op T X (compareOp .Eq) fEq :=
 ⟨_,op_eq.or (yfh hu),ze9 (neg:=false) (op_eq.or (yfh hu)) (fun _ _ _ _ q=>.inl q) fun _ _ _ _ q=>.inr (hK ▸ q)⟩
theorem o_ne (hK : X.K = T.K) (hu : X.A.units + 64 < cLine) : Op T X (compareOp .NotEq) fNe :=
 ⟨_,op_ne.or (yfi hu),ze9 (neg:=true) (op_ne.or (yfi hu)) (fun _ _ _ _ q=>.inl q) fun _ _ _ _ q=>.inr (hK ▸ q)⟩
theorem o_le : Op T X (compareOp .LtE) fLe:=by
 refine ⟨_,op_le.or zgp,fun ι h H x y u w E Q S rx ry p=>?_⟩
 unfold fLe at p
 split at p
 ·rw [yax rx,yax ry]
  exact .inl ⟨_,_,rfl,rfl,p.now S (.bl _)⟩
 ·obtain ⟨rfl,_⟩:=yaV rx
  obtain ⟨rfl,_⟩:=yaV ry
  exact .inr ⟨_,_,rfl,rfl,p.now S (.bl _)⟩
 ·exact p.elim
theorem o_gt : Op T X (compareOp .Gt) fGt:=by
 refine ⟨_,yhL,fun ι h H x y u w E Q S rx ry p=>?_⟩
 unfold fGt at p
 split at p
 ·rw [yax rx,yax ry]
  exact ⟨_,_,rfl,rfl,p.now S (.bl _)⟩
 ·exact p.elim
theorem o_ge : Op T X (compareOp .GtE) fGe:=by
 refine ⟨_,yhM,fun ι h H x y u w E Q S rx ry p=>?_⟩
 unfold fGe at p
 split at p
 ·rw [yax rx,yax ry]
  exact ⟨_,_,rfl,rfl,p.now S (.bl _)⟩
 ·exact p.elim
theorem RV.non_iff {ι : Ix} {H : Hp} {x : AV} {u : V} (r : RV T ι H x u) : decide (x = .non) = decide (u = .non):=by
 exact decide_eq_decide.mpr ⟨fun z=>by subst z; cases r; rfl,fun z=>by subst z; cases r; rfl⟩
theorem yh2 : Op T X (compareOp .Is) fIsN:=by
 refine ⟨_,ygB,fun ι h H x y u w E Q S rx ry p=>?_⟩
 unfold fIsN at p
 split at p
 ·refine ⟨yd9 ry,?_⟩
  rw [<- rx.non_iff]
  exact p.now S (.bl _)
 ·exact p.elim
theorem ydA {op : CmpOp} {f : F2} (ho : Op T X (compareOp op) f) (ha : PEA T E X a sa) (hb : PEA T E X b sb) (hm : behindInMarks op b = false) : PEA T E X (.Compare a [op] [b] pos) (sOp2 f sa sb):=by
 obtain ⟨r,h1,h2⟩:=ho
 exact yaE (zh4 h1 ha hb hm) fun σ H Q q=>two h2 q
theorem yaw {op : CmpOp} {f : F2} (ho : Op T X (compareOp op) f) (ha : PEA T E X a sa) (hb : PEA T E X b sb) (hm : behindInMarks op b = false) : PTA T E X (.Compare a [op] [b] pos) (yam (sOp2 f sa sb)):=by
 obtain ⟨r,h1,h2⟩:=ho
 refine yd7 (zh5 h1 ha hb hm) fun σ H Q q=>two (E:=E) (Q:=fun x H' => ∃ k,x = V.bl k /\ Q k H') h2 ?_
 obtain ⟨ι,h,en,S,er,q⟩:=q
 refine ⟨ι,h,en,S,er,q.bind fun x h1 ι1 H1 u g1 S1 r1 q1=>?_⟩
 split at q1
 ·rw [yct r1]
  exact ⟨_,rfl,q1.now S1 rfl⟩
 ·exact q1.elim
theorem yfZ {f f' : F2} {r r' : R2} (hs : OpS T f r) (hs' : OpS T f' r') {σ : St} {H : Hp} {Q : VK} (q : tE T E (ybZ f f' sa sb sc) σ H Q) : yeB r r' (tE T E sa) (tE T E sb) (tE T E sc) σ H Q:=by
 obtain ⟨ι,h,en,S,er,q⟩:=q
 refine ⟨ι,h,en,S,er,q.bind fun x h1 ι1 H1 u g1 S1 r1 q1=>⟨ι1,h1,en,S1,er.mono g1,q1.bind fun y h2 ι2 H2 w g2 S2 r2 q2=>?_⟩⟩
 refine hs ι2 h2 H2 x y u w (E σ) _ S2 (r1.mono g2) r2 (q2.bind fun z h3 ι3 H3 k g3 S3 r3 q3=>?_)
 split at q3
 ·rename_i kk
  rw [yct r3]
  refine ⟨kk,rfl,?_⟩
  by_cases hkk : kk = true
  ·rw [if_pos hkk] at q3 ⊢
   refine ⟨ι3,h3,en,S3,er.mono (g1.trans (g2.trans g3)),q3.bind fun v h4 ι4 H4 j g4 S4 r4 q4=>?_⟩
   exact hs' ι4 h4 H4 y v w j _ Q S4 (r2.mono (g3.trans g4)) r4 q4
  ·rw [if_neg hkk] at q3 ⊢
   exact q3.now S3 (.bl _)
 ·exact q3.elim
theorem zb5 {op op' : CmpOp} {f f' : F2} (ho : Op T X (compareOp op) f) (ho' : Op T X (compareOp op') f') (ha : PEA T E X a sa) (hb : PEA T E X b sb) (hc : PEA T E X c sc) (hm : lastMarks [op,op'] [b,c] = false:=by with_unfolding_all rfl) :
  PEA T E X (.Compare a [op,op'] [b,c] pos) (ybZ f f' sa sb sc):=by
 obtain ⟨r,h1,h2⟩:=ho
 obtain ⟨r',h1',h2'⟩:=ho'
 exact yaE (zg7 h1 h1' ha hb hc hm) fun σ H Q q=>yfZ h2 h2' q
theorem zhw {op op' : CmpOp} {f f' : F2} (ho : Op T X (compareOp op) f) (ho' : Op T X (compareOp op') f') (ha : PEA T E X a sa) (hb : PEA T E X b sb) (hc : PEA T E X c sc) (hm : lastMarks [op,op'] [b,c] = false:=by with_unfolding_all rfl) :
  PTA T E X (.Compare a [op,op'] [b,c] pos) (yam (ybZ f f' sa sb sc)):=by
 obtain ⟨r,h1,h2⟩:=ho
 obtain ⟨r',h1',h2'⟩:=ho'
 refine yd7 (zg8 h1 h1' ha hb hc hm) fun σ H Q q=>yfZ (E:=E) (Q:=fun x H' => ∃ k,x = V.bl k /\ Q k H') h2 h2' ?_
 obtain ⟨ι,h,en,S,er,q⟩:=q
 refine ⟨ι,h,en,S,er,q.bind fun x h1 ι1 H1 u g1 S1 r1 q1=>?_⟩
 split at q1
 ·rw [yct r1]
  exact ⟨_,rfl,q1.now S1 rfl⟩
 ·exact q1.elim
theorem ygZ {ι : Ix} {h : AH} {H : Hp} {v : AV} {u : V} {k : Bool} (S : Sim T ι h H) (r : RV T ι H v u) (e : truA v h = some k) : TruV T.K u H k:=by
 unfold truA at e
 cases r with
 | non=>cases e; rfl
 | bl b=>cases e; rfl
 | int b=>cases e; rfl
 | str n o=>cases e; exact ⟨n,rfl⟩
 | tup n q r=>cases e; exact .inr (.inl ⟨_,.of q,by cases r<;>rfl⟩)
 | fl n q r=>cases e; exact .inl ⟨_,.inl q,by cases r<;>rfl⟩
 | kfl q r=>cases e; exact .inl ⟨_,.inr q,by cases r<;>rfl⟩
 | @ref n a q =>
  dsimp only at e
  split at e
  ·rename_i xs hk
   cases e
   obtain ⟨u,e1,us,rfl,r⟩:=S.obj n _ a hk q
   exact .inl ⟨us,.inl (.inl e1),by cases r<;>rfl⟩
  ·rename_i xs hk
   cases e
   obtain ⟨u,e1,us,rfl,r⟩:=S.obj n _ a hk q
   exact .inr (.inr ⟨us,e1,by cases r<;>rfl⟩)
  ·cases e
 | exc _ _ _=>cases e
theorem zan (hK : X.K = T.K) (ha : PEA T E X a sa) (he : ∀ whole,isTrue a X.env whole = (do let v <- whole; standAt a.pos; holding [v] (truthy v)):=by intro _; rfl) : PTA T E X a (ybJ sa) :=
 yd7 (zg9 ha he) fun σ H Q ⟨ι,h,en,S,er,q⟩=>⟨ι,h,en,S,er,q.bind fun x h1 ι1 H1 u g1 S1 r1 q1=>by
  split at q1
  ·rename_i b hb
   exact ⟨b,hK ▸ ygZ S1 r1 hb,q1.now S1 rfl⟩
  ·exact q1.elim⟩
variable {ca cb : SB} {rest : List Expr}
theorem yb0 (ha : PTA T E X a ca) : PTA T E X (.UnaryOp .Not a pos) (sNot ca) :=
 yd7 (ygn ha) fun σ H Q ⟨ι,h,en,S,er,q⟩=>⟨ι,h,en,S,er,q.bind fun x h1 ι1 H1 u g1 S1 r1 q1=>by subst r1; exact q1.now S1 rfl⟩
theorem rt_w (h : PWA T E X a ca) : PTA T E X a ca:=PW.pt h
theorem zbo (ha : PTA T E X a ca) : PWA T E X (.BoolOp .And [a] pos) ca:=zhZ ha
theorem yc5 (ha : PTA T E X a ca) : PWA T E X (.BoolOp .Or [a] pos) ca:=ygl ha
theorem ydO (ha : PTA T E X a ca) (hb : PWA T E X (.BoolOp .And (b :: rest) pos) cb) : PWA T E X (.BoolOp .And (a :: b :: rest) pos) (sAnd ca cb) :=
 yfj (ygm ha hb) fun σ H Q ⟨ι,h,en,S,er,q⟩=>⟨ι,h,en,S,er,q.bind fun x h1 ι1 H1 u g1 S1 r1 q1=>by
  subst r1
  by_cases hx : x = true
  ·rw [if_pos hx] at q1 ⊢
   exact ⟨ι1,h1,en,S1,er.mono g1,q1⟩
  ·rw [if_neg hx] at q1 ⊢
   exact q1.now S1 rfl⟩
theorem ydk (ha : PTA T E X a ca) (hb : PWA T E X (.BoolOp .Or (b :: rest) pos) cb) : PWA T E X (.BoolOp .Or (a :: b :: rest) pos) (sOr ca cb) :=
 yfj (yhz ha hb) fun σ H Q ⟨ι,h,en,S,er,q⟩=>⟨ι,h,en,S,er,q.bind fun x h1 ι1 H1 u g1 S1 r1 q1=>by
  subst r1
  by_cases hx : x = true
  ·rw [if_pos hx] at q1 ⊢
   exact q1.now S1 rfl
  ·rw [if_neg hx] at q1 ⊢
   exact ⟨ι1,h1,en,S1,er.mono g1,q1⟩⟩
theorem yea {op} (h : PEA T E X a sa) : PEA T E X (.BoolOp op [a] pos) sa:=ygo h
theorem yeb (ha : PEA T E X a sa) (hb : PEA T E X (.BoolOp .And (b :: rest) pos) sb) : PEA T E X (.BoolOp .And (a :: b :: rest) pos) (ydX sa sb) :=
 yaE (ygp ha hb) fun σ H Q ⟨ι,h,en,S,er,q⟩=>⟨ι,h,en,S,er,q.bind fun x h1 ι1 H1 u g1 S1 r1 q1=>by
  split at q1
  ·rename_i kk
   rw [yct r1]
   refine ⟨kk,rfl,?_⟩
   by_cases hkk : kk = true
   ·rw [if_pos hkk] at q1 ⊢
    exact ⟨ι1,h1,en,S1,er.mono g1,q1⟩
   ·rw [if_neg hkk] at q1 ⊢
    exact q1.now S1 (.bl _)
  ·exact q1.elim⟩
theorem r_or (ha : PEA T E X a sa) (hb : PEA T E X (.BoolOp .Or (b :: rest) pos) sb) : PEA T E X (.BoolOp .Or (a :: b :: rest) pos) (sOrV sa sb) :=
 yaE (yhC ha hb) fun σ H Q ⟨ι,h,en,S,er,q⟩=>⟨ι,h,en,S,er,q.bind fun x h1 ι1 H1 u g1 S1 r1 q1=>by
  split at q1
  ·rename_i kk
   rw [yct r1]
   refine ⟨kk,rfl,?_⟩
   by_cases hkk : kk = true
   ·rw [if_pos hkk] at q1 ⊢
    exact q1.now S1 (.bl _)
   ·rw [if_neg hkk] at q1 ⊢
    exact ⟨ι1,h1,en,S1,er.mono g1,q1⟩
  ·exact q1.elim⟩
theorem yh3 (ha : PEA T E X a sa) : PEA T E X (.UnaryOp .Not a pos) (yfV sa) :=
 yaE (ygq ha) fun σ H Q ⟨ι,h,en,S,er,q⟩=>⟨ι,h,en,S,er,q.bind fun x h1 ι1 H1 u g1 S1 r1 q1=>by
  split at q1
  ·rw [yct r1]
   exact ⟨_,rfl,q1.now S1 (.bl _)⟩
  ·exact q1.elim⟩
theorem yf0 {d : Expr} (hc : PTA T E X d ca) (ha : PEA T E X a sa) (hb : PEA T E X b sb) : PEA T E X (.IfExp d a b pos) (sIfE ca sa sb) :=
 yaE (zg4 hc ha hb) fun σ H Q ⟨ι,h,en,S,er,q⟩=>⟨ι,h,en,S,er,q.bind fun x h1 ι1 H1 u g1 S1 r1 q1=>by
  subst r1
  by_cases hx : x = true
  ·rw [if_pos hx] at q1 ⊢
   exact ⟨ι1,h1,en,S1,er.mono g1,q1⟩
  ·rw [if_neg hx] at q1 ⊢
   exact ⟨ι1,h1,en,S1,er.mono g1,q1⟩⟩
variable {es : List Expr} {as : SL}
theorem yac : PAA T E X [] sNil:=yfk yd4 fun σ H Q ⟨ι,h,en,S,er,q⟩=>q.now S .nil
theorem zaa (ha : PEA T E X a sa) (hr : PAA T E X es as) (hs : starEach (a :: es) X.env = (false,eval a X.env) :: starEach es X.env:=by rfl) : PAA T E X (a :: es) (yab sa as) :=
 yfk (za9 ha hr hs) fun σ H Q ⟨ι,h,en,S,er,q⟩=>⟨ι,h,en,S,er,q.bind fun x h1 ι1 H1 u g1 S1 r1 q1=>⟨ι1,h1,en,S1,er.mono g1,q1.bind fun xs h2 ι2 H2 us g2 S2 r2 q2=>q2.now S2 (.cons (r1.mono g2) r2)⟩⟩
theorem ydB {k} (h : PAA T E X es as) : PEA T E X (.Tuple es k pos) (sTup as) :=
 yaE (ygF h) fun σ H Q ⟨ι,h,en,S,er,q⟩=>⟨ι,h,en,S,er,q.bind fun xs h1 ι1 H1 us g1 S1 r1 q1=>by
  split at q1
  ·rename_i hl
   exact ⟨by rw [<- r1.length]; exact Nat.le_trans hl (by decide),fun p n=>zc2 S1 r1 n q1⟩
  ·exact q1.elim⟩
theorem yeW (h : PAA T E X es as) : PEA T E X (.List es pos) (sLst as) :=
 yaE (yfc h) fun σ H Q ⟨ι,h,en,S,er,q⟩=>⟨ι,h,en,S,er,q.bind fun xs h1 ι1 H1 us g1 S1 r1 q1=>by
  split at q1
  ·rename_i hl
   exact ⟨by rw [<- r1.length]; exact Nat.le_trans hl (by decide),fun p n=>ydN S1 r1 n q1⟩
  ·exact q1.elim⟩
theorem ybT (h : PAA T E X es as) : PEA T E X (.List es pos) (yb5 as) :=
 yaE (yfc h) fun σ H Q ⟨ι,h,en,S,er,q⟩=>⟨ι,h,en,S,er,q.bind fun xs h1 ι1 H1 us g1 S1 r1 q1=>by
  split at q1
  ·rename_i hl
   exact ⟨by rw [<- r1.length]; exact Nat.le_trans hl (by decide),fun p n=>zis S1 r1 n q1⟩
  ·exact q1.elim⟩
theorem ziw : PEA T E X (.Dict [] [] pos) (yeq false) :=
 yaE zhh fun σ H Q ⟨ι,h,en,S,er,q⟩ p n=>q _ _ _ (S.growAdd n) (S.add n ⟨[],rfl,.nil⟩) (.ref S.addAt)
theorem zix : PEA T E X (.Dict [] [] pos) (yeq true) :=
 yaE zhi fun σ H Q ⟨ι,h,en,S,er,q⟩ p n=>q _ _ _ (S.growAdd n) (S.add n ⟨[],rfl,.nil⟩) (.ref S.addAt)
end
end Sm
namespace Sm
open PySem L2
section
variable {T : Tb} {E : St -> XK} {X : Cx} {pos : Pos} {a b : Expr} {sa sb : SE} {ca : SB} {st : Stmt} {sts ss1 ss2 : List Stmt} {s1 s2 : SS}
theorem yay : PSsA T E X [] yaA:=ze7 zh0 fun D σ H ⟨ι,h,en,S,er,q⟩=>q ι H σ S.refl S er
theorem zab (h1 : PSA T E X st s1) (h2 : PSsA T E X sts s2) : PSsA T E X (st :: sts) (sSeq s1 s2) :=
 ze7 (zg5 h1 h2) fun D σ H ⟨ι,h,en,S,er,q⟩=>by
  refine ⟨ι,h,en,S,er,?_⟩
  unfold sSeq at q
  cases e : s1 en h with
  | nx e1 h1 =>
   rw [e] at q
   exact fun ι' H' σ' g S' er' => ⟨ι',h1,e1,S',er',q.shift g⟩
  | rt v h1=>rw [e] at q; exact q
  | bk e1 h1=>rw [e] at q; exact q
  | ct e1 h1=>rw [e] at q; exact q
  | ex c e1 h1=>rw [e] at q; exact q
  | bad=>rw [e] at q; exact q
theorem yag (h1 : PSA T E X st s1) : PSsA T E X [st] s1:=zeW h1
theorem yaB (ha : PEA T E X a sa) (hs : swapsWith a none pos.line X.env = pure false:=by rfl) : PSA T E X (.Expr a pos) (yaG sa) :=
 ybS (zh1 ha hs) fun D σ H ⟨ι,h,en,S,er,q⟩=>⟨ι,h,en,S,er,q.go er fun v h1 ι1 H1 u g1 S1 r1 q1=>q1 ι1 H1 σ S1.refl S1 (er.mono g1)⟩
theorem yao (ha : PEA T E X a sa) : PSA T E X (.Return (some a) pos) (sRet sa) :=
 ybS (ygr ha) fun D σ H ⟨ι,h,en,S,er,q⟩=>⟨ι,h,en,S,er,q.go er fun v h1 ι1 H1 u g1 S1 r1 q1=>q1 ι1 H1 u S1.refl S1 r1⟩
theorem r_if (hc : PTA T E X a ca) (h1 : PSsA T E X ss1 s1) (h2 : PSsA T E X ss2 s2) : PSA T E X (.If a ss1 ss2 pos) (sIf ca s1 s2) :=
 ybS (yhF hc h1 h2) fun D σ H ⟨ι,h,en,S,er,q⟩=>⟨ι,h,en,S,er,q.go er fun x h1 ι1 H1 u g1 S1 r1 q1=>by
  subst r1
  by_cases hx : x = true
  ·rw [if_pos hx] at q1 ⊢
   exact ⟨ι1,h1,en,S1,er.mono g1,q1⟩
  ·rw [if_neg hx] at q1 ⊢
   exact ⟨ι1,h1,en,S1,er.mono g1,q1⟩⟩
theorem yfm {σ : St} {H : Hp} {D : Ends} {i : Nat} (q : tS T E (sSet i sa) D σ H) : tAsg (tE T E sa) (yeo i) D σ H:=by
 obtain ⟨ι,h,en,S,er,q⟩:=q
 exact ⟨ι,h,en,S,er,q.go er fun v h1 ι1 H1 u g1 S1 r1 q1=>q1 ι1 H1 _ S1.refl S1 ((er.mono g1).set r1 i)⟩
theorem yaq {i : Nat} {x : Str} {p' : Pos} (hN : X.N.Nodup) (ha : PEA T E X a sa) (hi : X.N[i]? = some x:=by rfl) (hx : Loc X.env.scope x:=by first | exact Or.inl rfl | exact Or.inr rfl) (hs : swapsWith a (some (.Name x p')) pos.line X.env = pure false:=by rfl)
  (hf : X.fn x = true \/ X.env.scope.names.lookup x = some .local:=by first | exact .inl rfl | exact .inr rfl | assumption) : PSA T E X (.Assign [.Name x p'] a pos) (sSet i sa) :=
 ybS (ygu hN hi hx ha hs hf) fun D σ H q=>yfm q
theorem zdz {ι : Ix} {H : Hp} : ∀ {is : List Nat} {xs : List AV} {us : List V} {en e : En} {σ : St},RVs T ι H xs us -> ER T ι H en σ -> yd8 is xs en = some e -> ER T ι H e ((is.zip us).foldl (fun σ p=>σ.set p.1 (some p.2)) σ) /\ us.length = is.length
 | [],_,_,en,e,σ,.nil,er,q=>by cases q; exact ⟨er,rfl⟩
 | i :: is,_,_,en,e,σ,.cons r rs,er,q=>by
  obtain ⟨h1,h2⟩:=zdz (is:=is) rs (er.set r i) q
  exact ⟨h1,by simp [h2]⟩
 | [],_,_,en,e,σ,.cons r rs,er,q=>by cases q
 | i :: is,_,_,en,e,σ,.nil,er,q=>by cases q
def PGA (T : Tb) (X : Cx) (tg : Expr) (t : Tg) : Prop:=∃ g,PG X tg g /\ ∀ {ι : Ix} {h : AH} {H : Hp} {en e : En} {σ : St} {v : AV} {u : V} {Q : St -> Hp -> Prop},Sim T ι h H -> ER T ι H en σ -> RV T ι H v u -> setT t v en = some e ->
 (∀ σ',ER T ι H e σ' -> Q σ' H) -> g u σ H Q
theorem zax {i : Nat} {x : Str} (hN : X.N.Nodup) (hi : X.N[i]? = some x:=by rfl) (hx : Loc X.env.scope x:=by first | exact Or.inl rfl | exact Or.inr rfl) (hf : X.fn x = true \/ X.env.scope.names.lookup x = some .local:=by first | exact .inl rfl | exact .inr rfl | assumption) :
  PGA T X (.Name x pos) (.nm i):=⟨_,zeX hN hi hx hf,fun S er r e k=>by cases e; exact k _ (er.set r i)⟩
def PGsA (X : Cx) (es : List Expr) (is : List Nat) : Prop:=PGs X es (fun vs σ H Q=>vs.length = is.length /\ Q ((is.zip vs).foldl (fun σ p=>σ.set p.1 (some p.2)) σ) H)
theorem zfa {X : Cx} {es : List Expr} {t t' : TGs} (h : PGs X es t) (k : ∀ vs σ H Q,t' vs σ H Q -> t vs σ H Q) : PGs X es t' := fun pins s σ H vs us Q I r q=>h pins s σ H vs us Q I r (k vs σ H Q q)
theorem zfb : PGsA X [] []:=zfa zh2 fun vs σ H Q ⟨l,q⟩=>by
 cases vs with
 | nil=>exact ⟨rfl,q⟩
 | cons=>cases l
theorem zbb {i : Nat} {is : List Nat} {x : Str} {p : Pos} {es : List Expr} (hN : X.N.Nodup) (hr : PGsA X es is) (hi : X.N[i]? = some x:=by rfl) (hx : Loc X.env.scope x:=by first | exact Or.inl rfl | exact Or.inr rfl)
  (hf : X.fn x = true \/ X.env.scope.names.lookup x = some .local:=by first | exact .inl rfl | exact .inr rfl | assumption) (hs : (assignEach (.Name x p :: es) X.env).map (·.2) = assign (.Name x p) X.env :: (assignEach es X.env).map (·.2):=by rfl) : PGsA X (.Name x p :: es) (i :: is) :=
 zfa (zg6 (zeX hN hi hx hf) hr hs) fun vs σ H Q ⟨l,q⟩=>by
  cases vs with
  | nil=>cases l
  | cons v r=>exact ⟨v,r,rfl,Nat.succ.inj l,q⟩
theorem yfn {es : List Expr} {is : List Nat} {k : Nat} (hK : X.K = T.K) (hc : X.calm = true) (h : PGsA X es is) (hn : (assignEach es X.env).length = is.length:=by rfl) (hst : (assignEach es X.env).findIdx? (·.1) = none:=by rfl) : PGA T X (.Tuple es k pos) (.tup is) :=
 ⟨_,ygs hc h hn hst,fun {ι h H en e σ v u Q} S er r q k=>by
  unfold setT at q
  split at q
  ·rename_i hh; cases hh
  ·rename_i hh
   cases hh
   obtain ⟨a,us,rfl,q1,r1⟩:=yc4 r
   obtain ⟨h1,h2⟩:=zdz r1 er q
   exact ⟨a,us,rfl,hK ▸ q1,h2,h2,k _ h1⟩
  ·rename_i hh; cases hh
  ·cases q⟩
theorem yg0 {tg : Expr} {t : Tg} (ha : PEA T E X a sa) (hg : PGA T X tg t) (hs : swapsWithSole [tg] a pos.line X.env = pure false:=by rfl) (hw : swappedStores [tg] a X.env = pure none:=by rfl)
  (h1 : (assignEach [tg] X.env).map (·.2) = [assign tg X.env]:=by rfl) : PSA T E X (.Assign [tg] a pos) (yfW t sa):=by
 obtain ⟨g,hg1,hg2⟩:=hg
 refine ybS (yfa ha hg1 hs hw h1) fun D σ H ⟨ι,h,en,S,er,q⟩=>⟨ι,h,en,S,er,q.go er fun v h1 ι1 H1 u g1 S1 r1 q1=>?_⟩
 split at q1
 ·rename_i e he
  exact hg2 S1 (er.mono g1) r1 he fun σ' er' => q1 ι1 H1 σ' S1.refl S1 er'
 ·exact q1.elim
structure ItR (T : Tb) (J : It) (ι : Ix) (H : Hp) (xs : List AV) (w : Option Nat) : Prop where
 go : ∀ (i : Nat) (ι' : Ix) (h' : AH) (H' : Hp) (x : AV),Ext ι H ι' H' -> Sim T ι' h' H' -> ybF w xs h' = true -> xs[i]? = some x -> J.go i H' /\ ∀ u H2,J.yld i H' u H2 -> Grow ι' H' ι' H2 /\ Sim T ι' h' H2 /\ RV T ι' H2 x u
 stop : ∀ (i : Nat) (ι' : Ix) (h' : AH) (H' : Hp),Ext ι H ι' H' -> Sim T ι' h' H' -> ybF w xs h' = true -> xs.length <= i -> J.stop i H'
def tI (T : Tb) (it : SI) : TI:=fun σ H R=>∃ ι h en,Sim T ι h H /\ ER T ι H en σ /\ match it en h with
 | .ok (xs,w) h' => ∀ ι' H' J,Grow ι H ι' H' -> Sim T ι' h' H' -> ItR T J ι' H' xs w -> R J H'
 | _=>False
abbrev PIA (T : Tb) (X : Cx) (tg iter : Expr) (it : SI) : Prop:=PI X tg iter (tI T it)
theorem yds {X : Cx} {tg iter : Expr} {t t' : TI} (h : PI X tg iter t) (k : ∀ σ H R,t' σ H R -> t σ H R) : PI X tg iter t' := fun pins s σ H R I q=>h pins s σ H R I (k σ H R q)
theorem PI.or {X : Cx} {tg iter : Expr} {t t' : TI} (h : PI X tg iter t) (h' : PI X tg iter t') : PI X tg iter (fun σ H R=>t σ H R \/ t' σ H R):=fun pins s σ H R I q=>q.elim (h pins s σ H R I) (h' pins s σ H R I)
theorem yfo {ι : Ix} {H : Hp} {a : Addr} {us : List V} {xs : List AV} {K : PySem.W.Frag} (keep : ∀ (ι' : Ix) (H' : Hp),Ext ι H ι' H' -> SqL K H' a us) (r : RVs T ι H xs us) : ItR T (Itl K a) ι H xs none:=by
 constructor
 ·intro i ι' h' H' x g S _ e
  obtain ⟨u,e1,r1⟩:=(r.ext g).get e
  refine ⟨⟨us,u,keep ι' H' g,e1⟩,?_⟩
  rintro u2 H2 ⟨rfl,y⟩
  have z:=y us (keep ι' _ g)
  rw [e1] at z; cases z
  exact ⟨S.refl,S,r1⟩
 ·intro i ι' h' H' g S _ hl
  exact ⟨us,keep ι' H' g,by rw [<- r.length]; exact hl⟩
theorem yg1 {ι : Ix} {H : Hp} {a : Addr} {us : List V} {xs : List AV} {K : PySem.W.Frag} (keep : ∀ (ι' : Ix) (H' : Hp),Ext ι H ι' H' -> SqT K H' a us) (r : RVs T ι H xs us) : ItR T (Itt K a) ι H xs none:=by
 constructor
 ·intro i ι' h' H' x g S _ e
  obtain ⟨u,e1,r1⟩:=(r.ext g).get e
  refine ⟨⟨us,u,keep ι' H' g,e1⟩,?_⟩
  rintro u2 H2 ⟨rfl,y⟩
  have z:=y us (keep ι' _ g)
  rw [e1] at z; cases z
  exact ⟨S.refl,S,r1⟩
 ·intro i ι' h' H' g S _ hl
  exact ⟨us,keep ι' H' g,by rw [<- r.length]; exact hl⟩
theorem ziy {ι : Ix} {H : Hp} {a : Addr} {n : Nat} {xs : List AV} {K : PySem.W.Frag} (e : ι.refs[n]? = some a) : ItR T (Itl K a) ι H xs (some n):=by
 have at_ : ∀ {ι' : Ix} {h' : AH} {H' : Hp},Ext ι H ι' H' -> Sim T ι' h' H' -> ybF (some n) xs h' = true -> ∃ us,H' a = some (.lst us) /\ RVs T ι' H' xs us:=fun {ι' h' H'} g S l=>by
  unfold ybF at l
  dsimp only at l
  split at l
  ·rename_i ys hy
   have z:=of_decide_eq_true l
   subst z
   obtain ⟨u,e1,us,rfl,r⟩:=S.obj n _ a hy (g.at_ e)
   exact ⟨us,e1,r⟩
  ·cases l
 constructor
 ·intro i ι' h' H' x g S l e
  obtain ⟨us,e0,r⟩:=at_ g S l
  obtain ⟨u,e1,r1⟩:=r.get e
  refine ⟨⟨us,u,.of e0,e1⟩,?_⟩
  rintro u2 H2 ⟨rfl,y⟩
  have z:=y us (.of e0)
  rw [e1] at z; cases z
  exact ⟨S.refl,S,r1⟩
 ·intro i ι' h' H' g S l hl
  obtain ⟨us,e0,r⟩:=at_ g S l
  exact ⟨us,.of e0,by rw [<- r.length]; exact hl⟩
theorem ziz {ι : Ix} {H : Hp} {x : Str} (o : x.cps.all (· < 0x110000) = true) : ItR T (Its x) ι H (x.cps.toList.map fun c=>.str ⟨#[c]⟩) none:=by
 constructor
 ·intro i ι' h' H' y g S _ e
  rw [List.getElem?_map] at e
  obtain ⟨c,e1,rfl⟩:=Option.map_eq_some_iff.mp e
  have hi : i < x.cps.size:=by
   have:=(List.getElem?_eq_some_iff.mp e1).1
   simpa using this
  refine ⟨hi,?_⟩
  rintro u H2 ⟨rfl,c',e2,rfl⟩
  have z : x.cps[i]? = some c:=by simpa using e1
  rw [e2] at z; cases z
  refine ⟨S.refl,S,.str (show 1 <= sizeLine by decide) ?_⟩
  have m:=Array.mem_of_getElem? e2
  have:=Array.all_eq_true_iff_forall_mem.mp o _ m
  simpa using this
 ·intro i ι' h' H' g S _ hl
  show x.cps.size <= i
  simpa using hl
theorem zfQ (n : Nat) : ∀ (lo : Int) (i : Nat),(yau lo n)[i]? = if i < n then some (.int (lo + i)) else none:=by
 induction n with
 | zero=>intro lo i; simp [yau]
 | succ n ih =>
  intro lo i
  cases i with
  | zero=>simp [yau]
  | succ i =>
   show (yau (lo + 1) n)[i]? = _
   rw [ih]
   by_cases h : i < n
   ·rw [if_pos h,if_pos (by omega)]
    congr 2
    show lo + 1 + (i : Int) = lo + ((i + 1 : Nat) : Int)
    omega
   ·rw [if_neg h,if_neg (by omega)]
theorem zdP (n : Nat) : ∀ lo : Int,(yau lo n).length = n:=by
 induction n with
 | zero=>intro lo; rfl
 | succ n ih=>intro lo; show (yau (lo + 1) n).length + 1 = n + 1; rw [ih]
theorem zdA {ι : Ix} {H : Hp} {lo : Int} {n : Nat} : ItR T (Itr lo n) ι H (yau lo n) none:=by
 constructor
 ·intro i ι' h' H' y g S _ e
  rw [zfQ] at e
  split at e
  ·rename_i hi
   cases e
   refine ⟨hi,?_⟩
   rintro u H2 ⟨rfl,rfl⟩
   exact ⟨S.refl,S,.int _⟩
  ·cases e
 ·intro i ι' h' H' g S _ hl
  rw [zdP] at hl
  exact hl
theorem numbered_get : ∀ (xs : List AV) (k i : Nat),(numbered k xs)[i]? = (xs[i]?).map fun x=>.tup [.int ((k + i : Nat) : Int),x]
 | [],k,i=>by simp [numbered]
 | x :: xs,k,0=>by simp [numbered]
 | x :: xs,k,i + 1=>by
  show (numbered (k + 1) xs)[i]? = _
  rw [numbered_get xs (k + 1) i]
  show _ = (xs[i]?).map _
  congr 1
  funext y
  rw [show k + 1 + i = k + (i + 1) by omega]
theorem zbh : ∀ (xs : List AV) (k : Nat),(numbered k xs).length = xs.length
 | [],_=>rfl
 | x :: xs,k=>by show (numbered (k + 1) xs).length + 1 = _; rw [zbh xs]; rfl
theorem zej {ι : Ix} {H : Hp} {a : Addr} {us : List V} {xs : List AV} {K : PySem.W.Frag} (keep : ∀ (ι' : Ix) (H' : Hp),Ext ι H ι' H' -> SqL K H' a us) (r : RVs T ι H xs us) : ItR T (Ite K a) ι H (numbered 0 xs) none:=by
 constructor
 ·intro i ι' h' H' x g S _ e
  rw [numbered_get] at e
  obtain ⟨y,e0,rfl⟩:=Option.map_eq_some_iff.mp e
  obtain ⟨u,e1,r1⟩:=(r.ext g).get e0
  refine ⟨⟨us,u,keep ι' H' g,e1⟩,?_⟩
  rintro u2 H2 ⟨t,y2,rfl,hn,rfl,hy⟩
  have z:=hy us (keep ι' _ g)
  rw [e1] at z; cases z
  have g2:=S.growNew (o:=.tup [.int i,u]) hn
  refine ⟨g2,S.new hn,.tup (S.fresh hn) zaf (.cons ?_ (.cons (r1.mono g2) .nil))⟩
  rw [Nat.zero_add]
  exact .int _
 ·intro i ι' h' H' g S _ hl
  rw [zbh] at hl
  exact ⟨us,keep ι' H' g,by rw [<- r.length]; exact hl⟩
theorem yf1 {ι : Ix} {H : Hp} {a : Addr} {us : List V} (n : a ∉ ι.all) (h : Rd H a (.lst us)) : ∀ (ι' : Ix) (H' : Hp),Ext ι H ι' H' -> SqL T.K H' a us:=fun _ _ g=>.inl (ze6 g n h)
theorem yh4 {ι : Ix} {H : Hp} {a : Addr} {us : List V} (n : a ∉ ι.all) (h : H a = some (.tup us)) : ∀ (ι' : Ix) (H' : Hp),Ext ι H ι' H' -> SqT T.K H' a us:=fun _ _ g=>.of (g.keep _ _ n h)
theorem yec {K K' : PySem.W.Frag} {H : Hp} {a : Addr} {us : List V} (e : K = K') (h : SqL K' H a us) : SqL K H a us:=e ▸ h
theorem yf2 {σ : St} {H : Hp} {R : It -> Hp -> Prop} {ι : Ix} {h h1 : AH} {en : En} {v : AV} {xs : List AV} {w : Option Nat} (hK : X.K = T.K) (S : Sim T ι h H) (er : ER T ι H en σ) (e : sa en h = .ok v h1) (hv : (v = .fl xs /\ w = none) \/ ∃ n,v = .ref n /\ h1[n]? = some (.lst xs) /\ w = some n)
  (q : ∀ ι' H' J,Grow ι H ι' H' -> Sim T ι' h1 H' -> ItR T J ι' H' xs w -> R J H') : yfP X.K (tE T E sa) σ H R:=by
 refine ⟨ι,h,en,S,er,?_⟩
 rw [e]
 intro ι1 H1 u g1 S1 r1
 rcases hv with ⟨rfl,rfl⟩ | ⟨n,rfl,hn,rfl⟩
 ·cases r1 with
  | fl n hr rs=>exact ⟨_,rfl,⟨_,yec hK (.inl hr)⟩,q ι1 H1 _ g1 S1 (hK ▸ yfo (yf1 n hr) rs)⟩
  | kfl hr rs=>exact ⟨_,rfl,⟨_,yec hK (.inr hr)⟩,q ι1 H1 _ g1 S1 (hK ▸ yfo (fun _ _ _=>.inr hr) rs)⟩
 ·cases r1 with
  | ref hr =>
   obtain ⟨u,e1,us,rfl,rs⟩:=S1.obj n _ _ hn hr
   exact ⟨_,rfl,⟨_,.of e1⟩,q ι1 H1 _ g1 S1 (ziy hr)⟩
theorem yh5 {σ : St} {H : Hp} {R : It -> Hp -> Prop} {ι : Ix} {h h1 : AH} {en : En} {xs : List AV} (hK : X.K = T.K) (S : Sim T ι h H) (er : ER T ι H en σ) (e : sa en h = .ok (.tup xs) h1)
  (q : ∀ ι' H' J,Grow ι H ι' H' -> Sim T ι' h1 H' -> ItR T J ι' H' xs none -> R J H') : iTup X.K (tE T E sa) σ H R:=by
 refine ⟨ι,h,en,S,er,?_⟩
 rw [e]
 intro ι1 H1 u g1 S1 r1
 cases r1 with
 | tup n hr rs=>exact ⟨_,rfl,⟨_,.of hr⟩,q ι1 H1 _ g1 S1 (hK ▸ yg1 (yh4 n hr) rs)⟩
theorem ydt {y : Str} {py : Pos} (hK : X.K = T.K) (ha : PEA T E X a sa) : PIA T X (.Name y py) a (iVal sa) :=
 yds (PI.or (zh3 ha) (PI.or (ygv ha) (ygQ ha))) fun σ H R ⟨ι,h,en,S,er,q⟩=>by
  unfold iVal at q
  cases e : sa en h with
  | bad=>rw [e] at q; exact q.elim
  | ex c h1=>rw [e] at q; exact q.elim
  | ok v h1 =>
   rw [e] at q
   cases v with
   | fl xs=>exact .inl (yf2 hK S er e (.inl ⟨rfl,rfl⟩) q)
   | tup xs=>exact .inr (.inl (yh5 hK S er e q))
   | str z =>
    refine .inr (.inr ⟨ι,h,en,S,er,?_⟩)
    rw [e]
    intro ι1 H1 u g1 S1 r1
    obtain ⟨rfl,_,o⟩:=yaV r1
    exact ⟨_,rfl,q ι1 H1 _ g1 S1 (ziz o)⟩
   | ref n =>
    dsimp only [Out.bind] at q
    cases e2 : h1[n]? with
    | none=>rw [e2] at q; exact q.elim
    | some o =>
     rw [e2] at q
     cases o with
     | lst xs=>exact .inl (yf2 hK S er e (.inr ⟨n,rfl,e2,rfl⟩) q)
     | _=>exact q.elim
   | _=>exact q.elim
theorem za0 {tg : Expr} {p : Pos} (hg : Gl X "range") (hm : X.mg "range" = none) (ha : PEA T E X a sa) (hs : starEach [a] X.env = [(false,eval a X.env)]:=by rfl) : PIA T X tg (.Call (.Name "range" p) [a] [] pos) (yaW sa) :=
 yds (zf9 hg hm (zaa ha yac hs) hs) fun σ H R ⟨ι,h,en,S,er,q⟩=>by
  unfold yaW at q
  refine ⟨ι,h,en,S,er,?_⟩
  unfold yab
  cases e : sa en h with
  | bad=>rw [e] at q; exact q
  | ex c h1=>rw [e] at q; exact q.elim
  | ok v h1 =>
   rw [e] at q
   intro ι1 H1 u g1 S1 r1
   dsimp only [Out.bind] at q
   cases v with
   | int j =>
    dsimp only at q
    split at q
    ·rename_i hx
     split at hx
     ·rename_i hb
      cases hx
      cases r1 with
      | cons r r' =>
       cases r'
       rw [yax r]
       exact ⟨j,rfl,by omega,by omega,q ι1 H1 _ g1 S1 zdA⟩
     ·cases hx
    ·exact q.elim
   | _=>exact q.elim
theorem za1 {tg : Expr} {p : Pos} (hg : Gl X "range") (hm : X.mg "range" = none) (ha : PEA T E X a sa) (hb : PEA T E X b sb) (hs : starEach [a,b] X.env = [(false,eval a X.env),(false,eval b X.env)]:=by rfl) (hs2 : starEach [b] X.env = [(false,eval b X.env)]:=by rfl) :
  PIA T X tg (.Call (.Name "range" p) [a,b] [] pos) (yaX sa sb) :=
 yds (zga hg hm (zaa ha (zaa hb yac hs2) (by rw [hs,hs2])) hs hs2) fun σ H R ⟨ι,h,en,S,er,q⟩=>by
  unfold yaX at q
  refine ⟨ι,h,en,S,er,?_⟩
  unfold yab
  cases e : sa en h with
  | bad=>rw [e] at q; exact q
  | ex c h1=>rw [e] at q; exact q.elim
  | ok v h1 =>
   rw [e] at q
   dsimp only [Out.bind] at q ⊢
   cases e' : sb en h1 with
   | bad=>rw [e'] at q; exact q
   | ex c h1=>rw [e'] at q; exact q.elim
   | ok v' h2 =>
    rw [e'] at q
    dsimp only at q
    intro ι1 H1 u g1 S1 r1
    split at q
    ·rename_i hx
     split at hx
     ·split at hx
      ·rename_i hb
       cases hx
       cases r1 with
       | cons r r' =>
        cases r' with
        | cons r2 r3 =>
         cases r3
         rw [yax r,yax r2]
         exact ⟨_,_,rfl,by omega,q ι1 H1 _ g1 S1 zdA⟩
      ·cases hx
     ·cases hx
    ·exact q.elim
theorem ziA {p tp : Pos} {es : List Expr} {k : Nat} (hK : X.K = T.K) (hg : Gl X "enumerate") (hm : X.mg "enumerate" = none) (ha : PEA T E X a sa) (hs : starEach [a] X.env = [(false,eval a X.env)]:=by rfl) : PIA T X (.Tuple es k tp) (.Call (.Name "enumerate" p) [a] [] pos) (Sm.iEnum sa) :=
 yds (zik hg hm (zaa ha yac hs) hs) fun σ H R ⟨ι,h,en,S,er,q⟩=>by
  unfold Sm.iEnum at q
  refine ⟨ι,h,en,S,er,?_⟩
  unfold yab
  cases e : sa en h with
  | bad=>rw [e] at q; exact q
  | ex c h1=>rw [e] at q; exact q.elim
  | ok v h1 =>
   rw [e] at q
   intro ι1 H1 u g1 S1 r1
   dsimp only [Out.bind] at q
   cases v with
   | fl xs =>
    cases r1 with
    | cons r r' =>
     cases r'
     cases r with
     | fl n hr rs=>exact ⟨_,rfl,⟨_,yec hK (.inl hr)⟩,q ι1 H1 _ g1 S1 (hK ▸ zej (yf1 n hr) rs)⟩
     | kfl hr rs=>exact ⟨_,rfl,⟨_,yec hK (.inr hr)⟩,q ι1 H1 _ g1 S1 (hK ▸ zej (fun _ _ _=>.inr hr) rs)⟩
   | _=>exact q.elim
theorem zdB {α : Type} {xs : List α} {i : Nat} (h : i < xs.length) : xs.drop i = xs[i] :: xs.drop (i + 1):=by simp
theorem yb7 {tg iter : Expr} {it : SI} {t : Tg} (hc : X.calm = true) (hi : PIA T X.nox tg iter it) (hg : PGA T X.nox tg t) (hb : PSsA T EN X.nox sts s1) (hs : ∀ x,foldedSetIterable iter X.nox.env x = pure x:=by intro _; rfl) :
  PSA T E X (.For tg iter sts [] pos) (sFor it t s1):=by
 obtain ⟨g,hg1,hg2⟩:=hg
 refine ybS (ygW (ygw PassesOwn.never hc hi hg1 hb hs)) fun D σ H ⟨ι,h,en,S,er,q⟩=>⟨ι,h,en,S,er,?_⟩
 unfold sFor at q
 cases e : it en h with
 | bad=>rw [e] at q; exact q
 | ex c h1=>rw [e] at q; exact q
 | ok p h1 =>
  obtain ⟨xs,w⟩:=p
  rw [e] at q
  intro ι1 H1 J g1 S1 IR
  refine ⟨fun i m σ H=>m = xs.length - i /\ i <= xs.length /\ ∃ ι' h' en',Grow ι1 H1 ι' H /\ Sim T ι' h' H /\ ER T ι' H en' σ /\ PostS T ι' H E (ya4 w xs t s1 (xs.drop i) en' h') D,
   ⟨xs.length,by simp,Nat.zero_le _,ι1,h1,en,S1.refl,S1,er.mono g1,PostS.shift q g1⟩,?_⟩
  rintro i m σ H ⟨rfl,hi,ι',h',en',g',S',er',q'⟩
  by_cases hl : i < xs.length
  ·rw [zdB hl] at q'
   unfold ya4 at q'
   split at q'
   ·rename_i hlive
    obtain ⟨go,yld⟩:=IR.go i ι' h' H xs[i] g'.ext S' hlive (by simp [hl])
    refine .inr ⟨go,fun σ H=>∃ ι' h' en',Grow ι1 H1 ι' H /\ Sim T ι' h' H /\ ER T ι' H en' σ /\ PostS T ι' H E (ya4 w xs t s1 (xs.drop (i + 1)) en' h') D,
     fun σ' H' w' => ⟨xs.length - (i + 1),by omega,rfl,hl,w'⟩,fun x H' y=>?_⟩
    obtain ⟨g2,S2,r2⟩:=yld x H' y
    split at q'
    ·rename_i e1 he1
     refine hg2 S2 (er'.mono g2) r2 he1 fun σ' er2=>⟨ι',h',e1,S2,er2,?_⟩
     have q2:=PostS.shift q' g2
     cases e2 : s1 e1 h' with
     | nx e3 h3=>rw [e2] at q2; exact fun ι3 H3 σ3 g3 S3 er3=>⟨ι3,h3,e3,g'.trans (g2.trans g3),S3,er3,q2.shift g3⟩
     | ct e3 h3=>rw [e2] at q2; exact fun ι3 H3 σ3 g3 S3 er3=>⟨ι3,h3,e3,g'.trans (g2.trans g3),S3,er3,q2.shift g3⟩
     | bk e3 h3=>rw [e2] at q2; exact q2
     | rt v h3=>rw [e2] at q2; exact q2
     | ex c e3 h3=>rw [e2] at q2; exact (show False from q2).elim
     | bad=>rw [e2] at q2; exact q2
    ·exact (show False from q').elim
   ·exact (show False from q').elim
  ·have ei : i = xs.length:=by omega
   subst ei
   rw [List.drop_length] at q'
   unfold ya4 at q'
   split at q'
   ·rename_i hlive
    exact .inl ⟨IR.stop _ ι' h' H g'.ext S' hlive (Nat.le_refl _),q' ι' H σ S'.refl S' er'⟩
   ·exact (show False from q').elim
theorem ER.comp {ι : Ix} {H : Hp} {en : En} {σ : St} {x : AV} {u : V} {jf : List (Nat × Str)} (er : ER T ι H en σ) (r : RV T ι H x u) : ER T ι H (some x :: (jf.map (·.1)).map fun j=>(en[j]?).join) (ybq (some u) jf σ):=by
 refine ⟨by simp [ybq],fun i v e=>?_⟩
 cases i with
 | zero=>simp at e; subst e; exact ⟨u,rfl,r⟩
 | succ i =>
  simp only [List.getElem?_cons_succ,List.getElem?_map] at e
  unfold ybq
  simp only [List.getElem?_cons_succ,List.getElem?_map]
  cases e1 : jf[i]? with
  | none=>rw [e1] at e; cases e
  | some j =>
   rw [e1] at e
   simp only [Option.map_some,Option.some.injEq] at e
   have e2 : en[j.1]? = some (some v):=by
    cases e3 : en[j.1]? with
    | none=>rw [e3] at e; cases e
    | some o=>rw [e3] at e; exact congrArg some e
   obtain ⟨u',e4,r'⟩:=er.2 j.1 v e2
   exact ⟨u',by simp [e4],r'⟩
theorem ziB {jf : List (Nat × Str)} {it : SI} {cc : SB} {ce : SE} {σ : St} {H : Hp} {Q : VK} {ι : Ix} {h : AH} {en : En} (S : Sim T ι h H) (er : ER T ι H en σ)
  (q : match it en h with | .ok (xs,w) h1=>(match yaM (jf.map (·.1)) en w xs cc ce xs [] h1 with | .ok ys h2=>∀ ι' H' D vs,Grow ι H ι' H' -> Sim T (ι'.hide D) h2 H' -> RVs T (ι'.hide D) H' ys vs -> H' D = some (.lst vs) -> D ∉ ι'.all -> (∀ n,ι'.refs = ι.refs++n -> ∀ a ∈ n++[D],H a = none) -> Q (.ref D) H' | _=>False) | _=>False) :
  yd6 jf (tI T it) (tT T EN cc) (tE T EN ce) σ H Q:=by
 refine ⟨ι,h,en,S,er,?_⟩
 cases e : it en h with
 | bad=>rw [e] at q; exact q
 | ex c h1=>rw [e] at q; exact q
 | ok p h1 =>
  obtain ⟨xs,w⟩:=p
  rw [e] at q
  dsimp only at q
  intro ι1 H1 J g1 S1 IR D hD
  refine ⟨fun i m ys H2=>m = xs.length - i /\ i <= xs.length /\ H2 D = some (.lst ys) /\ ∃ ι' h' vs,Grow ι1 H1 ι' H2 /\ Ext ι1 H1 (ι'.hide D) H2 /\ Sim T (ι'.hide D) h' H2 /\ ER T (ι'.hide D) H2 en σ /\ RVs T (ι'.hide D) H2 vs ys /\ D ∉ ι'.refs /\
   (match yaM (jf.map (·.1)) en w xs cc ce (xs.drop i) vs h' with | .ok ys h2=>∀ ι' H' D vs,Grow ι H ι' H' -> Sim T (ι'.hide D) h2 H' -> RVs T (ι'.hide D) H' ys vs -> H' D = some (.lst vs) -> D ∉ ι'.all -> (∀ n,ι'.refs = ι.refs++n -> ∀ a ∈ n++[D],H a = none) -> Q (.ref D) H' | _=>False),?_,?_⟩
  ·exact ⟨xs.length,by simp,Nat.zero_le _,zaf,ι1,h1,[],S1.growNew hD,Ext.hide hD,S1.hide hD,(er.mono g1).ext (Ext.hide hD),.nil,fun z=>S1.fresh hD (List.mem_append_left _ z),q⟩
  ·rintro i m ys H2 ⟨rfl,hi,hH2,ι',h',vs,g',x',S',er',rv',nD',q'⟩
   refine ⟨hH2,?_⟩
   by_cases hl : i < xs.length
   ·rw [zdB hl] at q'
    unfold yaM at q'
    by_cases hs : ybF w xs h' = true /\ vs.length < sizeLine
    ·rw [if_pos hs] at q'
     obtain ⟨hs1,hs2⟩:=hs
     obtain ⟨go,yld⟩:=IR.go i _ h' H2 xs[i] x' S' hs1 (by simp [hl])
     refine .inr ⟨go,by rw [<- rv'.length]; exact hs2,fun x H3 y=>?_⟩
     obtain ⟨g3,S3,r3⟩:=yld x H3 y
     have er3:=er'.mono g3
     refine ⟨ι'.hide D,h',_,S3,ER.comp er3 r3,?_⟩
     cases ec : cc (some xs[i] :: (jf.map (·.1)).map fun j=>(en[j]?).join) h' with
     | bad=>rw [ec] at q'; exact q'
     | ex c h5=>rw [ec] at q'; exact q'.elim
     | ok bb h5 =>
      rw [ec] at q'
      intro ι5 H5 b5 g5 S5 r5
      subst r5
      have g35:=g3.trans g5
      have hD5 : H5 D = some (.lst ys):=g35.keep D _ nD' hH2
      have eι : ι5 = Ix.hide ⟨ι5.refs,ι'.priv⟩ D:=by
       have:=g5.priv
       cases ι5
       simp only at this
       subst this
       rfl
      have nD5 : D ∉ ι5.refs:=g35.outR nD' hH2
      have gG5 : Grow ι1 H1 ⟨ι5.refs,ι'.priv⟩ H5:=by
       obtain ⟨n,en1,hn⟩:=g'.pre
       obtain ⟨k,ek,hk⟩:=g35.pre
       refine ⟨⟨n++k,?_,fun a ha=>?_⟩,g'.priv,fun a o na ea=>?_,fun a ha=>?_⟩
       ·show ι5.refs = _; rw [ek]; show ι'.refs++k = _; rw [en1]; simp
       ·rcases List.mem_append.mp ha with z | z
        ·exact hn a z
        ·have z2:=hk a z
         by_cases hr : a ∈ ι1.refs
         ·exact absurd z2 (g'.live a (List.mem_append_left _ hr))
         ·cases e9 : H1 a with
          | none=>rfl
          | some o=>rw [g'.keep a o hr e9] at z2; cases z2
       ·exact g35.keep a o (g'.outR na ea) (g'.keep a o na ea)
       ·have : a ∈ (ι'.hide D).all:=by
         rcases List.mem_append.mp ha with z | z
         ·exact List.mem_append_left _ (by show a ∈ ι'.refs; rw [en1]; exact List.mem_append_left _ z)
         ·exact List.mem_append_right _ (List.mem_cons_of_mem _ (by rw [g'.priv]; exact z))
        exact g35.live a this
      have x5 : Ext ι1 H1 (Ix.hide ⟨ι5.refs,ι'.priv⟩ D) H5:=eι ▸ x'.trans g35.ext
      have er5:=er3.mono g5
      have rv5:=(rv'.mono g35)
      cases bb with
      | false =>
       rw [if_neg Bool.false_ne_true]
       refine ⟨xs.length - (i + 1),by omega,rfl,hl,hD5,⟨ι5.refs,ι'.priv⟩,h5,vs,gG5,x5,eι ▸ S5,eι ▸ er5,eι ▸ rv5,nD5,q'⟩
      | true =>
       rw [if_pos rfl]
       refine ⟨ι5,h5,_,S5,(ER.comp er3 r3).mono g5,?_⟩
       dsimp only at q'
       cases ee : ce (some xs[i] :: (jf.map (·.1)).map fun j=>(en[j]?).join) h5 with
       | bad=>rw [ee] at q'; exact q'
       | ex c h6=>rw [ee] at q'; exact q'.elim
       | ok v h6 =>
        rw [ee] at q'
        intro ι6 H6 u6 g6 S6 r6
        have g56:=g6
        have hD6 : H6 D = some (.lst ys):=g56.keep D _ nD5 hD5
        have eι6 : ι6 = Ix.hide ⟨ι6.refs,ι'.priv⟩ D:=by
         have h1:=g6.priv
         have h2:=g5.priv
         rw [h2] at h1
         cases ι6
         simp only at h1
         subst h1
         rfl
        have nD6 : D ∉ ι6.refs:=g56.outR nD5 hD5
        have gG6 : Grow ι1 H1 ⟨ι6.refs,ι'.priv⟩ (upd H6 D (.lst (ys++[u6]))):=by
         obtain ⟨n,en1,hn⟩:=gG5.pre
         obtain ⟨k,ek,hk⟩:=g56.pre
         have hD1 : ∀ a o,H1 a = some o -> a ≠ D:=fun a o ea=>zaj ea hD
         refine ⟨⟨n++k,?_,fun a ha=>?_⟩,g'.priv,fun a o na ea=>?_,fun a ha=>?_⟩
         ·show ι6.refs = _; rw [ek]; have z : ι5.refs = ι1.refs++n:=en1; rw [z]; simp
         ·rcases List.mem_append.mp ha with z | z
          ·exact hn a z
          ·have z2:=hk a z
           by_cases hr : a ∈ ι1.refs
           ·exact absurd z2 (gG5.live a (List.mem_append_left _ hr))
           ·cases e9 : H1 a with
            | none=>rfl
            | some o=>rw [gG5.keep a o hr e9] at z2; cases z2
         ·rw [yal (hD1 a o ea)]
          exact g56.keep a o (gG5.outR na ea) (gG5.keep a o na ea)
         ·by_cases zD : a = D
          ·subst zD; rw [zaf]; simp
          ·rw [yal zD]
           have : a ∈ ι5.all:=by
            rcases List.mem_append.mp ha with z | z
            ·exact List.mem_append_left _ (by have z' : ι5.refs = ι1.refs++n:=en1; rw [z']; exact List.mem_append_left _ z)
            ·rw [eι]; exact List.mem_append_right _ (List.mem_cons_of_mem _ (by show a ∈ ι'.priv; rw [g'.priv]; exact z))
           exact g56.live a this
        refine ⟨hD6,xs.length - (i + 1),by omega,rfl,hl,zaf,⟨ι6.refs,ι'.priv⟩,h6,vs++[v],gG6,?_,?_,?_,?_,nD6,q'⟩
        ·exact (eι6 ▸ (x'.trans (g35.ext.trans g6.ext))).trans Ext.poke
        ·exact Sim.poke (eι6 ▸ S6) nD6
        ·exact ER.ext (eι6 ▸ er5.mono g6) Ext.poke
        ·have : RVs T ι6 H6 (vs++[v]) (ys++[u6]):=(rv5.mono g6).append (.cons r6 .nil)
         exact RVs.ext Ext.poke (eι6 ▸ this)
    ·rw [if_neg hs] at q'; exact q'.elim
   ·have ei : i = xs.length:=by omega
    subst ei
    rw [List.drop_length] at q'
    unfold yaM at q'
    by_cases hs : ybF w xs h' = true
    ·rw [if_pos hs] at q'
     have hp : D ∉ ι'.priv:=fun z=>by rw [g'.priv] at z; exact S1.plive D z hD
     refine .inl ⟨IR.stop _ _ h' H2 x' S' hs (Nat.le_refl _),q' ι' H2 D ys (g1.trans g') S' rv' hH2 (fun z=>(List.mem_append.mp z).elim nD' hp) fun n en1 a ha=>?_⟩
     obtain ⟨k,ek,hk⟩:=(g1.trans g').pre
     have : n = k:=List.append_cancel_left (en1.symm.trans ek)
     subst this
     rcases List.mem_append.mp ha with z | z
     ·exact hk a z
     ·have z' : a = D:=by simpa using z
      subst z'
      cases e9 : H a with
      | none=>rfl
      | some o =>
       by_cases hr : a ∈ ι.refs
       ·have z1 : a ∈ ι1.refs:=by
         obtain ⟨k1,ek1,_⟩:=g1.pre
         rw [ek1]; exact List.mem_append_left _ hr
        exact absurd hD (S1.live a (List.mem_append_left _ z1))
       ·rw [g1.keep a o hr e9] at hD; cases hD
    ·rw [if_neg hs] at q'; exact q'.elim
end
end Sm
namespace Sm
open PySem PySem.Spec L2
section
variable {T : Tb} {E : St -> XK} {X : Cx} {pos px : Pos} {iter elt : Expr} {ifs : List Expr} {scope : Scope} {x₁ : Str} {jf : List (Nat × Str)} {it : SI} {cc : SB} {ce : SE}
theorem zfc {σ : St} {H : Hp} {Q : VK} (q : tE T E (ya1 (jf.map (·.1)) it cc ce) σ H Q) : yd6 jf (tI T it) (tT T EN cc) (tE T EN ce) σ H Q:=by
 obtain ⟨ι,h,en,S,er,q⟩:=q
 refine ziB S er ?_
 unfold ya1 at q
 cases e : it en h with
 | bad=>rw [e] at q; exact q
 | ex c h1=>rw [e] at q; exact q.elim
 | ok p h1 =>
  obtain ⟨xs,w⟩:=p
  rw [e] at q
  dsimp only at q ⊢
  cases e2 : yaM (jf.map (·.1)) en w xs cc ce xs [] h1 with
  | bad=>rw [e2] at q; exact q
  | ex c h1=>rw [e2] at q; exact q.elim
  | ok ys h2 =>
   rw [e2] at q
   exact fun ι' H' D vs g S' r hD nD _=>q ι' H' _ g S'.show (.fl nD (.inl hD) (r.ext Ext.show))
theorem zaU : PTs X [] (tT T E sYes):=fun pins s σ H Q I ⟨ι,h,en,S,er,q⟩=>zil pins s σ H Q I (q.now S rfl)
structure CompOk (X : Cx) (x₁ : Str) (jf : List (Nat × Str)) (scope : Scope) : Prop where
 hN : (x₁ :: jf.map (·.2)).Nodup
 hx : scope.names.lookup x₁ = some .local
 hjf : ∀ p ∈ jf,X.N[p.1]? = some p.2
 hjl : ∀ p ∈ jf,scope.names.lookup p.2 = some .free
 hkind : scope.kind = .function
 hcell : ∀ y ∈ scope.names,y.2 ≠ .cell
 hfr : ∀ y ∈ scope.names,y.2 = .free -> X.env.kindOf y.1 = some .cell \/ X.env.kindOf y.1 = some .free
 hnames : ∀ y ∈ scope.names,y.2 = .local -> scope.names.lookup y.1 = some .local
theorem ydu (C : CompOk X x₁ jf scope) (hcalm : X.calm = true) (hi : PIA T X (.Name x₁ px) iter it) (hc : ∀ pins cl s H fp,PTs (yaY X pins x₁ jf scope cl s H fp) ifs (tT T EN cc)) (he : ∀ pins cl s H fp,PEA T EN (yaY X pins x₁ jf scope cl s H fp) elt ce)
  (hs : ∀ x,foldedSetIterable iter X.env x = pure x:=by intro _; rfl) : PEA T E X (.ListComp elt [⟨.Name x₁ px,iter,ifs,0⟩] scope pos) (ya1 (jf.map (·.1)) it cc ce) :=
 yaE (zim hcalm hi hc he C.hN C.hx C.hjf C.hjl C.hkind C.hcell C.hfr C.hnames hs) fun _ _ _ q=>zfc q
theorem ziC {y : Str} {py spos : Pos} {i : Nat} (C : CompOk X x₁ jf scope) (hcalm : X.calm = true) (hi : PIA T X (.Name x₁ px) iter it) (hc : ∀ pins cl s H fp,PTs (yaY X pins x₁ jf scope cl s H fp) ifs (tT T EN cc)) (he : ∀ pins cl s H fp,PEA T EN (yaY X pins x₁ jf scope cl s H fp) elt ce)
  (hNX : X.N.Nodup) (hi' : X.N[i]? = some y:=by rfl) (hy : X.env.scope.names.lookup y = some .local:=by rfl) (hsw : swapsWith (.ListComp elt [⟨.Name x₁ px,iter,ifs,0⟩] scope pos) (some (.Name y py)) spos.line X.env = pure true:=by rfl) (hs : ∀ x,foldedSetIterable iter X.env x = pure x:=by intro _; rfl) :
  PSA T E X (.Assign [.Name y py] (.ListComp elt [⟨.Name x₁ px,iter,ifs,0⟩] scope pos) spos) (sSet i (ya1 (jf.map (·.1)) it cc ce)) :=
 ybS (zin hcalm hi hc he C.hN C.hx C.hjf C.hjl C.hkind C.hcell C.hfr C.hnames hNX hi' hy hsw hs) fun D σ H q=>zfc (yfm q)
end
def spA (T : Tb) (F : Fn) : Sp:=fun vs H Q E=>∃ ι h args,Sim T ι h H /\ RVs T ι H args vs /\ Post T ι H E (RV T) (F args h) Q
def yh6 (F : Fn) (n : Nat) : Prop:=∀ args h,args.length ≠ n -> F args h = .bad
theorem za7 (n m : Nat) (b : SS) : yh6 (mkFn n m b) n:=fun args h hl=>by
 unfold mkFn
 rw [if_neg hl]
theorem okA {P : Program} {w : World} {K : PySem.W.Frag} {mg : Str -> Option Value} {base : Heap} {T : Tb} {x qual : Str} {st : Stmt} {f : Addr} {fd : FuncData} {N ps : List Str} {k : Nat} {b : SS} (F : Fun K x qual st f fd) (hK : K = T.K) (S : FnScope N ps (yad st))
  (hbody : ∀ (cdv : Value) (A : Around) (outer : List Env) (s : Shared) (H : Hp) (E : XK),Room k (A.deeper (PyProof.Rows.envOfC qual (yad st) s.heap.objs.size f cdv)) -> CA T (fun _=>E) (cxOf (CXE P w) P w K mg base N qual (yad st) f cdv A outer s H E) ->
   PSsA T (fun _=>E) (cxOf (CXE P w) P w K mg base N qual (yad st) f cdv A outer s H E) (ybf st) b) : FnOk P w K mg base (CXE P w) (k + 1) f fd ps (spA T (mkFn ps.length N.length b)):=by
 refine F.okE S (fun vs H Q E h=>?_) (fun cdv A outer s H vs Q E hr h=>?_)
 ·obtain ⟨ι,h,args,_,r,q⟩:=h
  by_cases hl : args.length = ps.length
  ·rw [<- hl,r.length]
  ·rw [za7 _ _ _ args h hl] at q; exact q.elim
 ·obtain ⟨ι,h,args,Si,r,q⟩:=h
  refine ⟨_,hbody cdv A outer s H E hr ⟨hK,ze3⟩,ι,h,args.map some++List.replicate (N.length - ps.length) none,Si,?_,?_⟩
  ·by_cases hl : args.length = ps.length
   ·refine ⟨by simp [L2.start,r.length,<- hl],fun i v e=>?_⟩
    unfold L2.start
    by_cases hi : i < args.length
    ·rw [List.getElem?_append_left (by simpa using hi),List.getElem?_map] at e
     rw [List.getElem?_append_left (by simpa [<- r.length] using hi),List.getElem?_map]
     obtain ⟨x,e1,e2⟩:=Option.map_eq_some_iff.mp e
     cases e2
     obtain ⟨u,e3,r3⟩:=r.get e1
     exact ⟨u,by rw [e3]; rfl,r3⟩
    ·rw [List.getElem?_append_right (by simpa using hi),List.getElem?_replicate] at e
     split at e
     ·cases e
     ·cases e
   ·rw [za7 _ _ _ args h hl] at q; exact q.elim
  ·unfold mkFn at q
   split at q
   ·split at q
    ·rename_i e1 h1 he
     rw [he]
     exact fun ι' H' σ' g S' er=>q ι' H' _ g S' .non
    ·rename_i v h1 he
     rw [he]
     exact q
    ·rename_i c e1 h1 he
     rw [he]
     exact fun ι' H' σ' C g S' er ec=>q ι' H' C g S' ec
    ·exact q.elim
   ·exact q.elim
structure GF (P : Program) (w : World) (T : Tb) (mg : Str -> Option Value) (base : Heap) (k : Nat) (x : Str) (F : Fn) : Prop where
 ex : ∃ f fd ps,mg x = some (.ref f) /\ PySem.W.keepIn T.K (.ref f) = true /\ Binds T.K fd ps [] /\ FnOk P w T.K mg base (CXE P w) k f fd ps (spA T F)
structure GM (P : Program) (w : World) (T : Tb) (mg : Str -> Option Value) (base : Heap) (k : Nat) (c : Nat) (m : Str) (F : Fn) : Prop where
 ex : ∃ C f fd ps,T.cls c = some C /\ Cls T.K C /\ Meth T.K C m f /\ Binds T.K fd ps [] /\ FnOk P w T.K mg base (CXE P w) k f fd ps (spA T F)
 no : m ∉ T.fields c
section
variable {T : Tb} {E : St -> XK} {X : Cx} {pos p apos : Pos} {e o a : Expr} {es : List Expr} {x m : Str} {F : Fn} {k c : Nat} {as : SL} {so sa : SE}
theorem yan (hK : X.K = T.K) (C : CA T E X) (G : GF X.prog X.w T X.mg X.base k x F) (hr : Room k X.A) (hg : Gl X x) (ha : PAA T E X (e :: es) as) (hdb : (x == ("__debug__" : Str)) = false:=by decide)
  (he : starEach (e :: es) X.env = (false,eval e X.env) :: starEach es X.env:=by rfl) (hpl : (backTo pos (starEach es X.env)).any (·.1) = false:=by rfl) : PEA T E X (.Call (.Name x p) (e :: es) [] pos) (yae F as):=by
 obtain ⟨f,fd,ps,h1,h2,h3,h4⟩:=G.ex
 refine yaE (zhq (Ex:=E) (dvs:=[]) (hK ▸ h4) hr hg h1 (hK ▸ h2) (hK ▸ h3) .nil C.pass ha hdb he hpl) fun σ H Q ⟨ι,h,en,S,er,q⟩=>⟨ι,h,en,S,er,q.bind fun xs h1 ι1 H1 us g1 S1 r1 q1=>?_⟩
 rw [List.append_nil]
 exact ⟨ι1,h1,xs,S1,r1,q1⟩
theorem zfd {C : Addr} {σ : St} {H : Hp} {Q : VK} (hc : T.cls c = some C) (no : m ∉ T.fields c) (q : tE T E (yaj c F so as) σ H Q) : yfg C m (spA T F) [] E (tE T E so) (tA T E as) σ H Q:=by
 obtain ⟨ι,h,en,S,er,q⟩:=q
 refine ⟨ι,h,en,S,er,q.bind fun x h1 ι1 H1 u g1 S1 r1 q1=>?_⟩
 split at q1
 ·rename_i n
  split at q1
  ·rename_i c' fs hn
   split at q1
   ·rename_i ec
    subst ec
    cases r1 with
    | @ref _ a hr =>
     obtain ⟨o,e1,C',dx,fus,hC,rfl,nd,hw,hl,_⟩:=S1.obj n _ a hn hr
     rw [hc] at hC; cases hC
     refine ⟨a,dx,fus,rfl,e1,?_,ι1,h1,en,S1,er.mono g1,q1.bind fun xs h2 ι2 H2 us g2 S2 r2 q2=>?_⟩
     ·cases e : fus.lookup m with
      | none=>rfl
      | some v =>
       have:=PySem.mem_of_lookup e
       exact absurd (hw _ this) no
     ·rw [List.append_nil]
      exact ⟨ι2,h2,.ref n :: xs,S2,.cons (.ref (g2.at hr)) r2,q2⟩
   ·exact q1.elim
  ·exact q1.elim
 ·exact q1.elim
theorem yav {pl : Sem Bool} (hK : X.K = T.K) (CC : CA T E X) (G : GM X.prog X.w T X.mg X.base k c m F) (hr : Room k X.A) (ho : PEA T E X o so) (ha : PAA T E X (e :: es) as)
  (hst : starEach (e :: es) X.env = (false,eval e X.env) :: starEach es X.env:=by rfl) (hpl : (backTo pos (starEach es X.env)).any (·.1) = false:=by rfl)
  (ht : eval (.Call (.Attribute o m apos) (e :: es) [] pos) X.env = (do
   let ov <- eval o X.env
   standAt apos.atName
   let (f,first) <- holding [ov] (getMethod ov m pl)
   callWith pos f first (backTo pos (starEach (e :: es) X.env)) (backToKw pos (keywordEach [] X.env))):=by rfl) : PEA T E X (.Call (.Attribute o m apos) (e :: es) [] pos) (yaj c F so as):=by
 obtain ⟨C,f,fd,ps,h1,h2,h3,h4,h5⟩:=G.ex
 exact yaE (zhr (Ex:=E) (dvs:=[]) (pl:=pl) ho (hK ▸ h2) (hK ▸ h3) (hK ▸ h5) hr (hK ▸ h4) .nil CC.pass ha hst hpl ht) fun σ H Q q=>zfd h1 G.no q
theorem zap {pl : Sem Bool} (hK : X.K = T.K) (CC : CA T E X) (G : GM X.prog X.w T X.mg X.base k c m F) (hr : Room k X.A) (ho : PEA T E X o so)
  (ht : eval (.Call (.Attribute o m apos) [] [] pos) X.env = (do
   let ov <- eval o X.env
   standAt apos.atName
   let (f,first) <- holding [ov] (getMethod ov m pl)
   callWith pos f first (backTo pos (starEach [] X.env)) (backToKw pos (keywordEach [] X.env))):=by rfl) : PEA T E X (.Call (.Attribute o m apos) [] [] pos) (yaj c F so sNil):=by
 obtain ⟨C,f,fd,ps,h1,h2,h3,h4,h5⟩:=G.ex
 intro pins s σ H Q I q
 have q' := zfd (C:=C) h1 G.no q
 refine PySem.W.methodCall_KW (pl:=pl) (thn (ho pins s σ H _ I q') fun u s1 ⟨x,H1,I1,rx,a,dx,fs,ex,ea,l,q⟩=>?_) ht
 subst ex
 obtain rfl : u = Value.ref a:=rx
 refine zcK I1 ea (hK ▸ h2) (hK ▸ h3) l ?_
 obtain ⟨ι,h,en,S,er,q⟩:=q
 refine PySem.W.callWith_K0 (first:=[.ref a]) I1.kIn (hK ▸ h3.kp) (zc0 (dvs:=[]) (us:=[.ref a]) (vs:=[.ref a]) (hK ▸ h5) hr (hK ▸ h4) .nil CC.pass I1 (.cons rfl .nil) (q.now S .nil))
structure CF (T : Tb) (c : Nat) : Prop where
 ex : ∃ C,T.cls c = some C /\ Cls T.K C /\ ∀ f ∈ T.fields c,NoAttr T.K C f
structure GK (P : Program) (w : World) (T : Tb) (mg : Str -> Option Value) (base : Heap) (k : Nat) (c : Nat) (x : Str) (F : Fn) : Prop where
 ex : ∃ C f fd ps,T.cls c = some C /\ mg x = some (.ref C) /\ Mk T.K C f /\ Binds T.K fd ps [] /\ FnOk P w T.K mg base (CXE P w) k f fd ps (spA T F)
theorem zgv {CX : CXT} {C f : Addr} {fd : FuncData} {ps : List Str} {sp : Sp} {dvs : List V} {ds : List Value} {pins : List (Addr × Obj)} {σ : St} {H : Hp} {s : Shared} {Q : VK} {us : List Value} {vs : List V} (M : Mk X.K C f) (F : FnOk X.prog X.w X.K X.mg X.base CX k f fd ps sp) (hr : Room (k + 1) X.A) (hb : Binds X.K fd ps ds) (hd : Vals dvs ds)
  (hx : ycn CX X E) (I : L2.Inv X pins σ H s) (r : Vals vs us)
  (h : ∀ x dx,H x = none -> H dx = none -> dx ≠ x -> sp (.ref x :: (vs++dvs)) (upd (upd H dx (.own x)) x (.ins C dx [])) (fun v H2=>v = .non /\ Q (.ref x) H2) (E σ)) :
  wpAny (model X.prog X.w) X.A (call (.ref C) us) (EP X pins σ Q) X.xe s:=by
 have hq:=h (s.heap.objs.size + 1) s.heap.objs.size (I.hok.fresh (Nat.le_succ _)) (I.hok.fresh (Nat.le_refl _)) (Nat.ne_of_lt (Nat.lt_succ_self _))
 have I2:=Inv.made (C:=C) I
 have r2 : Vals (V.ref (s.heap.objs.size + 1) :: (vs++dvs)) (Value.ref (s.heap.objs.size + 1) :: (us++ds)):=.cons rfl (r.append hd)
 have hl : (Value.ref (s.heap.objs.size + 1) :: us++ds).length = ps.length:=by
  have e:=r2.length
  rw [F.len _ _ _ _ hq] at e
  exact e.symm
 refine wpAny_call (zhc (f:=f) I.kIn M.makes M.init (beq_iff_eq.mp M.fn) (codeAny_mono (F.run _ X.stack _ _ ⟨Value.ref (s.heap.objs.size + 1) :: us,[]⟩ (Value.ref (s.heap.objs.size + 1) :: (us++ds)) _ _ (E σ) (hr.make C us [])
  (I2.env0.make C us []) (hb _ (Value.ref (s.heap.objs.size + 1) :: us) I2.kIn hl) r2 hq) fun r s' hq' => ?_))
 cases r with
 | error e=>exact hx pins σ _ _ e s' I2 hq'
 | ok fl =>
  cases fl with
  | ret u =>
   obtain ⟨v,H',I3,rv,ev,q3⟩:=I2.after hq'
   subst ev
   exact ⟨rv,⟨V.ref (s.heap.objs.size + 1),H',I3,rfl,q3⟩⟩
  | next=>exact False.elim hq'
  | brk=>exact False.elim hq'
  | cont=>exact False.elim hq'
theorem ziD {C : Addr} {xs : List AV} {us : List V} {H : Hp} {Q : VK} {ι : Ix} {h : AH} {E : XK} {n : Nat} (hc : T.cls c = some C) (hn : (T.fields c).length = n) (S : Sim T ι h H) (r : RVs T ι H xs us)
  (q : Post T ι H E (RV T) (match F (.ref h.length :: xs) (h++[.ins c (List.replicate n none)]) with | .ok .non h2=>Out.ok (AV.ref h.length) h2 | .ex c h2=>.ex c h2 | _=>.bad) Q) :
  ∀ x dx,H x = none -> H dx = none -> dx ≠ x -> spA T F (.ref x :: us) (upd (upd H dx (.own x)) x (.ins C dx [])) (fun v H2=>v = .non /\ Q (.ref x) H2) E:=by
 intro x dx nx ndx ne
 have nx' : (upd H dx (.own x)) x = none:=by rw [yal (Ne.symm ne)]; exact nx
 have S1:=S.new (o:=.own x) ndx
 have g1:=S.growNew (o:=.own x) ndx
 have g2:=S1.growAdd (u:=.ins C dx []) nx'
 have S2 : Sim T (ι.add x) (h++[.ins c (List.replicate n none)]) (upd (upd H dx (.own x)) x (.ins C dx [])):=S1.add nx' ⟨C,dx,[],hc,rfl,by simp,by simp,by simp [hn],fun i v e=>by
  rw [List.getElem?_replicate] at e
  split at e
  ·cases e
  ·cases e⟩
 refine ⟨ι.add x,_,.ref h.length :: xs,S2,.cons (.ref S.addAt) (r.mono (g1.trans g2)),?_⟩
 have q2:=q.shift (g1.trans g2)
 cases e : F (.ref h.length :: xs) (h++[.ins c (List.replicate n none)]) with
 | bad=>rw [e] at q2; exact q2
 | ex c' h2=>rw [e] at q2; exact q2
 | ok v h2 =>
  rw [e] at q2
  cases v with
  | non=>exact fun ι' H' u g S' r' => ⟨yd9 r',q2 ι' H' _ g S' (.ref (g.at S.addAt))⟩
  | _=>exact (show False from q2).elim
theorem zfe {n : Nat} (hK : X.K = T.K) (CC : CA T E X) (G : GK X.prog X.w T X.mg X.base k c x F) (hr : Room (k + 1) X.A) (hg : Gl X x) (hn : (T.fields c).length = n:=by rfl) (hdb : (x == ("__debug__" : Str)) = false:=by decide) : PEA T E X (.Call (.Name x p) [] [] pos) (ydj c n F sNil):=by
 obtain ⟨C,f,fd,ps,h1,h2,h3,h4,h5⟩:=G.ex
 intro pins s σ H Q I ⟨ι,h,en,S,er,q⟩
 refine wpAny_Call_Name_kw (zaT I hg h2 ?_ hdb)
 have M : Mk X.K C f:=hK ▸ h3
 exact PySem.W.callWith_K0 I.kIn M.kp (zgv (us:=[]) (vs:=[]) (dvs:=[]) M (hK ▸ h5) hr (hK ▸ h4) .nil CC.pass I .nil (ziD h1 hn S .nil q))
theorem yaz {i : Nat} {f : Str} (hK : X.K = T.K) (CFc : CF T c) (ho : PEA T E X o so) (hf : (T.fields c)[i]? = some f:=by rfl) (hb : attributeBase o f X.env (eval o X.env) = eval o X.env:=by rfl) : PEA T E X (.Attribute o f pos) (Sm.sFld c i so):=by
 obtain ⟨C,hC,hcl,hna⟩:=CFc.ex
 refine yaE (ygD ho hb) fun σ H Q ⟨ι,h,en,S,er,q⟩=>⟨ι,h,en,S,er,q.bind fun x h1 ι1 H1 u g1 S1 r1 q1=>?_⟩
 split at q1
 ·rename_i n
  split at q1
  ·rename_i c' fs hn
   split at q1
   ·rename_i ec
    subst ec
    split at q1
    ·rename_i v hv
     cases r1 with
     | @ref _ a hr =>
      obtain ⟨o,e1,C',dx,fus,hC',rfl,nd,hw,hl,hr2⟩:=S1.obj n _ a hn hr
      rw [hC] at hC'; cases hC'
      obtain ⟨f',u,e2,e3,r3⟩:=hr2 i v hv
      rw [hf] at e2; cases e2
      exact ⟨a,_,dx,fus,u,rfl,e1,hK ▸ hcl,hK ▸ hna f (List.mem_of_getElem? hf),e3,q1.now S1 r3⟩
    ·exact q1.elim
   ·exact q1.elim
  ·exact q1.elim
 ·exact q1.elim
theorem zdC (f : Str) (v : V) : ∀ {fs : List (Str × V)},(fs.map (·.1)).Nodup -> ((putF f v fs).map (·.1)).Nodup /\ ∀ g,g ∈ (putF f v fs).map (·.1) -> g = f \/ g ∈ fs.map (·.1)
 | [],_=>by simp [putF]
 | (g,x) :: r,n=>by
  obtain ⟨n1,n2⟩:=List.nodup_cons.mp (show (g :: r.map (·.1)).Nodup from n)
  unfold putF
  split
  ·rename_i e
   subst e
   exact ⟨n,fun k hk=>.inr hk⟩
  ·rename_i e
   obtain ⟨h1,h2⟩:=zdC f v (fs:=r) n2
   refine ⟨List.nodup_cons.mpr ⟨fun z=>?_,h1⟩,fun k hk=>?_⟩
   ·rcases h2 g z with z | z
    ·exact e z
    ·exact n1 z
   ·rcases List.mem_cons.mp hk with z | z
    ·exact .inr (by rw [z]; simp)
    ·rcases h2 k z with z | z
     ·exact .inl z
     ·exact .inr (List.mem_cons_of_mem _ z)
theorem zek : ∀ {l m : List Str},l.Nodup -> (∀ x ∈ l,x ∈ m) -> l.length <= m.length
 | [],m,_,_=>Nat.zero_le _
 | x :: l,m,n,h=>by
  obtain ⟨n1,n2⟩:=List.nodup_cons.mp n
  have hx:=h x (by simp)
  have:=zek (l:=l) (m:=m.erase x) n2 fun y hy=>by
   have ne : y ≠ x:=fun z=>n1 (z ▸ hy)
   exact (List.mem_erase_of_ne ne).mpr (h y (by simp [hy]))
  rw [List.length_erase_of_mem hx] at this
  have : 0 < m.length:=List.length_pos_of_mem hx
  simp only [List.length_cons]
  omega
theorem zaF {i : Nat} {f : Str} {p' : Pos} (hK : X.K = T.K) (CFc : CF T c) (ho : PEA T E X o so) (ha : PEA T E X a sa) (hf : (T.fields c)[i]? = some f:=by rfl) (hs : swapsWith a (some (.Attribute o f p')) pos.line X.env = pure false:=by rfl) :
  PSA T E X (.Assign [.Attribute o f p'] a pos) (yb6 c i so sa):=by
 obtain ⟨C,hC,hcl,hna⟩:=CFc.ex
 refine ybS (ygE ho ha hs) fun D σ H ⟨ι,h,en,S,er,q⟩=>⟨ι,h,en,S,er,q.go er fun y h1 ι1 H1 v g1 S1 r1 q1=>⟨ι1,h1,en,S1,er.mono g1,q1.go (er.mono g1) fun x h2 ι2 H2 u g2 S2 r2 q2=>?_⟩⟩
 split at q2
 ·rename_i n
  split at q2
  ·rename_i c' fs hn
   split at q2
   ·rename_i ec
    subst ec
    cases r2 with
    | @ref _ a hr =>
     obtain ⟨o,e1,C',dx,fus,hC',rfl,nd,hw,hl,hr2⟩:=S2.obj n _ a hn hr
     rw [hC] at hC'; cases hC'
     have hmem : f ∈ T.fields c' := List.mem_of_getElem? hf
     have hlen : fus.length < 1000:=by
      have:=zek nd (m:=T.fields c') (fun x hx=>by
       obtain ⟨p,hp,rfl⟩:=List.mem_map.mp hx
       exact hw p hp)
      have:=T.few c'
      rw [List.length_map] at *
      omega
     obtain ⟨k1,k2⟩:=zdC f v nd
     have g3:=S2.growSet (u:=.ins C dx (putF f v fus)) hr
     refine ⟨a,C,dx,fus,rfl,e1,hK ▸ hcl,hK ▸ hna f hmem,hlen,q2 ι2 _ σ g3 (S2.set hr ⟨C,dx,putF f v fus,hC,rfl,k1,fun p hp=>?_,by simp [hl],fun j w hj=>?_⟩) (er.mono (g1.trans (g2.trans g3)))⟩
     ·rcases k2 p.1 (List.mem_map.mpr ⟨p,hp,rfl⟩) with z | z
      ·rw [z]; exact hmem
      ·obtain ⟨p',hp',e⟩:=List.mem_map.mp z
       rw [<- e]; exact hw p' hp'
     ·by_cases hji : j = i
      ·subst hji
       have hjl : j < fs.length:=by
        have:=(List.getElem?_eq_some_iff.mp hj).1
        simpa using this
       rw [List.getElem?_set_self hjl] at hj
       cases hj
       exact ⟨f,v,hf,by rw [zaY,if_pos rfl],r1.mono (g2.trans g3)⟩
      ·rw [List.getElem?_set_ne (Ne.symm hji)] at hj
       obtain ⟨f',u,e2,e3,r3⟩:=hr2 j w hj
       have ne : f' ≠ f:=fun z=>hji (zco (T.nd c') e2 (z ▸ hf))
       exact ⟨f',u,e2,by rw [zaY,if_neg ne]; exact e3,r3.mono g3⟩
   ·exact (show False from q2).elim
  ·exact (show False from q2).elim
 ·exact (show False from q2).elim
end
end Sm
namespace Sm
open PySem PySem.Spec L2
theorem yeX {T : Tb} {ι : Ix} {H : Hp} {k : Key} {u : V} (r : RV T ι H (kA k) u) : u = kV k:=by
 cases k with
 | inl i=>exact yax r
 | inr x=>exact (yaV r).1
theorem yeG {k j : Key} (e : kA k = kA j) : k = j:=by
 cases k<;>cases j<;>simp [kA] at e<;>simp [e]
theorem zc3 : ∀ {ks js : List Key},ks.map kA = js.map kA -> ks = js
 | [],[],_=>rfl
 | [],_ :: _,e=>by simp at e
 | _ :: _,[],e=>by simp at e
 | k :: ks,j :: js,e=>by
  simp only [List.map_cons,List.cons.injEq] at e
  rw [yeG e.1,zc3 e.2]
theorem yfp {T : Tb} {ι : Ix} {H : Hp} : ∀ {ks : List Key} {us : List V},RVs T ι H (ks.map kA) us -> us = ks.map kV
 | [],_,.nil=>rfl
 | k :: ks,_,.cons r rs=>by rw [yeX r,yfp rs]; rfl
theorem zby {v : AV} {k : Key} (e : keyOf? v = some k) : v = kA k:=by
 unfold keyOf? at e
 split at e<;>cases e<;>rfl
theorem zaZ : ∀ {vs : List AV} {ks : List Key},keysOf? vs = some ks -> vs = ks.map kA
 | [],_,e=>by cases e; rfl
 | v :: vs,ks,e=>by
  unfold keysOf? at e
  split at e
  ·rename_i k ks' e1 e2
   cases e
   rw [zby e1,zaZ e2]; rfl
  ·cases e
theorem yed {κ : Type} [DecidableEq κ] {T : Tb} {ι : Ix} {H : Hp} {f : κ -> AV} (hf : ∀ {a b},f a = f b -> a = b) {k : κ} : ∀ {kvs : List (AV × AV)} {kus : List (κ × V)},Paired (fun (p : AV × AV) (q : κ × V)=>p.1 = f q.1 /\ RV T ι H p.2 q.2) kvs kus ->
  (valA kvs (f k) = none /\ valV kus k = none) \/ ∃ v u,valA kvs (f k) = some v /\ valV kus k = some u /\ RV T ι H v u
 | _,_,.nil=>.inl ⟨rfl,rfl⟩
 | (a,v) :: kvs,(j,u) :: kus,.cons ⟨e,r⟩ rs=>by
  by_cases h : j = k
  ·subst h
   replace e : a = f j:=e
   subst e
   exact .inr ⟨v,u,by simp [valA],zbv rfl,r⟩
  ·have h' : ¬ a = f k:=fun z=>h (hf (e.symm.trans z))
   rcases yed hf rs (k:=k) with ⟨h1,h2⟩ | ⟨v',u',h1,h2,h3⟩
   ·refine .inl ⟨?_,by rw [zba h]; exact h2⟩
    unfold valA at h1 ⊢
    rw [List.find?_cons,decide_eq_false h']
    exact h1
   ·refine .inr ⟨v',u',?_,by rw [zba h]; exact h2,h3⟩
    unfold valA at h1 ⊢
    rw [List.find?_cons,decide_eq_false h']
    exact h1
theorem zc4 {kvs : List (AV × AV)} {k : AV} : (kvs.any fun p=>decide (p.1 = k)) = (valA kvs k).isSome:=by
 induction kvs with
 | nil=>rfl
 | cons p r ih =>
  unfold valA at ih ⊢
  rw [List.any_cons,List.find?_cons,ih]
  cases h : decide (p.1 = k)<;>simp
theorem yfq {κ : Type} [DecidableEq κ] {T : Tb} {ι : Ix} {H : Hp} {f : κ -> AV} (hf : ∀ {a b},f a = f b -> a = b) {k : κ} {v : AV} {u : V} (rv : RV T ι H v u) {kvs : List (AV × AV)} {kus : List (κ × V)} (r : Paired (fun (p : AV × AV) (q : κ × V)=>p.1 = f q.1 /\ RV T ι H p.2 q.2) kvs kus) :
  Paired (fun (p : AV × AV) (q : κ × V)=>p.1 = f q.1 /\ RV T ι H p.2 q.2) (putA kvs (f k) v) (putK kus k u):=by
 have e : (kvs.any fun p=>decide (p.1 = f k)) = kus.any fun kv=>decide (kv.1 = k):=by
  rw [zc4,zbw]
  rcases yed hf r (k:=k) with ⟨h1,h2⟩ | ⟨v',u',h1,h2,h3⟩
  ·rw [h1,h2]; rfl
  ·rw [h1,h2]; rfl
 unfold putA putK
 rw [e]
 by_cases h : (kus.any fun kv=>decide (kv.1 = k)) = true
 ·rw [if_pos h,if_pos h]
  clear e h
  induction r with
  | nil=>exact .nil
  | cons p rs ih =>
   rename_i a b l1 l2
   refine .cons ?_ ih
   obtain ⟨e1,r1⟩:=p
   dsimp only
   by_cases hk : b.1 = k
   ·rw [if_pos hk,if_pos (by rw [e1,hk])]
    exact ⟨e1,rv⟩
   ·rw [if_neg hk,if_neg (fun z=>hk (hf (e1.symm.trans z)))]
    exact ⟨e1,r1⟩
 ·rw [if_neg h,if_neg h]
  have app : ∀ {l1 : List (AV × AV)} {l2 : List (κ × V)},Paired (fun (p : AV × AV) (q : κ × V)=>p.1 = f q.1 /\ RV T ι H p.2 q.2) l1 l2 -> Paired (fun (p : AV × AV) (q : κ × V)=>p.1 = f q.1 /\ RV T ι H p.2 q.2) (l1++[(f k,v)]) (l2++[(k,u)]):=fun z=>by
   induction z with
   | nil=>exact .cons ⟨rfl,rv⟩ .nil
   | cons p _ ih=>exact .cons p ih
  exact app r
section
variable {T : Tb} {ι : Ix} {h : AH} {H : Hp}
theorem keyT {xs : List AV} {u : V} {ks : List Key} (r : RV T ι H (.tup xs) u) (e : keysOf? xs = some ks) : ∃ b,u = .ref b /\ KTup H b ks:=by
 have:=zaZ e
 subst this
 cases r with
 | tup n q r=>exact ⟨_,rfl,.of (by rw [<- yfp r]; exact q)⟩
theorem zc5 {n : Nat} {t : Bool} {kvs : List (AV × AV)} {y : AV} {a : Addr} {w : V} (S : Sim T ι h H) (hn : h[n]? = some (.dct t kvs)) (hr : ι.refs[n]? = some a) (ry : RV T ι H y w) (hk : ybX t y = true) :
  ∃ o,DGet H a w o /\ ((valA kvs y = none /\ o = none) \/ ∃ v u,valA kvs y = some v /\ o = some u /\ RV T ι H v u):=by
 obtain ⟨ob,e1,r⟩:=S.obj n _ a hn hr
 cases t with
 | false =>
  obtain ⟨kus,rfl,r⟩:=r
  have hk' : (keyOf? y).isSome = true:=hk
  obtain ⟨k,ek⟩:=Option.isSome_iff_exists.mp hk'
  have:=zby ek
  subst this
  rw [yeX ry]
  refine ⟨valV kus k,.k e1,?_⟩
  rcases yed yeG r (k:=k) with ⟨h1,h2⟩ | ⟨v',u',h1,h2,h3⟩
  ·exact .inl ⟨h1,h2⟩
  ·exact .inr ⟨v',u',h1,h2,h3⟩
 | true =>
  obtain ⟨kus,rfl,r⟩:=r
  unfold ybX at hk
  split at hk
  ·rename_i hh; cases hh
  ·rename_i xs hh
   obtain ⟨ks,ek⟩:=Option.isSome_iff_exists.mp hk
   obtain ⟨b,rfl,hb⟩:=keyT ry ek
   have:=zaZ ek
   subst this
   refine ⟨valV kus ks,.t e1 hb,?_⟩
   rcases yed (f:=fun ks : List Key=>AV.tup (ks.map kA)) (fun e=>zc3 (by injection e)) r (k:=ks) with ⟨h1,h2⟩ | ⟨v',u',h1,h2,h3⟩
   ·exact .inl ⟨h1,h2⟩
   ·exact .inr ⟨v',u',h1,h2,h3⟩
  ·cases hk
theorem ziE {n : Nat} {t : Bool} {kvs : List (AV × AV)} {y z : AV} {a : Addr} {w u : V} (S : Sim T ι h H) (hn : h[n]? = some (.dct t kvs)) (hr : ι.refs[n]? = some a) (ry : RV T ι H y w) (rz : RV T ι H z u) (hk : ybX t y = true) (hl : kvs.length < sizeLine) :
  ∃ H',DPut H a w u H' /\ Grow ι H ι H' /\ Sim T ι (h.set n (.dct t (putA kvs y z))) H' := by
 obtain ⟨ob,e1,r⟩:=S.obj n _ a hn hr
 cases t with
 | false =>
  obtain ⟨kus,rfl,r⟩:=r
  have hk' : (keyOf? y).isSome = true:=hk
  obtain ⟨k,ek⟩:=Option.isSome_iff_exists.mp hk'
  have:=zby ek
  subst this
  rw [yeX ry]
  have g:=S.growSet (u:=.dK (putK kus k u)) hr
  exact ⟨_,.k e1 (by rw [<- Paired.length r]; exact hl),g,S.set hr ⟨_,rfl,yfq yeG (rz.mono g) (Paired.mapP r fun _ _ ⟨p,q⟩=>⟨p,q.mono g⟩)⟩⟩
 | true =>
  obtain ⟨kus,rfl,r⟩:=r
  unfold ybX at hk
  split at hk
  ·rename_i hh; cases hh
  ·rename_i xs hh
   obtain ⟨ks,ek⟩:=Option.isSome_iff_exists.mp hk
   obtain ⟨b,rfl,hb⟩:=keyT ry ek
   have:=zaZ ek
   subst this
   have g:=S.growSet (u:=.dT none (putK kus ks u)) hr
   exact ⟨_,.t e1 hb (by rw [<- Paired.length r]; exact hl),g,S.set hr ⟨_,rfl,yfq (f:=fun ks : List Key=>AV.tup (ks.map kA)) (fun e=>zc3 (by injection e)) (rz.mono g) (Paired.mapP r fun _ _ ⟨p,q⟩=>⟨p,q.mono g⟩)⟩⟩
  ·cases hk
theorem RVs.atI {xs : List AV} {us : List V} {i : Int} {v : AV} (r : RVs T ι H xs us) (e : atI xs i = some v) : ∃ u,L2.atI us i = some u /\ RV T ι H v u:=by
 unfold L2.atI at e ⊢
 rw [<- r.length]
 obtain ⟨j,e1,e2⟩:=Option.bind_eq_some_iff.mp e
 obtain ⟨u,e3,r3⟩:=r.get e2
 exact ⟨u,by rw [e1]; exact e3,r3⟩
end
section
variable {T : Tb} {E : St -> XK} {X : Cx} {pos : Pos} {a b c : Expr} {sa sb sc : SE}
theorem yh7 {e : Expr} {t t' : TE} (h : PE X e t) (h' : PE X e t') : PE X e (fun σ H Q=>t σ H Q \/ t' σ H Q):=fun pins s σ H Q I q=>q.elim (h pins s σ H Q I) (h' pins s σ H Q I)
theorem yh8 {e : Stmt} {t t' : TS} (h : PS X e t) (h' : PS X e t') : PS X e (fun D σ H=>t D σ H \/ t' D σ H):=fun pins s σ H Q I q=>q.elim (h pins s σ H Q I) (h' pins s σ H Q I)
theorem r_ix (hK : X.K = T.K) (hu : X.A.units + 64 < cLine) (ha : PEA T E X a sa) (hb : PEA T E X b sb) (hs : yeR b:=by exact fun _ _=>rfl) : PEA T E X (.Subscript a b pos) (sOp2 fIx sa sb):=by
 refine yaE (yh7 (yhQ ygH ha hb hs) (zig (Nat.lt_of_le_of_lt (Nat.add_le_add_left (by decide : 1 <= 64) _) hu) ha hb hs)) fun σ H Q q=>?_
 obtain ⟨ι,h,en,S,er,q⟩:=q
 have left : (∀ x h1 y h2,sa en h = .ok x h1 -> sb en h1 = .ok y h2 -> ∀ n t kvs,x = .ref n -> h2[n]? = some (.dct t kvs) -> False) -> tOp (rIx X.K) (tE T E sa) (tE T E sb) σ H Q:=fun no=>by
  refine ⟨ι,h,en,S,er,?_⟩
  unfold sOp2 at q
  cases e1 : sa en h with
  | bad=>rw [e1] at q; exact q
  | ex c h1=>rw [e1] at q; exact q
  | ok x h1 =>
   rw [e1] at q
   intro ι1 H1 u g1 S1 r1
   refine ⟨ι1,h1,en,S1,er.mono g1,?_⟩
   dsimp only [Out.bind] at q
   cases e2 : sb en h1 with
   | bad=>rw [e2] at q; exact q
   | ex c h2=>rw [e2] at q; exact Post.shift (R:=RV T) (o:=.ex c h2) q g1
   | ok y h2 =>
    rw [e2] at q
    intro ι2 H2 w g2 S2 r2
    have q2:=Post.shift q (g1.trans g2)
    have r1' := r1.mono g2
    dsimp only at q2
    unfold fIx at q2
    split at q2
    ·rename_i z i
     split at q2
     ·rename_i cc hc
      obtain ⟨rfl,zl,zo⟩:=yaV r1'
      rw [yax r2]
      refine .inr (.inr ⟨z,i,cc,rfl,rfl,zl,hc,q2.now S2 (.str (show 1 <= sizeLine by decide) ?_)⟩)
      obtain ⟨j,_,e3,_⟩:=zb4 hc
      have m : cc ∈ z.cps:=by
       have:=List.mem_of_getElem? e3
       simpa using this
      have:=Array.all_eq_true_iff_forall_mem.mp zo _ m
      simpa using this
     ·exact q2.elim
    ·rename_i xs i
     split at q2
     ·rename_i v hv
      obtain ⟨b,us,rfl,sq,rs⟩:=yc4 r1'
      obtain ⟨u2,e3,r3⟩:=rs.atI hv
      rw [yax r2]
      exact .inr (.inl ⟨b,us,i,u2,rfl,rfl,hK ▸ sq,e3,q2.now S2 r3⟩)
     ·exact q2.elim
    ·rename_i xs i
     split at q2
     ·rename_i v hv
      obtain ⟨b,us,rfl,sq,rs⟩:=ybx S2 r1' rfl
      obtain ⟨u2,e3,r3⟩:=rs.atI hv
      rw [yax r2]
      exact .inl ⟨b,us,i,u2,rfl,rfl,hK ▸ sq,e3,q2.now S2 r3⟩
     ·exact q2.elim
    ·rename_i n
     split at q2
     ·rename_i xs hn
      split at q2
      ·rename_i i
       split at q2
       ·rename_i v hv
        obtain ⟨b,us,rfl,sq,rs⟩:=ybx (xs:=xs) S2 r1' (by simp [ybi,hn])
        obtain ⟨u2,e3,r3⟩:=rs.atI hv
        rw [yax r2]
        exact .inl ⟨b,us,i,u2,rfl,rfl,hK ▸ sq,e3,q2.now S2 r3⟩
       ·exact q2.elim
      ·exact q2.elim
     ·rename_i t kvs hn
      exact (no _ h1 _ h2 e1 e2 n t kvs rfl hn).elim
     ·exact q2.elim
    ·exact q2.elim
 by_cases dd : ∃ x h1 y h2,sa en h = .ok x h1 /\ sb en h1 = .ok y h2 /\ ∃ n t kvs,x = .ref n /\ h2[n]? = some (.dct t kvs)
 ·obtain ⟨x,h1,y,h2,e1,e2,n,t,kvs,rfl,hn⟩:=dd
  refine .inr ⟨ι,h,en,S,er,?_⟩
  unfold sOp2 at q
  rw [e1] at q ⊢
  intro ι1 H1 u g1 S1 r1
  refine ⟨ι1,h1,en,S1,er.mono g1,?_⟩
  dsimp only [Out.bind] at q
  rw [e2] at q ⊢
  intro ι2 H2 w g2 S2 r2
  have q2:=Post.shift q (g1.trans g2)
  have r1' := r1.mono g2
  dsimp only at q2
  unfold fIx at q2
  simp only [hn] at q2
  split at q2
  ·rename_i hk
   cases r1' with
   | @ref _ ad hr =>
    obtain ⟨o,dg,alt⟩:=zc5 S2 hn hr r2 hk
    rcases alt with ⟨v1,rfl⟩ | ⟨v,u,v1,rfl,r3⟩
    ·rw [v1] at q2; exact q2.elim
    ·rw [v1] at q2
     exact ⟨ad,u,rfl,dg,q2.now S2 r3⟩
  ·exact q2.elim
 ·exact .inl (left fun x h1 y h2 e1 e2 n t kvs e3 e4=>dd ⟨x,h1,y,h2,e1,e2,n,t,kvs,e3,e4⟩)
theorem zb6 {p' : Pos} (hu : X.A.units + 64 < cLine) (ho : PEA T E X a sa) (hi : PEA T E X b sb) (hv : PEA T E X c sc) (hs : swapsWith c (some (.Subscript a b p')) pos.line X.env = pure false:=by rfl) (hs' : swapsWithSole [.Subscript a b p'] c pos.line X.env = pure false:=by rfl) (hw : swappedStores [.Subscript a b p'] c X.env = pure none:=by rfl)
  (h1 : (assignEach [.Subscript a b p'] X.env).map (·.2) = [assign (.Subscript a b p') X.env]:=by rfl)
  (has : ∀ v,assign (.Subscript a b p') X.env v = (do
   let ov <- holding [v] (eval a X.env)
   let iv <- holding [v,ov] (eval b X.env)
   standAt p'
   holding [v,ov,iv] (setItem ov iv v)
   release [v,ov,iv] []):=by intro _; rfl) : PSA T E X (.Assign [.Subscript a b p'] c pos) (ycs sa sb sc):=by
 refine ybS (yh8 (yfa hv (ygt ho hi zhf has) hs' hw h1) (zih (Nat.lt_of_le_of_lt (Nat.add_le_add_left (by decide : 1 <= 64) _) hu) ho hi hv hs)) fun D σ H q=>?_
 obtain ⟨ι,h,en,S,er,q⟩:=q
 unfold ycs at q
 by_cases dd : ∃ z h1 x h2 y h3,sc en h = .ok z h1 /\ sa en h1 = .ok x h2 /\ sb en h2 = .ok y h3 /\ ∃ n t kvs,x = .ref n /\ h3[n]? = some (.dct t kvs)
 ·obtain ⟨z,h1,x,h2,y,h3,e1,e2,e3,n,t,kvs,rfl,hn⟩:=dd
  refine .inr ⟨ι,h,en,S,er,?_⟩
  rw [e1] at q ⊢
  intro ι1 H1 u g1 S1 r1
  refine ⟨ι1,h1,en,S1,er.mono g1,?_⟩
  dsimp only [Out.go] at q
  rw [e2] at q ⊢
  intro ι2 H2 w g2 S2 r2
  refine ⟨ι2,h2,en,S2,er.mono (g1.trans g2),?_⟩
  dsimp only at q
  rw [e3] at q ⊢
  intro ι3 H3 j g3 S3 r3
  have q2:=PostS.shift q (g1.trans (g2.trans g3))
  simp only [hn] at q2
  split at q2
  ·rename_i hk
   cases (r2.mono g3) with
   | @ref _ ad hr =>
    obtain ⟨H4,dp,g4,S4⟩:=ziE S3 hn hr r3 (r1.mono (g2.trans g3)) hk.1 hk.2
    exact ⟨ad,H4,rfl,dp,q2 ι3 H4 σ g4 S4 (er.mono (g1.trans (g2.trans (g3.trans g4))))⟩
  ·exact q2.elim
 ·refine .inl ⟨ι,h,en,S,er,?_⟩
  cases e1 : sc en h with
  | bad=>rw [e1] at q; exact q
  | ex cc h1=>rw [e1] at q; exact fun i2 H2 C g S e=>q i2 H2 σ C g S (er.mono g) e
  | ok z h1 =>
   rw [e1] at q
   intro ι1 H1 u g1 S1 r1
   refine ⟨ι1,h1,en,S1,er.mono g1,?_⟩
   dsimp only [Out.go] at q
   cases e2 : sa en h1 with
   | bad=>rw [e2] at q; exact q
   | ex cc h2=>rw [e2] at q; exact fun i2 H2 C g S e=>q i2 H2 σ C (g1.trans g) S (er.mono (g1.trans g)) e
   | ok x h2 =>
    rw [e2] at q
    intro ι2 H2 w g2 S2 r2
    refine ⟨ι2,h2,en,S2,er.mono (g1.trans g2),?_⟩
    dsimp only at q
    cases e3 : sb en h2 with
    | bad=>rw [e3] at q; exact q
    | ex cc h3=>rw [e3] at q; exact fun i2 H2 C g S e=>q i2 H2 σ C (g1.trans (g2.trans g)) S (er.mono (g1.trans (g2.trans g))) e
    | ok y h3 =>
     rw [e3] at q
     intro ι3 H3 j g3 S3 r3
     have q2:=PostS.shift q (g1.trans (g2.trans g3))
     dsimp only at q2
     split at q2
     ·rename_i n
      split at q2
      ·rename_i xs hn
       split at q2
       ·rename_i k
        split at q2
        ·rename_i jj hj
         cases (r2.mono g3) with
         | @ref _ ad hr =>
          obtain ⟨o,e4,us,rfl,rs⟩:=S3.obj n _ ad hn hr
          have g4:=S3.growSet (u:=.lst (us.set jj u)) hr
          rw [yax r3]
          exact ⟨ad,us,k,jj,rfl,rfl,e4,by rw [<- rs.length]; exact hj,q2 ι3 _ σ g4 (S3.set hr ⟨_,rfl,RVs.set (r1.mono (g2.trans (g3.trans g4))) jj (rs.mono g4)⟩) (er.mono (g1.trans (g2.trans (g3.trans g4))))⟩
        ·exact q2.elim
       ·exact q2.elim
      ·rename_i t kvs hn
       exact (dd ⟨_,h1,_,h2,_,h3,e1,e2,e3,n,t,kvs,rfl,hn⟩).elim
      ·exact q2.elim
     ·exact q2.elim
theorem ziF {g : Value -> Value -> Sem Value} {r : R2} {neg : Bool} (hK : X.K = T.K)
  (h1 : ∀ (i j : Str) H Q,Q (V.bl (if neg then !(!(Builtin.Str.occurrences j i 0 j.length 1).isEmpty) else !(Builtin.Str.occurrences j i 0 j.length 1).isEmpty)) H -> r (.str i) (.str j) H Q)
  (h2 : ∀ x y H Q p xs d ds,y = V.ref p -> SqL T.K H p xs -> DaV T.K H x d -> DaVs T.K H xs ds -> d.canLay0 = true -> (∀ e ∈ ds,e.canLay0 = true /\ e.depth <= 30) -> Q (V.bl (if neg then !(ds.any fun e=>PyData.eqv e d) else ds.any fun e=>PyData.eqv e d)) H -> r x y H Q)
  (h2t : ∀ x y H Q p xs d ds,y = V.ref p -> SqT T.K H p xs -> DaV T.K H x d -> DaVs T.K H xs ds -> d.canLay0 = true -> (∀ e ∈ ds,e.canLay0 = true /\ e.depth <= 30) -> Q (V.bl (if neg then !(ds.any fun e=>PyData.eqv e d) else ds.any fun e=>PyData.eqv e d)) H -> r x y H Q)
  (h3 : ∀ (y : V) (a : Addr) o H Q,DGet H a y o -> Q (V.bl (if neg then !o.isSome else o.isSome)) H -> r y (.ref a) H Q) :
  OpS T (fun x y h=>match inA x y h with | some b=>.ok (.bl (if neg then !b else b)) h | none=>.bad) r:=by
 intro ι h H x y u w E Q S rx ry p
 dsimp only at p
 cases hb : inA x y h with
 | none=>rw [hb] at p; exact p.elim
 | some b =>
  rw [hb] at p
  dsimp only at p
  unfold inA at hb
  split at hb
  ·cases hb
   obtain ⟨rfl,_⟩:=yaV rx
   obtain ⟨rfl,_⟩:=yaV ry
   exact h1 _ _ _ _ (p.now S (.bl _))
  ·rename_i n
   split at hb
   ·rename_i t kvs hn
    split at hb
    ·rename_i hk
     cases hb
     cases ry with
     | @ref _ ad hr =>
      obtain ⟨o,dg,alt⟩:=zc5 S hn hr rx hk
      refine h3 u ad o H Q dg ?_
      rcases alt with ⟨v1,rfl⟩ | ⟨v,u',v1,rfl,r3⟩
      ·rw [v1] at p; exact p.now S (.bl _)
      ·rw [v1] at p; exact p.now S (.bl _)
    ·cases hb
   ·rename_i xs hn
    split at hb
    ·rename_i d ds e1 e2
     cases hb
     obtain ⟨a,us,rfl,sq,rs⟩:=ybx (xs:=xs) S ry (by simp [ybi,hn])
     obtain ⟨q1,q2,q3⟩:=ycu S 8 rx e1
     obtain ⟨q4,q5⟩:=zbn (n:=8) (fun r e=>ycu S 8 r e) rs e2
     exact h2 _ _ _ _ a us d ds rfl sq q1 q4 q2 (fun e he=>⟨(q5 e he).1,by have:=(q5 e he).2; omega⟩) (p.now S (.bl _))
    ·cases hb
   ·cases hb
  ·rename_i xs
   split at hb
   ·rename_i d ds e1 e2
    cases hb
    obtain ⟨a,us,rfl,sq,rs⟩:=ybx S ry rfl
    obtain ⟨q1,q2,q3⟩:=ycu S 8 rx e1
    obtain ⟨q4,q5⟩:=zbn (n:=8) (fun r e=>ycu S 8 r e) rs e2
    exact h2 _ _ _ _ a us d ds rfl sq q1 q4 q2 (fun e he=>⟨(q5 e he).1,by have:=(q5 e he).2; omega⟩) (p.now S (.bl _))
   ·cases hb
  ·rename_i xs
   split at hb
   ·rename_i d ds e1 e2
    cases hb
    obtain ⟨a,us,rfl,sq,rs⟩:=yc4 ry
    obtain ⟨q1,q2,q3⟩:=ycu S 8 rx e1
    obtain ⟨q4,q5⟩:=zbn (n:=8) (fun r e=>ycu S 8 r e) rs e2
    exact h2t _ _ _ _ a us d ds rfl sq q1 q4 q2 (fun e he=>⟨(q5 e he).1,by have:=(q5 e he).2; omega⟩) (p.now S (.bl _))
   ·cases hb
  ·cases hb
end
end Sm
namespace L2
open PySem PySem.Spec PyProof.Rows
section
variable {X : Cx} {pins : List (Addr × Obj)} {σ : St} {H : Hp} {s : Shared}
theorem zdD (I : Inv X pins σ H s) (hu : X.A.units + 64 < cLine) {xs : List V} {ds : List PyData} {its : List Value} {d : PyData} {v : Value} {as : List Addr} (ra : Reads s.heap v d as) (hds : DaVs X.K H xs ds) (r : Vals xs its) (cd : d.canLay0 = true) (cds : ∀ e ∈ ds,e.canLay0 = true /\ e.depth <= 30) :
  (∀ y,y ∈ its.toArray -> SeqAt.EqAt X.A.in1 s y v (isD s.heap d y)) /\ its.toArray.any (isD s.heap d) = ds.any fun e=>PyData.eqv e d:=by
 obtain ⟨hl,hat⟩:=ze4 I hds r
 constructor
 ·intro y hy
  have hy' : y ∈ its:=by simpa using hy
  obtain ⟨j,hj⟩:=List.getElem?_of_mem hy'
  have hlt:=(List.getElem?_eq_some_iff.mp hj).1
  have hdj : ds[j]? = some (ds[j]'(by omega)):=List.getElem?_eq_getElem (by omega)
  obtain ⟨bs,rb⟩:=hat j _ _ hj hdj
  have cj:=cds _ (List.mem_of_getElem? hdj)
  rw [isD_of cj.1 rb]
  exact SeqAt.eqAt_reads _ _ _ _ _ _ _ _ rb ra cj.1 cd (by
   have:=Nat.min_le_left (ds[j]'(by omega)).depth d.depth
   show X.A.units + 1 + _ < cLine
   omega)
 ·rw [<- Array.any_toList]
  refine ze5 hl fun j u e h1 h2=>?_
  obtain ⟨bs,rb⟩:=hat j _ _ h1 h2
  exact isD_of (cds _ (List.mem_of_getElem? h2)).1 rb
def yge (K : PySem.W.Frag) : R2:=fun x y H Q=>∃ p xs d ds,y = .ref p /\ SqL K H p xs /\ DaV K H x d /\ DaVs K H xs ds /\ d.canLay0 = true /\ (∀ e ∈ ds,e.canLay0 = true /\ e.depth <= 30) /\ Q (.bl (!(ds.any fun e=>PyData.eqv e d))) H
def yfN (K : PySem.W.Frag) : R2:=fun x y H Q=>∃ p xs d ds,y = .ref p /\ SqT K H p xs /\ DaV K H x d /\ DaVs K H xs ds /\ d.canLay0 = true /\ (∀ e ∈ ds,e.canLay0 = true /\ e.depth <= 30) /\ Q (.bl (!(ds.any fun e=>PyData.eqv e d))) H
theorem zgw (hu : X.A.units + 64 < cLine) : OpR X (compareOp .NotIn) (yge X.K):=by
 intro pins s σ H x y v u Q I rx ry h
 obtain ⟨p,xs,d,ds,rfl,hq,hd,hds,cd,cds,q⟩:=h
 cases ry
 obtain ⟨its,r,pl,hz⟩:=I.list hq
 obtain ⟨as,ra⟩:=hd.reads I rx
 obtain ⟨h1,h2⟩:=zdD I hu ra hds r cd cds
 exact SeqAt.notIn_listAt (isD s.heap d) pl.isList h1 ⟨.bl _,H,I,rfl,by rw [h2]; exact q⟩
theorem zfR (hu : X.A.units + 64 < cLine) : OpR X (compareOp .NotIn) (yfN X.K):=by
 intro pins s σ H x y v u Q I rx ry h
 obtain ⟨p,xs,d,ds,rfl,hq,hd,hds,cd,cds,q⟩:=h
 cases ry
 obtain ⟨its,r,pl,hz⟩:=I.tuple hq
 obtain ⟨as,ra⟩:=hd.reads I rx
 obtain ⟨h1,h2⟩:=zdD I hu ra hds r cd cds
 exact SeqAt.notIn_tupleAt (isD s.heap d) pl h1 ⟨.bl _,H,I,rfl,by rw [h2]; exact q⟩
theorem zel (hu : X.A.units + 64 < cLine) : OpR X (compareOp .NotIn) (fun x y H Q=>∃ a o,y = .ref a /\ DGet H a x o /\ Q (.bl (!o.isSome)) H):=by
 intro pins s σ H x y v u Q I rx ry h
 obtain ⟨a,o,rfl,g,q⟩:=h
 cases ry
 exact zie (Nat.lt_of_le_of_lt (Nat.add_le_add_left (by decide : 1 <= 64) _) hu) I g rx fun s' I' => ⟨.bl _,H,I',rfl,q⟩
end
end L2
namespace Sm
open PySem PySem.Spec L2
section
variable {T : Tb} {E : St -> XK} {X : Cx}
theorem zff (hK : X.K = T.K) (hu : X.A.units + 64 < cLine) : Op T X (compareOp .NotIn) yeF:=by
 refine ⟨_,zd5.or ((zgw hu).or ((zfR hu).or (zel hu))),ziF (neg:=true) (g:=compareOp .NotIn) hK ?_ ?_ ?_ ?_⟩
 ·exact fun i j H Q q=>.inl ⟨i,j,rfl,rfl,q⟩
 ·exact fun x y H Q p xs d ds e1 e2 e3 e4 e5 e6 q=>.inr (.inl ⟨p,xs,d,ds,e1,hK ▸ e2,hK ▸ e3,hK ▸ e4,e5,e6,q⟩)
 ·exact fun x y H Q p xs d ds e1 e2 e3 e4 e5 e6 q=>.inr (.inr (.inl ⟨p,xs,d,ds,e1,hK ▸ e2,hK ▸ e3,hK ▸ e4,e5,e6,q⟩))
 ·exact fun y a o H Q g q=>.inr (.inr (.inr ⟨a,o,rfl,g,q⟩))
end
end Sm
namespace Sm
open PySem PySem.Spec L2
abbrev ErrC (x : Str) (C : Addr) (mg : Str -> Option Value) (base : Heap) : Prop:=PyProof.Rows.OwnCls x C [.type "ValueError",.type "Exception",.type "BaseException",.type "object"] "ValueError.__new__" mg base
structure GX (T : Tb) (mg : Str -> Option Value) (base : Heap) (c : Nat) (x : Str) : Prop where
 ex : ∃ C,T.exc c = some C /\ ErrC x C mg base
section
variable {T : Tb} {E : St -> XK} {X : Cx} {pos np cpos : Pos} {e : Expr} {es : List Expr} {x : Str} {c : Nat} {as : SL}
theorem zaO (G : GX T X.mg X.base c x) (hr : yb4 X E) (hg : Gl X x) (ha : PAA T E X (e :: es) as) (hc : X.calm = true:=by rfl) (hex : X.ex = []:=by rfl)
  (hdb : (x == ("__debug__" : Str)) = false:=by decide) (he : starEach (e :: es) X.env = (false,eval e X.env) :: starEach es X.env:=by rfl) (hpl : (backTo cpos (starEach es X.env)).any (·.1) = false:=by rfl) :
  PSA T E X (.Raise (some (.Call (.Name x np) (e :: es) [] cpos)) none pos) (ycr c as):=by
 obtain ⟨C,h1,O⟩:=G.ex
 refine ybS (zhp O PySem.F.excBase_ValueError hc hex hr hg ha hdb he hpl) fun D σ H ⟨ι,h,en,S,er,q⟩=>⟨ι,h,en,S,er,q.go er fun xs h1' ι1 H1 us g1 S1 r1 q1=>?_⟩
 split at q1
 ·rename_i hl
  exact ⟨by rw [<- r1.length]; exact hl,q1 ι1 H1 σ C S1.refl S1 (er.mono g1) h1⟩
 ·exact q1.elim
end
def ycv (T : Tb) (f : Fn) (r : List V -> Hp -> VK -> Prop) : Prop:=∀ (ι : Ix) (h : AH) (H : Hp) (xs : List AV) (us : List V) (E : XK) (Q : VK),Sim T ι h H -> RVs T ι H xs us -> Post T ι H E (RV T) (f xs h) Q -> r us H Q
section
variable {T : Tb} {E : St -> XK} {X : Cx} {pos p : Pos} {e a : Expr} {es : List Expr} {x : Str} {as : SL} {sa : SE}
theorem yf3 {f : Fn} {r : List V -> Hp -> VK -> Prop} (hs : ycv T f r) {σ : St} {H : Hp} {Q : VK} (q : tE T E (yae f as) σ H Q) : tCB r (tA T E as) σ H Q:=by
 obtain ⟨ι,h,en,S,er,q⟩:=q
 exact ⟨ι,h,en,S,er,q.bind fun xs h1 ι1 H1 us g1 S1 r1 q1=>hs ι1 h1 H1 xs us _ Q S1 r1 q1⟩
theorem r_bi {id : String} {f : Fn} (hc : ∃ r,CallR X (.builtin id) r /\ ycv T f r) (hg : Gl X x) (hm : X.mg x = none) (hv : bootBuiltins x = some (.builtin id)) (ha : PAA T E X (e :: es) as) (hn : x ≠ "__name__" := by decide) (hdb : (x == ("__debug__" : Str)) = false:=by decide)
  (he : starEach (e :: es) X.env = (false,eval e X.env) :: starEach es X.env:=by rfl) (hpl : (backTo pos (starEach es X.env)).any (·.1) = false:=by rfl) : PEA T E X (.Call (.Name x p) (e :: es) [] pos) (yae f as):=by
 obtain ⟨r,h1,h2⟩:=hc
 exact yaE (zcq h1 hg hm hv ha hn hdb he hpl) fun σ H Q q=>yf3 h2 q
theorem r_ty {id : String} {f : Fn} (hc : ∃ r,CallR X (.type id) r /\ ycv T f r) (hg : Gl X x) (hm : X.mg x = none) (hv : bootBuiltins x = some (.type id)) (ha : PAA T E X (e :: es) as) (hn : x ≠ "__name__" := by decide) (hdb : (x == ("__debug__" : Str)) = false:=by decide)
  (he : starEach (e :: es) X.env = (false,eval e X.env) :: starEach es X.env:=by rfl) (hpl : (backTo pos (starEach es X.env)).any (·.1) = false:=by rfl) : PEA T E X (.Call (.Name x p) (e :: es) [] pos) (yae f as):=by
 obtain ⟨r,h1,h2⟩:=hc
 exact yaE (zgh h1 hg hm hv ha hn hdb he hpl) fun σ H Q q=>yf3 h2 q
theorem b_len (hK : X.K = T.K) : ∃ r,CallR X (.builtin "len") r /\ ycv T fLen r:=by
 refine ⟨_,zd7.or (zd6.or zgm),fun ι h H xs us E Q S r q=>?_⟩
 unfold fLen at q
 split at q
 ·cases r with
  | cons r r' =>
   cases r'
   obtain ⟨rfl,n,_⟩:=yaV r
   exact .inl ⟨_,rfl,n,q.now S (.int _)⟩
 ·cases r with
  | cons r r' =>
   cases r'
   obtain ⟨a,us,rfl,sq,rs⟩:=yc4 r
   exact .inr (.inl ⟨a,us,rfl,.inr (hK ▸ sq),by rw [<- rs.length]; exact q.now S (.int _)⟩)
 ·cases r with
  | cons r r' =>
   cases r'
   obtain ⟨a,us,rfl,sq,rs⟩:=ybx S r rfl
   exact .inr (.inl ⟨a,us,rfl,.inl (hK ▸ sq),by rw [<- rs.length]; exact q.now S (.int _)⟩)
 ·rename_i n
  cases r with
  | cons r r' =>
   cases r'
   split at q
   ·rename_i xs hn
    obtain ⟨a,us,rfl,sq,rs⟩:=ybx (xs:=xs) S r (by simp [ybi,hn])
    exact .inr (.inl ⟨a,us,rfl,.inl (hK ▸ sq),by rw [<- rs.length]; exact q.now S (.int _)⟩)
   ·rename_i kvs hn
    cases r with
    | @ref _ ad hr =>
     obtain ⟨o,e1,kus,rfl,rs⟩:=S.obj n _ ad hn hr
     exact .inr (.inr ⟨ad,kus,rfl,e1,by rw [<- Paired.length rs]; exact q.now S (.int _)⟩)
   ·exact q.elim
 ·exact q.elim
theorem b_abs : ∃ r,CallR X (.builtin "abs") r /\ ycv T fAbs r:=by
 refine ⟨_,zha,fun ι h H xs us E Q S r q=>?_⟩
 unfold fAbs at q
 split at q
 ·cases r with
  | cons r r' => cases r'; rw [yax r]; exact ⟨_,rfl,q.now S (.int _)⟩
 ·exact q.elim
theorem yfr (hc : X.calm = true:=by rfl) : ∃ r,CallR X (.builtin "max") r /\ ycv T ydY r:=by
 refine ⟨_,zgc hc,fun ι h H xs us E Q S r q=>?_⟩
 unfold ydY at q
 split at q
 ·cases r with
  | cons r r' => cases r' with
   | cons r1 r2=>cases r2; rw [yax r,yax r1]; exact ⟨_,_,rfl,q.now S (.int _)⟩
 ·exact q.elim
theorem zem {ι : Ix} {H : Hp} : ∀ {xs : List AV} {us : List V} {bs : List Bool},RVs T ι H xs us -> ydr xs = some bs -> us = bs.map V.bl
 | _,_,_,.nil,e=>by cases e; rfl
 | _,_,bs,.cons (x:=x) r rs,e=>by
  unfold ydr at e
  split at e
  ·rename_i hh; cases hh
  ·rename_i b r' hh
   cases hh
   obtain ⟨bs',e1,rfl⟩:=Option.map_eq_some_iff.mp e
   rw [yct r,zem rs e1]; rfl
  ·cases e
theorem b_all (hK : X.K = T.K) (hc : X.calm = true:=by rfl) : ∃ r,CallR X (.builtin "all") r /\ ycv T fAll r:=by
 refine ⟨_,zhm hc,fun ι h H xs us E Q S r q=>?_⟩
 unfold fAll at q
 split at q
 ·split at q
  ·rename_i bs hb
   cases r with
   | cons r r' =>
    cases r'
    obtain ⟨a,us,rfl,sq,rs⟩:=ybx S r rfl
    rw [zem rs hb] at sq
    exact ⟨a,bs,rfl,hK ▸ sq,q.now S (.bl _)⟩
  ·exact q.elim
 ·exact q.elim
theorem b_int : ∃ r,CallR X (.type "int") r /\ ycv T fInt r:=by
 refine ⟨_,zgd,fun ι h H xs us E Q S r q=>?_⟩
 unfold fInt at q
 split at q
 ·cases r with
  | cons r r' => cases r'; rw [yax r]; exact .inl ⟨_,rfl,q.now S (.int _)⟩
 ·cases r with
  | cons r r' => cases r'; rw [yct r]; exact .inr ⟨_,rfl,q.now S (.int _)⟩
 ·exact q.elim
abbrev tys : List String:=["NoneType", "bool", "int", "str", "list", "tuple", "dict"]
theorem yfs (K : PySem.W.Frag) : ∀ n ∈ tys,∀ t ∈ tys,PySem.W.kitOne K (.type n) (.type t) = some (n == t || (t == "int" && n == "bool")):=by
 intro n hn t ht
 simp only [tys,List.mem_cons,List.not_mem_nil,or_false] at hn ht
 rcases hn with rfl | rfl | rfl | rfl | rfl | rfl | rfl<;>rcases ht with rfl | rfl | rfl | rfl | rfl | rfl | rfl<;>rfl
theorem zgx {c : V} {cv : Value} (rc : ∀ u,RelV c u -> u = cv) :
  CallR X (.builtin "isinstance") (fun xs H Q=>∃ a us r,xs = [.ref a,c] /\ SqL X.K H a us /\ PySem.W.kitOne X.K (.type "list") cv = some r /\ Q (.bl r) H):=by
 intro pins s σ H xs us Q I r h
 obtain ⟨a,ws,k,rfl,sq,hk,q⟩:=h
 obtain ⟨u,w',rfl,rx,ry⟩:=yeU r
 obtain rfl:=rc _ ry
 obtain rfl : u = Value.ref a:=rx
 obtain ⟨its,_,⟨o,n,e1,e2,_⟩,_⟩:=I.list sq
 exact PySem.W.kia_one PySem.W.kitx_list I.kIn ⟨_,e1,e2⟩ hk (fun z=>nomatch z) fun tk=>⟨.bl k,H,I.tok _,rfl,q⟩
theorem yh9 {ι : Ix} {h : AH} {H : Hp} {v : AV} {u : V} {n : String} (S : Sim T ι h H) (r : RV T ι H v u) (e : tyN v h = some n) : (TyOf T.K H u (.type n) \/ (n = "list" /\ ∃ a us,u = .ref a /\ SqL T.K H a us)) /\ n ∈ tys:=by
 unfold tyN at e
 cases r with
 | non=>cases e; exact ⟨.inl .non,by decide⟩
 | bl b=>cases e; exact ⟨.inl (.bl b),by decide⟩
 | int b=>cases e; exact ⟨.inl (.int b),by decide⟩
 | str n o=>cases e; exact ⟨.inl (.str _),by decide⟩
 | tup n q r=>cases e; exact ⟨.inl (.tup q),by decide⟩
 | fl n q r=>cases e; exact ⟨.inr ⟨rfl,_,_,rfl,.inl q⟩,by decide⟩
 | kfl q r=>cases e; exact ⟨.inr ⟨rfl,_,_,rfl,.inr q⟩,by decide⟩
 | @ref k a q =>
  dsimp only at e
  split at e
  ·rename_i xs hn
   cases e
   obtain ⟨o,e1,us,rfl,rs⟩:=S.obj k _ a hn q
   exact ⟨.inl (.lst e1),by decide⟩
  ·rename_i t kvs hn
   cases e
   obtain ⟨o,e1,r⟩:=S.obj k _ a hn q
   cases t with
   | false=>obtain ⟨kus,rfl,rs⟩:=r; exact ⟨.inl (.dK e1),by decide⟩
   | true=>obtain ⟨kus,rfl,rs⟩:=r; exact ⟨.inl (.dT e1),by decide⟩
  ·cases e
 | exc _ _ _=>cases e
theorem yeY {t : Str} {id : String} {p2 : Pos} (hK : X.K = T.K) (hg : Gl X "isinstance") (hm : X.mg "isinstance" = none) (ha : PEA T E X a sa) (hgt : Gl X t) (hmt : X.mg t = none) (hvt : bootBuiltins t = some (.type id)) (hid : id ∈ tys) (hnt : t ≠ "__name__" := by decide) (hdt : (t == ("__debug__" : Str)) = false:=by decide)
  (he : starEach [a,.Name t p2] X.env = (false,eval a X.env) :: starEach [.Name t p2] X.env:=by rfl) : PEA T E X (.Call (.Name "isinstance" p) [a,.Name t p2] [] pos) (sIsB id sa):=by
 refine yaE (zcq ((zec (X:=X) (yfU id)).or (zgx (X:=X) (yfU id))) hg hm PyProof.Rows.boot_isinstance (za9 ha (za9 (zhY (v:=.ty id) hgt hmt hvt rfl hnt hdt) yd4) he) (he:=he)) fun σ H Q ⟨ι,h,en,S,er,q⟩=>⟨ι,h,en,S,er,q.bind fun v h1 ι1 H1 u g1 S1 r1 q1=>?_⟩
 split at q1
 ·rename_i n hn
  obtain ⟨ty,hmem⟩:=yh9 S1 r1 hn
  rcases ty with ty | ⟨rfl,ad,us,rfl,sq⟩
  ·exact .inl ⟨u,.type n,_,rfl,hK ▸ ty,yfs _ n hmem id hid,q1.now S1 (.bl _)⟩
  ·exact .inr ⟨ad,us,_,rfl,hK ▸ sq,yfs _ _ hmem id hid,q1.now S1 (.bl _)⟩
 ·exact q1.elim
def MtS (T : Tb) (f : FM) (r : V -> List V -> Hp -> VK -> Prop) : Prop:=∀ (ι : Ix) (h : AH) (H : Hp) (x : AV) (xs : List AV) (u : V) (us : List V) (E : XK) (Q : VK),Sim T ι h H -> RV T ι H x u -> RVs T ι H xs us -> Post T ι H E (RV T) (f x xs h) Q -> r u us H Q
def ChkS (T : Tb) (chk : AV -> AH -> Bool) (n : String) : Prop:=∀ (ι : Ix) (h : AH) (H : Hp) (x : AV) (u : V),Sim T ι h H -> RV T ι H x u -> chk x h = true -> tyV T.K n u H
theorem zam : ChkS T ya2 "list" := fun ι h H x u S r e=>by
 obtain ⟨xs,e1⟩:=Option.isSome_iff_exists.mp e
 obtain ⟨a,us,rfl,sq,rs⟩:=ybx S r e1
 exact .inl ⟨rfl,us,sq⟩
theorem zaA : ChkS T ybj "str" := fun ι h H x u S r e=>by
 unfold ybj at e
 split at e
 ·obtain ⟨rfl,_⟩:=yaV r; rfl
 ·cases e
variable {o : Expr} {so : SE} {name : Str} {apos : Pos} {chk : AV -> AH -> Bool} {f : FM} {tn id : String}
theorem r_bm (hK : X.K = T.K) (pa : PlainAttrs tn) (slot : Slot tn name id) (hty : typeOf (.builtin id) = pure (.type "method_descriptor")) (hm : ∃ r,MtR X id r /\ MtS T f r) (hc : ChkS T chk tn) (ho : PEA T E X o so) (ha : PAA T E X (e :: es) as)
  (hbase : attributeBase o name X.env (eval o X.env) = eval o X.env:=by rfl)
  (hfew : ((backTo pos (starEach (e :: es) X.env)).all (fun x=>!x.1) && (backToKw pos (keywordEach [] X.env)).all (fun x=>x.1.isSome)
   && decide ((e :: es).length + ([] : List Keyword).length + (if ([] : List Keyword).isEmpty then 0 else 1) < 30)) = true:=by rfl)
  (hline : (apos.endLine == pos.line) = true:=by rfl) (hs : starEach (e :: es) X.env = (false,eval e X.env) :: starEach es X.env:=by rfl) (hplain : (backTo pos (starEach es X.env)).any (·.1) = false:=by rfl) :
  PEA T E X (.Call (.Attribute o name apos) (e :: es) [] pos) (sBM chk f so as):=by
 obtain ⟨r,h1,h2⟩:=hm
 refine yaE (yhS pa slot hty h1 ho ha hbase hfew hline hs hplain) fun σ H Q ⟨ι,h,en,S,er,q⟩=>⟨ι,h,en,S,er,q.bind fun x h1 ι1 H1 u g1 S1 r1 q1=>?_⟩
 by_cases hx : chk x h1 = true
 ·rw [if_pos hx] at q1
  exact ⟨hK ▸ hc ι1 h1 H1 x u S1 r1 hx,ι1,h1,en,S1,er.mono g1,q1.bind fun xs h2' ι2 H2 us g2 S2 r2 q2=>h2 ι2 h2' H2 x xs u us _ Q S2 (r1.mono g2) r2 q2⟩
 ·rw [if_neg hx] at q1; exact q1.elim
theorem zai : ∃ r,MtR X "list.append" r /\ MtS T yaD r:=by
 refine ⟨_,zdu,fun ι h H x xs u us E Q S rx rs q=>?_⟩
 unfold yaD at q
 split at q
 ·rename_i n y
  split at q
  ·rename_i ys hn
   split at q
   ·rename_i hl
    cases rx with
    | @ref _ ad hr =>
     cases rs with
     | @cons _ uu _ _ r r' =>
      cases r'
      obtain ⟨o,e1,ws,rfl,rw_⟩:=S.obj n _ ad hn hr
      have g:=S.growSet (u:=.lst (ws++[uu])) hr
      exact ⟨ad,ws,_,rfl,rfl,e1,by rw [<- rw_.length]; exact hl,q ι _ _ g (S.set hr ⟨_,rfl,(rw_.mono g).append (.cons (r.mono g) .nil)⟩) .non⟩
   ·exact q.elim
  ·exact q.elim
 ·exact q.elim
theorem zhx : ∃ r,MtR X "str.count" r /\ MtS T yen r:=by
 refine ⟨_,zed,fun ι h H x xs u us E Q S rx rs q=>?_⟩
 unfold yen at q
 split at q
 ·cases rs with
  | cons r r' =>
   cases r'
   obtain ⟨rfl,_⟩:=yaV rx
   obtain ⟨rfl,_⟩:=yaV r
   exact ⟨_,_,rfl,rfl,q.now S (.int _)⟩
 ·exact q.elim
theorem zc6 {ι : Ix} {H : Hp} : ∀ {xs : List AV} {us : List V} {zs : List Str},RVs T ι H xs us -> ycM xs = some zs -> us = zs.map V.str /\ ∀ z ∈ zs,z.cps.all (· < 0x110000) = true
 | _,_,_,.nil,e=>by cases e; exact ⟨rfl,by simp⟩
 | _,_,zs,.cons (x:=x) r rs,e=>by
  unfold ycM at e
  split at e
  ·rename_i hh; cases hh
  ·rename_i b r' hh
   cases hh
   obtain ⟨zs',e1,rfl⟩:=Option.map_eq_some_iff.mp e
   obtain ⟨rfl,_,o⟩:=yaV r
   obtain ⟨h1,h2⟩:=zc6 rs e1
   refine ⟨by rw [h1]; rfl,fun z hz=>?_⟩
   rcases List.mem_cons.mp hz with rfl | hz
   ·exact o
   ·exact h2 z hz
  ·cases e
theorem yeH (hK : X.K = T.K) : ∃ r,MtR X "str.join" r /\ MtS T ybD r:=by
 refine ⟨_,zir,fun ι h H x xs u us E Q S rx rs q=>?_⟩
 unfold ybD at q
 split at q
 ·rename_i z y
  split at q
  ·rename_i hz
   subst hz
   split at q
   ·rename_i ys hy
    split at q
    ·rename_i zs hzs
     split at q
     ·rename_i hl
      cases rs with
      | cons r r' =>
       cases r'
       obtain ⟨rfl,_⟩:=yaV rx
       obtain ⟨a,ws,rfl,sq,rw_⟩:=ybx S r hy
       obtain ⟨h1,h2⟩:=zc6 rw_ hzs
       subst h1
       refine ⟨a,zs,rfl,rfl,hK ▸ sq,hl,fun rr hrr=>?_⟩
       have e : rr = ⟨((zs.map fun x : Str=>x.cps.toList).flatten).toArray⟩:=by
        cases rr
        simp only [Str.mk.injEq]
        rw [<- hrr]
       rw [e]
       refine q.now S (.str ?_ ?_)
       ·show ((zs.map fun x : Str=>x.cps.toList).flatten).toArray.size <= sizeLine
        rw [List.size_toArray]
        exact Nat.le_trans hl (by decide)
       ·rw [Array.all_eq_true_iff_forall_mem]
        intro c hc
        simp only [List.mem_toArray,List.mem_flatten,List.mem_map] at hc
        obtain ⟨l,⟨zz,hz1,rfl⟩,hc2⟩:=hc
        exact Array.all_eq_true_iff_forall_mem.mp (h2 zz hz1) c (by simpa using hc2)
     ·exact q.elim
    ·exact q.elim
   ·exact q.elim
  ·exact q.elim
 ·exact q.elim
end
end Sm
namespace Sm
open PySem PySem.Spec L2
theorem Out.bind_assoc {α β γ : Type} (o : Out α) (f : α -> AH -> Out β) (g : β -> AH -> Out γ) : (o.bind f).bind g = o.bind fun a h=>(f a h).bind g:=by cases o<;>rfl
section
variable {T : Tb} {E : St -> XK} {X : Cx} {pos p2 : Pos} {a b : Expr} {sa sb : SE}
def tO (T : Tb) (E : St -> XK) : Option SE -> TO
 | none=>yeQ
 | some s=>yfR (tE T E s)
abbrev POA (T : Tb) (E : St -> XK) (X : Cx) (e : Option Expr) (s : Option SE) : Prop:=PO X e (tO T E s)
theorem zc7 : POA T E X none none:=zh9
theorem zbp (h : PEA T E X a sa) : POA T E X (some a) (some sa):=zia h
@[simp] def yer (s : Option SE) : En -> AH -> Out (Option Int):=fun en h=>match s with
 | none=>.ok none h
 | some l=>(l en h).bind fun v h2=>match v with | .int i=>.ok (some i) h2 | _=>.bad
theorem zfg {s : Option SE} {σ : St} {H : Hp} {ι : Ix} {h : AH} {en : En} {γ δ : Type} {R' : Ix -> Hp -> γ -> δ -> Prop} {Q0 : δ -> Hp -> Prop} {f : Option Int -> AH -> Out γ} {Q : Option Int -> Hp -> Prop} (S : Sim T ι h H) (er : ER T ι H en σ) (q : Post T ι H (E σ) R' ((yer s en h).bind f) Q0)
  (k : ∀ l h' ι' H',Grow ι H ι' H' -> Sim T ι' h' H' -> Post T ι' H' (E σ) R' (f l h') Q0 -> Q l H') : tO T E s σ H Q:=by
 cases s with
 | none=>exact k none h ι H S.refl S q
 | some l =>
  refine ⟨ι,h,en,S,er,?_⟩
  unfold yer at q
  dsimp only at q
  rw [Out.bind_assoc] at q
  refine q.bind fun v h1 ι1 H1 u g1 S1 r1 q1=>?_
  split at q1
  ·rw [yax r1]
   exact ⟨_,rfl,k _ _ ι1 H1 g1 S1 q1⟩
  ·exact q1.elim
@[simp] def ycg (x : AV) (l u : Option Int) (h : AH) : Out AV:=match x with
 | .fl xs=>.ok (.fl (cutA xs l u)) h
 | .str z=>.ok (.str (cutS z l u)) h
 | .tup xs=>if ¬ (HT.sIx xs.length 0 l = 0 /\ HT.sIx xs.length xs.length u = xs.length) then .ok (.tup (cutA xs l u)) h else .bad
 | .ref n=>match h[n]? with
  | some (.lst xs)=>.ok (.fl (cutA xs l u)) h
  | _=>.bad
 | _=>.bad
@[simp] def sCut (a : SE) (lo hi : Option SE) : SE:=fun en h=>(a en h).bind fun x h1=>(yer lo en h1).bind fun l h2=>(yer hi en h2).bind fun u h3=>ycg x l u h3
theorem RVs.cut {ι : Ix} {H : Hp} {xs : List AV} {us : List V} {lo hi : Option Int} (r : RVs T ι H xs us) : RVs T ι H (cutA xs lo hi) (cutV us lo hi):=by
 unfold cutA cutV
 rw [<- r.length]
 exact (r.drop _).take _
theorem yg2 {ι : Ix} {H : Hp} {z : Str} {l u : Option Int} (hz : z.length <= sizeLine) (hc : z.cps.all (· < 0x110000) = true) : RV T ι H (.str (cutS z l u)) (.str (cutS z l u)):=by
 refine .str ?_ ?_
 ·refine Nat.le_trans ?_ hz
  simp [cutS,Str.length]; omega
 ·simp only [cutS,List.all_toArray,List.all_eq_true]
  intro c h
  have hm : c ∈ z.cps.toList:=List.mem_of_mem_drop (List.mem_of_mem_take h)
  exact (Array.all_eq_true_iff_forall_mem.mp hc) c (by simpa using hm)
theorem zb7 {lo hi : Option Expr} {sl sh : Option SE} (hK : X.K = T.K) (ha : PEA T E X a sa) (hl : POA T E X lo sl) (hh : POA T E X hi sh) : PEA T E X (.Subscript a (.Slice lo hi none p2) pos) (sCut sa sl sh):=by
 refine yaE (zhe (zid.or (sl_tup.or ygU)) ha hl hh) fun σ H Q ⟨ι,h,en,S,er,q⟩=>⟨ι,h,en,S,er,q.bind fun x h1 ι1 H1 u g1 S1 r1 q1=>?_⟩
 refine zfg (E:=E) S1 (er.mono g1) q1 fun l h2 ι2 H2 g2 S2 q2=>zfg (E:=E) S2 (er.mono (g1.trans g2)) q2 fun w h3 ι3 H3 g3 S3 q3=>?_
 have r3:=r1.mono (g2.trans g3)
 unfold ycg at q3
 split at q3
 ·obtain ⟨ad,us,rfl,sq,rs⟩:=ybx S3 r3 rfl
  exact .inl ⟨ad,us,rfl,hK ▸ sq,fun p n=>ydN S3 rs.cut n q3⟩
 ·obtain ⟨rfl,hz,hc⟩:=yaV r3
  exact .inr (.inr ⟨_,rfl,hz,q3.now S3 (yg2 hz hc)⟩)
 ·rename_i xs
  split at q3
  ·rename_i hz
   obtain ⟨ad,us,rfl,sq,rs⟩:=yc4 r3
   exact .inr (.inl ⟨ad,us,rfl,hK ▸ sq,by rw [<- rs.length]; exact hz,fun p n=>zc2 S3 rs.cut n q3⟩)
  ·exact q3.elim
 ·split at q3
  ·rename_i xs hn
   obtain ⟨ad,us,rfl,sq,rs⟩:=ybx (xs:=xs) S3 r3 (by simp [ybi,hn])
   exact .inl ⟨ad,us,rfl,hK ▸ sq,fun p n=>ydN S3 rs.cut n q3⟩
  ·exact q3.elim
 ·exact q3.elim
theorem r_gI {x : Str} {i : Int} {p : Pos} (hg : Gl X x) (hm : ∃ t,X.mg x = some (.int i t)) (hd : (x == ("__debug__" : Str)) = false:=by decide) : PEA T E X (.Name x p) (sLit (.int i)):=by
 obtain ⟨t,hm⟩:=hm
 exact zit hg hm hd
theorem r_gS {x z : Str} {p : Pos} (hg : Gl X x) (hm : ∃ t,X.mg x = some (.str z t)) (n : z.length <= sizeLine:=by decide +kernel) (o : z.cps.all (· < 0x110000) = true:=by decide +kernel) (hd : (x == ("__debug__" : Str)) = false:=by decide) : PEA T E X (.Name x p) (sLit (.str z)):=by
 obtain ⟨t,hm⟩:=hm
 exact ziu hg hm n o hd
end
def DG (K : PySem.W.Frag) (mg : Str -> Option Value) (x : Str) (st : Stmt) (ps : List Str) : Prop:=∃ f fd,mg x = some (.ref f) /\ PySem.W.keepIn K (.ref f) = true /\ Binds K fd ps [] /\ Fun K x x st f fd
end Sm
namespace Sm
open PySem PySem.Spec L2
def yeS (N : List Str) (sc : Scope) (x₁ : Str) (jf : List (Nat × Str)) (scope : Scope) : Bool :=
 decide (x₁ :: jf.map (·.2)).Nodup && (scope.names.lookup x₁ == some .local) && jf.all (fun p=>N[p.1]? == some p.2) && jf.all (fun p=>scope.names.lookup p.2 == some .free) && (scope.kind == .function) &&
 scope.names.all (fun y=>y.2 != .cell) && scope.names.all (fun y=>y.2 != .free || sc.names.lookup y.1 == some .cell || sc.names.lookup y.1 == some .free) && scope.names.all (fun y=>y.2 != .local || scope.names.lookup y.1 == some .local)
theorem zaG {X : Cx} {N : List Str} {sc scope : Scope} {x₁ : Str} {jf : List (Nat × Str)} (hN : X.N = N) (hk : ∀ x,X.env.kindOf x = sc.names.lookup x) (h : yeS N sc x₁ jf scope = true) : CompOk X x₁ jf scope:=by
 unfold yeS at h
 simp only [Bool.and_eq_true,decide_eq_true_eq,List.all_eq_true,beq_iff_eq,bne_iff_ne,Bool.or_eq_true] at h
 obtain ⟨⟨⟨⟨⟨⟨⟨h1,h2⟩,h3⟩,h4⟩,h5⟩,h6⟩,h7⟩,h8⟩:=h
 refine ⟨h1,h2,fun p hp=>by rw [hN]; exact h3 p hp,h4,h5,fun y hy=>h6 y hy,fun y hy e=>?_,fun y hy e=>?_⟩
 ·rw [hk]
  rcases h7 y hy with (z | z) | z
  ·exact absurd e z
  ·exact .inl z
  ·exact .inr z
 ·rcases h8 y hy with z | z
  ·exact absurd e z
  ·exact z
end Sm
namespace Sm
open PySem PySem.Spec L2
theorem zc8 {T : Tb} {ι : Ix} {H : Hp} : ∀ ns : List Int,RVs T ι H (ns.map AV.int) (ns.map V.int)
 | []=>.nil
 | n :: ns=>.cons (.int n) (zc8 ns)
theorem sim0 {T : Tb} {H : Hp} : Sim T ⟨[],[]⟩ [] H:=⟨rfl,List.nodup_nil,(fun _ z=>nomatch z),(fun i o a e=>by simp at e)⟩
def spL (K : PySem.W.Frag) : Sp:=fun vs H Q _=>∃ (a : Addr) (ns : List Int),vs = [.ref a] /\ SqL K H a (ns.map V.int) /\ ns.length <= 63 /\ ∀ H',Q (.bl true) H'
theorem ziG {T : Tb} {F : Fn} (ht : ∀ ns : List Int,ns.length <= 63 -> ∃ h',F [.fl (ns.map AV.int)] [] = .ok (.bl true) h') : ∀ vs H Q E,spL T.K vs H Q E -> spA T F vs H Q E:=by
 rintro vs H Q E ⟨a,ns,rfl,hs,hl,q⟩
 obtain ⟨h',e⟩:=ht ns hl
 refine ⟨⟨[],[]⟩,[],[.fl (ns.map AV.int)],sim0,.cons ?_ .nil,?_⟩
 ·rcases hs with hs | hs
  ·exact .fl (by simp [Ix.all]) hs (zc8 ns)
  ·exact .kfl hs (zc8 ns)
 ·rw [e]
  intro ι' H' u g S r
  rw [yct r]
  exact q H'
theorem zgy {P : Program} {w : World} {outer : List Env} {H : Hp} {s s' : Shared} {e : Value} (h : CXE P w outer H s (fun _ _ _=>False) e s') : False:=by
 obtain ⟨_,_,_,_,_,_,_,_,_,_,_,_,_,_,q⟩:=h
 exact q
end Sm
namespace Sm
open PySem PySem.Spec L2
@[simp] def ydP : List AV -> Option (List Int)
 | []=>some []
 | .int i :: r=>(ydP r).map (i :: ·)
 | _=>none
@[simp] def fSum : Fn:=fun args h=>match args with
 | [.fl xs]=>match ydP xs with
  | some ns=>.ok (.int ns.sum) h
  | none=>.bad
 | _=>.bad
@[simp] def yb8 (a b c : SE) : SI:=fun en h=>(a en h).bind fun v h1=>(b en h1).bind fun w h2=>(c en h2).bind fun z h3=>match v,w,z with
 | .int i,.int j,.int k=>if i.natAbs < 2 ^ 40 /\ j.natAbs < 2 ^ 40 /\ 0 < k /\ k < 2 ^ 20 then .ok ((List.range (if i < j then (j - i - 1) / k + 1 else 0 : Int).toNat).map (fun m : Nat=>.int (i + m * k)),none) h3 else .bad
 | _,_,_=>.bad
section
variable {T : Tb} {E : St -> XK} {X : Cx} {pos p : Pos} {e a b c : Expr} {sa sb sc : SE}
theorem zfh {ι : Ix} {H : Hp} : ∀ {xs : List AV} {us : List V} {bs : List Int},RVs T ι H xs us -> ydP xs = some bs -> us = bs.map V.int
 | _,_,_,.nil,e=>by cases e; rfl
 | _,_,bs,.cons (x:=x) r rs,e=>by
  unfold ydP at e
  split at e
  ·rename_i hh; cases hh
  ·rename_i b r' hh
   cases hh
   obtain ⟨bs',e1,rfl⟩:=Option.map_eq_some_iff.mp e
   rw [yax r,zfh rs e1]; rfl
  ·cases e
theorem b_sum (hK : X.K = T.K) (hc : X.calm = true:=by rfl) : ∃ r,CallR X (.builtin "sum") r /\ ycv T fSum r:=by
 refine ⟨_,zht hc,fun ι h H xs us E Q S r q=>?_⟩
 unfold fSum at q
 split at q
 ·split at q
  ·rename_i bs hb
   cases r with
   | cons r r' =>
    cases r'
    obtain ⟨a,us,rfl,sq,rs⟩:=ybx S r rfl
    rw [zfh rs hb] at sq
    exact ⟨a,bs,rfl,hK ▸ sq,q.now S (.int _)⟩
  ·exact q.elim
 ·exact q.elim
theorem zcP {ι : Ix} {H : Hp} {lo c : Int} {n : Nat} : ItR T (Itr3 lo c n) ι H ((List.range n).map (fun m : Nat=>AV.int (lo + m * c))) none:=by
 constructor
 ·intro i ι' h' H' y g S _ e
  rw [List.getElem?_map] at e
  obtain ⟨m,e1,rfl⟩:=Option.map_eq_some_iff.mp e
  have hi : i < n:=by
   have:=(List.getElem?_eq_some_iff.mp e1).1
   simpa using this
  rw [List.getElem?_range hi] at e1
  cases e1
  refine ⟨hi,?_⟩
  rintro u H2 ⟨rfl,rfl⟩
  exact ⟨S.refl,S,.int _⟩
 ·intro i ι' h' H' g S _ hl
  have hl' : n <= i:=by simpa using hl
  exact hl'
theorem zdE {tg : Expr} {p : Pos} (hg : Gl X "range") (hm : X.mg "range" = none) (ha : PEA T E X a sa) (hb : PEA T E X b sb) (hc : PEA T E X c sc) (hs : starEach [a,b,c] X.env = [(false,eval a X.env),(false,eval b X.env),(false,eval c X.env)]:=by rfl) (hs2 : starEach [b,c] X.env = [(false,eval b X.env),(false,eval c X.env)]:=by rfl) (hs3 : starEach [c] X.env = [(false,eval c X.env)]:=by rfl) :
  PIA T X tg (.Call (.Name "range" p) [a,b,c] [] pos) (yb8 sa sb sc) :=
 yds (zgt hg hm (zaa ha (zaa hb (zaa hc yac hs3) (by rw [hs2,hs3])) (by rw [hs,hs2])) hs hs2) fun σ H R ⟨ι,h,en,S,er,q⟩=>by
  unfold yb8 at q
  refine ⟨ι,h,en,S,er,?_⟩
  unfold yab
  cases e : sa en h with
  | bad=>rw [e] at q; exact q
  | ex c h1=>rw [e] at q; exact q.elim
  | ok v h1 =>
   rw [e] at q
   dsimp only [Out.bind] at q ⊢
   cases e' : sb en h1 with
   | bad=>rw [e'] at q; exact q
   | ex c h1=>rw [e'] at q; exact q.elim
   | ok v' h2 =>
    rw [e'] at q
    dsimp only at q ⊢
    cases e'' : sc en h2 with
    | bad=>rw [e''] at q; exact q
    | ex c h1=>rw [e''] at q; exact q.elim
    | ok v'' h3 =>
     rw [e''] at q
     dsimp only at q
     intro ι1 H1 u g1 S1 r1
     split at q
     ·rename_i hx
      split at hx
      ·split at hx
       ·rename_i hb
        cases hx
        cases r1 with
        | cons r r' =>
         cases r' with
         | cons r2 r3 =>
          cases r3 with
          | cons r4 r5 =>
           cases r5
           rw [yax r,yax r2,yax r4]
           exact ⟨_,_,_,rfl,hb,q ι1 H1 _ g1 S1 zcP⟩
       ·cases hx
      ·cases hx
     ·exact q.elim
theorem yft {sts : List Stmt} {E : St -> XK} : PSsA T E X sts (fun _ _=>.bad):=fun pins s σ H D I ⟨ι,h,en,S,er,q⟩=>q.elim
end
theorem el1 : ∀ {us : List Value},us.length = 1 -> ∃ a : Value,us = [a]
 | [a],_=>⟨a,rfl⟩
theorem el2 : ∀ {us : List Value},us.length = 2 -> ∃ a b : Value,us = [a,b]
 | [a,b],_=>⟨a,b,rfl⟩
theorem el3 : ∀ {us : List Value},us.length = 3 -> ∃ a b c : Value,us = [a,b,c]
 | [a,b,c],_=>⟨a,b,c,rfl⟩
theorem el5 : ∀ {us : List Value},us.length = 5 -> ∃ a b c d e : Value,us = [a,b,c,d,e]
 | [a,b,c,d,e],_=>⟨a,b,c,d,e,rfl⟩
end Sm
namespace Sm
open PySem PySem.Spec L2
open PySem.Builtin PySem.Builtin.Str
def ycw : FM:=fun x vs h=>match x,vs with
 | .str z,[.str y]=>if (y.length == 0) = false /\ z.length <= sizeLine /\ (partsBetween z (occurrences z y 0 z.length (z.length + 1)) y.length).length <= sizeLine /\ (∀ p ∈ Txt.split z y,p.length <= sizeLine /\ p.cps.all (· < 0x110000) = true) then .ok (.fl ((Txt.split z y).map AV.str)) h else .bad
 | _,_=>.bad
section
variable {T : Tb} {E : St -> XK} {X : Cx} {pos : Pos}
theorem zen {ι : Ix} {H : Hp} : ∀ ps : List Str,(∀ p ∈ ps,p.length <= sizeLine /\ p.cps.all (· < 0x110000) = true) -> RVs T ι H (ps.map AV.str) (ps.map V.str)
 | [],_=>.nil
 | p :: ps,h=>.cons (.str (h p (List.mem_cons_self ..)).1 (h p (List.mem_cons_self ..)).2) (zen ps fun q hq=>h q (List.mem_cons_of_mem _ hq))
theorem zfi : ∃ r,MtR X "str.split" r /\ MtS T ycw r:=by
 refine ⟨_,zeh,fun ι h H x xs u us E Q S rx rs q=>?_⟩
 unfold ycw at q
 split at q
 ·split at q
  ·rename_i hz
   cases rs with
   | cons r r' =>
    cases r'
    obtain ⟨rfl,_⟩:=yaV rx
    obtain ⟨rfl,_⟩:=yaV r
    exact ⟨_,_,rfl,rfl,hz.1,hz.2.1,hz.2.2.1,fun p n=>ydN S (zen _ hz.2.2.2) n q⟩
  ·exact q.elim
 ·exact q.elim
end
end Sm
namespace Sm
open PySem PySem.Spec L2
open PySem.Builtin PySem.Builtin.Str
def yc6 : FM:=fun x vs h=>match x,vs with
 | .str z,[y]=>match ybi y h with
  | some xs=>match ycM xs with
   | some zs=>if JoinOk z zs = true /\ (glued z zs).length <= sizeLine /\ (glued z zs).cps.all (· < 0x110000) = true then .ok (.str (glued z zs)) h else .bad
   | none=>.bad
  | none=>.bad
 | _,_=>.bad
section
variable {T : Tb} {E : St -> XK} {X : Cx} {pos : Pos}
theorem zhy : MtR X "str.join" (fun x vs H Q=>∃ (z : Str) (l : Addr) (xs : List Str),x = .str z /\ vs = [.ref l] /\ SqL X.K H l (xs.map V.str) /\ JoinOk z xs = true /\ Q (.str (glued z xs)) H):=by
 intro pins s σ H x vs v us Q I rx rv h
 obtain ⟨z,l,xs,rfl,rfl,hq,hok,q⟩:=h
 obtain ⟨t,rfl⟩:=rx
 obtain ⟨u,rfl,ru⟩:=ybP rv
 cases ru
 obtain ⟨its,r,pl,_⟩:=I.list hq
 obtain ⟨ll,rfl,e2⟩:=zc1 r
 exact SC.join pl.isList e2 hok fun t' k=>⟨.str _,H,I.tok _,⟨_,rfl⟩,q⟩
theorem zc9 (hK : X.K = T.K) : ∃ r,MtR X "str.join" r /\ MtS T yc6 r:=by
 refine ⟨_,zhy,fun ι h H x xs u us E Q S rx rs q=>?_⟩
 unfold yc6 at q
 split at q
 ·rename_i z y
  split at q
  ·rename_i ys hy
   split at q
   ·rename_i zs hzs
    split at q
    ·rename_i hl
     cases rs with
     | cons r r' =>
      cases r'
      obtain ⟨rfl,_⟩:=yaV rx
      obtain ⟨a,ws,rfl,sq,rw_⟩:=ybx S r hy
      obtain ⟨h1,h2⟩:=zc6 rw_ hzs
      subst h1
      exact ⟨_,a,zs,rfl,rfl,hK ▸ sq,hl.1,q.now S (.str hl.2.1 hl.2.2)⟩
    ·exact q.elim
   ·exact q.elim
  ·exact q.elim
 ·exact q.elim
end
end Sm
namespace L2
open PySem PySem.Spec PyProof.Rows
section
variable {X : Cx}
theorem zgz : CallR X (.type "str") (fun xs H Q=>∃ i,xs = [.int i] /\ i.natAbs.log2 < 1920 /\ Q (.str (toString i : String)) H):=by
 intro pins s σ H xs us Q I r h
 obtain ⟨i,rfl,hi,q⟩:=h
 obtain ⟨u,rfl,t,rfl⟩:=ybP r
 exact P.str_of_int hi ⟨.str (toString i : String),H,I.tok _,⟨_,rfl⟩,q⟩
end
end L2
namespace Sm
open PySem PySem.Spec L2
def ybk : Fn:=fun args h=>match args with
 | [.int i]=>if i.natAbs.log2 < 1920 /\ (Str.ofString (toString i)).length <= sizeLine /\ (Str.ofString (toString i)).cps.all (· < 0x110000) = true then .ok (.str (Str.ofString (toString i))) h else .bad
 | _=>.bad
theorem b_str {T : Tb} {X : Cx} : ∃ r,CallR X (.type "str") r /\ ycv T ybk r:=by
 refine ⟨_,zgz,fun ι h H xs us E Q S r q=>?_⟩
 unfold ybk at q
 split at q
 ·split at q
  ·rename_i hz
   cases r with
   | cons r r' => cases r'; rw [yax r]; exact ⟨_,rfl,hz.1,q.now S (.str hz.2.1 hz.2.2)⟩
  ·exact q.elim
 ·exact q.elim
end Sm
namespace Sm
open PySem PySem.Spec L2
def fGet (n : Nat) (y z : AV) (h : AH) : Out AV:=match h[n]? with
 | some (.dct t kvs)=>if ybX t y then .ok ((valA kvs y).getD z) h else .bad
 | _=>.bad
def sGet (o k d : SE) : SE:=fun en h=>(o en h).bind fun x h1=>match x with
 | .ref n=>(match h1[n]? with
  | some (.dct _ _)=>(k en h1).bind fun y h2=>(d en h2).bind fun z h3=>fGet n y z h3
  | _=>.bad)
 | _=>.bad
section
variable {T : Tb} {E : St -> XK} {X : Cx} {pos apos : Pos} {a b c : Expr} {sa sb sc : SE}
theorem isD_of {ι : Ix} {h : AH} {H : Hp} {n : Nat} {t : Bool} {kvs : List (AV × AV)} {ad : Addr} (S : Sim T ι h H) (hn : h[n]? = some (.dct t kvs)) (hr : ι.refs[n]? = some ad) : IsD H ad:=by
 obtain ⟨ob,e1,r⟩:=S.obj n _ ad hn hr
 cases t with
 | false=>obtain ⟨kus,rfl,r⟩:=r; exact .inl ⟨_,.inl e1⟩
 | true=>obtain ⟨kus,rfl,r⟩:=r; exact .inr ⟨_,_,.inl e1⟩
theorem yia (hu : X.A.units + 64 < cLine) (ha : PEA T E X a sa) (hb : PEA T E X b sb) (hc : PEA T E X c sc) (hbase : attributeBase a "get" X.env (eval a X.env) = eval a X.env:=by rfl)
  (hfew : ((backTo pos (starEach [b,c] X.env)).all (fun x=>!x.1) && (backToKw pos (keywordEach [] X.env)).all (fun x=>x.1.isSome) && decide (([b,c] : List Expr).length + ([] : List Keyword).length + (if ([] : List Keyword).isEmpty then 0 else 1) < 30)) = true:=by rfl)
  (hline : (apos.endLine == pos.line) = true:=by rfl) (htrees : backTo pos (starEach [b,c] X.env) = [(false,eval b X.env),(false,eval c X.env)]:=by rfl) : PEA T E X (.Call (.Attribute a "get" apos) [b,c] [] pos) (sGet sa sb sc):=by
 refine yaE (zhj (Nat.lt_of_le_of_lt (Nat.add_le_add_left (by decide : 1 <= 64) _) hu) ha hb hc ⟨hbase,hfew,hline,htrees⟩) fun σ H Q q=>?_
 obtain ⟨ι,h,en,S,er,q⟩:=q
 refine ⟨ι,h,en,S,er,q.bind fun x h1 ι1 H1 u g1 S1 r1 q1=>?_⟩
 split at q1
 ·rename_i n
  split at q1
  ·rename_i t0 kvs0 hn0
   cases r1 with
   | @ref _ ad hr =>
    refine ⟨ad,rfl,isD_of S1 hn0 hr,ι1,h1,en,S1,er.mono g1,q1.bind fun y h2 ι2 H2 v g2 S2 r2 q2=>⟨ι2,h2,en,S2,(er.mono g1).mono g2,q2.bind fun z h3 ι3 H3 w g3 S3 r3 q3=>?_⟩⟩
    unfold fGet at q3
    split at q3
    ·rename_i t kvs hn
     split at q3
     ·rename_i hk
      obtain ⟨o,dg,alt⟩:=zc5 S3 hn ((g2.trans g3).ext.at_ hr) (r2.mono g3) hk
      refine ⟨o,dg,?_⟩
      rcases alt with ⟨v1,rfl⟩ | ⟨v',u',v1,rfl,r4⟩
      ·rw [v1] at q3; exact q3.now S3 r3
      ·rw [v1] at q3; exact q3.now S3 r4
     ·exact q3.elim
    ·exact q3.elim
  ·exact q1.elim
 ·exact q1.elim
end
end Sm
namespace L2
open PySem PySem.Spec PyProof.Rows
def yib (K : PySem.W.Frag) (C : Addr) (tb : (St -> XK) -> TS) (th : TS) : TS:=fun D σ H =>
 tb (fun σ' cls _ H' => PySem.W.exmOne K cls (.ref C) = some true /\ th { nx:=D.nx,rt:=D.rt,bk:=D.bk,ct:=D.ct } σ' H') D σ H
section
variable {X : Cx} {xc : Str} {C : Addr} {body suite : List Stmt} {b0 : Stmt} {np hpos pos : Pos} {tb : (St -> XK) -> TS} {th : TS} {outer : List Env}
theorem ziH (hex : X.ex = []) (hst : X.stack = X.env :: outer) (hf : X.env.frame = some X.env.locals) (hg : Gl X xc) (hm : X.mg xc = some (.ref C))
  (hb : ∀ pins xe Ex,ycn (CXE X.prog X.w) (tryC X pins xe) Ex -> yb4 (tryC X pins xe) Ex -> PSs (tryC X pins xe) body (tb Ex)) (hh : ∀ a,PSs (hdlC X a) (b0 :: suite) th) (hdb : (xc == ("__debug__" : Str)) = false:=by decide) :
  PS X (.Try body [.ExceptHandler (some (.Name xc np)) none (b0 :: suite) hpos] [] [] pos) (yib X.K C tb th):=by
 intro pins s σ H D I h
 have okX:=I.ok
 let Ex : St -> XK:=fun σ' cls _ H' => PySem.W.exmOne X.K cls (.ref C) = some true /\ th { nx:=D.nx,rt:=D.rt,bk:=D.bk,ct:=D.ct } σ' H'
 let xe : Value -> Shared -> Prop:=fun e s' => ∃ σ' H' a cls,e = .ref a /\ Arr X pins σ' H' a cls s' /\ Ex σ' cls none H'
 have hR : yb4 (tryC X pins xe) Ex:=fun pins' σ' H' s' a cls R q=>⟨σ',H',a,cls,rfl,R.untry,q⟩
 have hP : ycn (CXE X.prog X.w) (tryC X pins xe) Ex:=fun pins' σ' H' s1 e s2 I' hq=>by
  obtain ⟨a,cls,H2,rfl,R,q⟩:=zef (X:=tryC X pins xe) I' hex hq
  exact ⟨σ',H2,a,cls,rfl,R.untry,q⟩
 have hbody:=hb pins xe Ex hP hR [] s σ H D (I.toTry (xe:=xe)) h
 refine wpAny_Try_except (wpAny_mono hbody (fun f s1 q=>?_) fun e s1 q=>?_)
 ·cases f with
  | next=>obtain ⟨σ1,H1,I1,q1⟩:=q; exact wpAny_execs_nil ⟨σ1,H1,I1.untry,q1⟩
  | brk=>obtain ⟨σ1,H1,I1,q1⟩:=q; exact ⟨σ1,H1,I1.untry,q1⟩
  | cont=>obtain ⟨σ1,H1,I1,q1⟩:=q; exact ⟨σ1,H1,I1.untry,q1⟩
  | ret u=>obtain ⟨v1,σ1,H1,I1,r1,q1⟩:=q; exact ⟨v1,σ1,H1,I1.untry,r1,q1⟩
 ·obtain ⟨σ1,H1,a,cls,rfl,R,hxm,q1⟩:=q
  refine R.land hex okX.frames hst hf fun h5 B a0 fm fl sm I5=>?_
  obtain ⟨oe,vs,hoe,hoec,hoed,_⟩:=fl.first
  have I5h:=I5.hdl a
  refine wpAny_handleBy_cons (codeAny_handlers_test (zaT (X:=hdlC X a) I5h hg hm ?_ hdb)) (by intro z; cases z)
  refine (PySem.W.exm_one I5.kIn (hoec ▸ zeg hoe) hxm).here ?_
  refine codeAny_handlers_suite ?_
  refine lands_againW fl fun h6 fl6 sm6=>?_
  have I6 : Inv X pins σ1 H1 { s1 with heap:=h6 }:=R.inv.flown (t' := s1.toks) hex fm fl6.1 (sm.trans sm6)
  refine wpAny_mono (hh a pins _ _ _ _ (I6.hdl a) q1) (fun f s9 q9=>?_) fun _ _ z=>z.elim
  cases f with
  | next=>obtain ⟨σ2,H2,I2,q2⟩:=q9; exact ⟨σ2,H2,I2.unhdl okX,q2⟩
  | brk=>obtain ⟨σ2,H2,I2,q2⟩:=q9; exact ⟨σ2,H2,I2.unhdl okX,q2⟩
  | cont=>obtain ⟨σ2,H2,I2,q2⟩:=q9; exact ⟨σ2,H2,I2.unhdl okX,q2⟩
  | ret u=>obtain ⟨v2,σ2,H2,I2,r2,q2⟩:=q9; exact ⟨v2,σ2,H2,I2.unhdl okX,r2,q2⟩
end
end L2
namespace Sm
open PySem PySem.Spec L2
@[simp] def yeZ (catches : Nat -> Bool) (b hd : SS) : SS:=fun en h=>match b en h with
 | .ex c e h' => if catches c = true then
   (match hd e h' with
   | .nx e2 h2=>.nx e2 h2
   | .bk e2 h2=>.bk e2 h2
   | .ct e2 h2=>.ct e2 h2
   | .rt v h2=>.rt v h2
   | _=>.bad) else .bad
 | o=>o
section
variable {T : Tb} {E : St -> XK} {X : Cx} {pos np : Pos}
theorem yg3 {xc : Str} {body suite : List Stmt} {b0 : Stmt} {hpos : Pos} {sb hd : SS} {outer : List Env} {catches : Nat -> Bool} (hK : X.K = T.K) (hg : Gl X xc)
  (hcat : ∃ C,X.mg xc = some (.ref C) /\ ∀ c C',catches c = true -> T.exc c = some C' -> PySem.W.exmOne T.K (.ref C') (.ref C) = some true)
  (hb : ∀ pins xe Ex,CA T Ex (tryC X pins xe) -> yb4 (tryC X pins xe) Ex -> PSsA T Ex (tryC X pins xe) body sb) (hh : ∀ a,CA T EN (hdlC X a) -> PSsA T EN (hdlC X a) (b0 :: suite) hd)
  (hex : X.ex = []:=by rfl) (hst : X.stack = X.env :: outer:=by rfl) (hf : X.env.frame = some X.env.locals:=by rfl) (hdb : (xc == ("__debug__" : Str)) = false:=by decide) :
  PSA T E X (.Try body [.ExceptHandler (some (.Name xc np)) none (b0 :: suite) hpos] [] [] pos) (yeZ catches sb hd):=by
 obtain ⟨C,hm,hcat⟩:=hcat
 refine ybS (ziH hex hst hf hg hm (fun pins xe Ex h1 h2=>hb pins xe Ex ⟨hK,h1⟩ h2) (fun a=>hh a (CA.never hK)) hdb) fun D σ H ⟨ι,h,en,S,er,q⟩=>⟨ι,h,en,S,er,?_⟩
 unfold yeZ at q
 cases e1 : sb en h with
 | nx e2 h2=>rw [e1] at q; exact q
 | rt v h2=>rw [e1] at q; exact q
 | bk e2 h2=>rw [e1] at q; exact q
 | ct e2 h2=>rw [e1] at q; exact q
 | bad=>rw [e1] at q; exact q
 | ex c e2 h2 =>
  rw [e1] at q
  dsimp only at q
  intro ι' H' σ' C' g S' er' ec
  by_cases hcc : catches c = true
  ·rw [if_pos hcc] at q
   refine ⟨hK ▸ hcat c C' hcc ec,ι',h2,e2,S',er',?_⟩
   have q2:=PostS.shift q g
   cases e3 : hd e2 h2 with
   | nx e4 h4=>rw [e3] at q2; exact q2
   | bk e4 h4=>rw [e3] at q2; exact q2
   | ct e4 h4=>rw [e3] at q2; exact q2
   | rt v h4=>rw [e3] at q2; exact q2
   | ex c' e4 h4=>rw [e3] at q2; exact (show False from q2).elim
   | bad=>rw [e3] at q2; exact q2
  ·rw [if_neg hcc] at q; exact (show False from q).elim
end
end Sm
namespace L2
open PySem PySem.Spec PyProof.Rows
section
variable {X : Cx}
theorem zda : MtR X "str.startswith" (fun x vs H Q=>∃ z y,x = .str z /\ vs = [.str y] /\ Q (.bl (Txt.startswith z y)) H):=by
 intro pins s σ H x vs v us Q I rx rv h
 obtain ⟨z,y,rfl,rfl,q⟩:=h
 obtain ⟨t,rfl⟩:=rx
 cases rv with
 | cons r1 r2 =>
  cases r2
  obtain ⟨t1,rfl⟩:=r1
  exact PySem.SC.startswith ⟨.bl _,H,I,rfl,q⟩
end
end L2
namespace Sm
open PySem PySem.Spec L2
@[simp] def yit : FM:=fun x vs h=>match x,vs with
 | .ref n,[y]=>match h[n]?,ybi y h with
  | some (.lst xs),some ys=>if xs.length + ys.length <= sizeLine then .ok .non (h.set n (.lst (xs++ys))) else .bad
  | _,_=>.bad
 | _,_=>.bad
def ybI : FM:=fun x vs h=>match x,vs with
 | .str z,[.str y]=>.ok (.bl (Txt.startswith z y)) h
 | _,_=>.bad
theorem zdF {T : Tb} {X : Cx} : ∃ r,MtR X "str.startswith" r /\ MtS T ybI r:=by
 refine ⟨_,zda,fun ι h H x xs u us E Q S rx rs q=>?_⟩
 unfold ybI at q
 split at q
 ·cases rs with
  | cons r r' =>
   cases r'
   obtain ⟨rfl,_⟩:=yaV rx
   obtain ⟨rfl,_⟩:=yaV r
   exact ⟨_,_,rfl,rfl,q.now S (.bl _)⟩
 ·exact q.elim
section
variable {T : Tb} {E : L2.St -> XK} {X : Cx} {pos : Pos} {a b : Expr} {sa sb : SE}
end
end Sm
namespace L2
open PySem PySem.Spec
theorem Room.m {j k : Nat} {A : Around} (hr : Room k A) (h : Nat.ble j k = true:=by rfl) : Room j A:=hr.mono (Nat.le_of_ble_eq_true h)
end L2
namespace Sm
open PySem PySem.Spec L2
def DK (K : PySem.W.Frag) (x : Str) (st : Stmt) : Prop:=∃ f fd,PySem.W.nsIn K mainGlobals x = some (some (.ref f)) /\ Fun K x x st f fd
def DN (K : PySem.W.Frag) (C : Addr) (m q : Str) (st : Stmt) : Prop:=∃ f fd,Meth K C m f /\ Fun K m q st f fd
def DMm (K : PySem.W.Frag) (cls : Nat -> Option Addr) (c : Nat) (m q : Str) (st : Stmt) (ps : List Str) : Prop:=∃ C f fd,cls c = some C /\ Cls K C /\ Meth K C m f /\ Binds K fd ps [] /\ Fun K m q st f fd
def DI (K : PySem.W.Frag) (cls : Nat -> Option Addr) (mg : Str -> Option Value) (c : Nat) (x q : Str) (st : Stmt) (ps : List Str) : Prop:=∃ C f fd,cls c = some C /\ mg x = some (.ref C) /\ Mk K C f /\ Binds K fd ps [] /\ Fun K "__init__" q st f fd
section
variable {P : Program} {w : World} {K : PySem.W.Frag} {mg : Str -> Option Value} {base h : Heap} {T : Tb} {x m q : Str} {st : Stmt} {f C : Addr} {N ps : List Str} {k c : Nat} {b : SS} {cls : Nat -> Option Addr}
section
variable {oc : Value} {od an : Option Addr} {osl : Array (Option Value)} {kV doc pm cdv ct : Value}
theorem dk (a : PySem.W.nsIn K mainGlobals x = some (some (.ref f))) (l : K.lookup f = some ⟨oc,od,.func (PySem.W.fnOf x x (ycm st) (ybf st) (yad st) .none kV doc pm an cdv ct),osl⟩)
  (c : PySem.W.codeIn K cdv x = true) (k : PySem.W.keepIn K (.ref f) = true) : DK K x st:=⟨f,_,a,yeD l c k⟩
theorem dn (a : PySem.W.findIn K (.ref C) m = some (some (.ref f))) (i : PySem.W.isFn K (.ref f) = true) (l : K.lookup f = some ⟨oc,od,.func (PySem.W.fnOf m q (ycm st) (ybf st) (yad st) .none kV doc pm an cdv ct),osl⟩)
  (c : PySem.W.codeIn K cdv q = true) (k : PySem.W.keepIn K (.ref f) = true) : DN K C m q st:=⟨f,_,⟨a,i,k⟩,yeD l c k⟩
end
abbrev BA (x q : Str) (st : Stmt) (us : List Value) (r : List (Str × Value)) : Prop:=∀ (kV doc pm : Value) (an : Option Addr) (cdv ct : Value),bindArgs (PySem.W.fnOf x q (ycm st) (ybf st) (yad st) .none kV doc pm an cdv ct) ⟨us,[]⟩ = pure r
def BL (x q : Str) (st : Stmt) (ps : List Str) : Prop:=∀ (us : List Value),us.length = ps.length -> BA x q st us (ps.zip us)
theorem bl1 {p1 : Str} (h : ∀ a,BA x q st [a] [(p1,a)]:=by exact fun _ _ _ _ _ _ _=>rfl) : BL x q st [p1]:=fun us e=>by obtain ⟨_,rfl⟩:=el1 e; exact h _
theorem bl2 {p1 p2 : Str} (h : ∀ a b,BA x q st [a,b] [(p1,a),(p2,b)]:=by exact fun _ _ _ _ _ _ _ _=>rfl) : BL x q st [p1,p2]:=fun us e=>by obtain ⟨_,_,rfl⟩:=el2 e; exact h _ _
theorem bl3 {p1 p2 p3 : Str} (h : ∀ a b c,BA x q st [a,b,c] [(p1,a),(p2,b),(p3,c)]:=by exact fun _ _ _ _ _ _ _ _ _=>rfl) : BL x q st [p1,p2,p3]:=fun us e=>by obtain ⟨_,_,_,rfl⟩:=el3 e; exact h _ _ _
theorem bl5 {p1 p2 p3 p4 p5 : Str} (h : ∀ a b c d e,BA x q st [a,b,c,d,e] [(p1,a),(p2,b),(p3,c),(p4,d),(p5,e)]:=by exact fun _ _ _ _ _ _ _ _ _ _ _=>rfl) : BL x q st [p1,p2,p3,p4,p5]:=fun us e=>by obtain ⟨_,_,_,_,_,rfl⟩:=el5 e; exact h _ _ _ _ _
theorem dg (X : K.In h) (G : h.Ns mainGlobals mg) (d : DK K x st) (hb : BL x x st ps) : DG K mg x st ps:=by
 obtain ⟨f,fd,a,F⟩:=d
 exact ⟨f,fd,PySem.W.mg_of X G a,F.kp,F.binds fun _ _ _ _ _ _ us hl=>hb us hl _ _ _ _ _ _,F⟩
theorem dm (hc : cls c = some C) (k : Cls K C) (d : DN K C m q st) (hb : BL m q st ps) : DMm K cls c m q st ps:=by
 obtain ⟨f,fd,M,F⟩:=d
 exact ⟨C,f,fd,hc,k,M,F.binds fun _ _ _ _ _ _ us hl=>hb us hl _ _ _ _ _ _,F⟩
theorem di (hc : cls c = some C) (hx : mg x = some (.ref C)) (mk : PySem.W.makesIn K C = true) (kc : PySem.W.keepIn K (.ref C) = true) (d : DN K C "__init__" q st) (hb : BL "__init__" q st ps) : DI K cls mg c x q st ps:=by
 obtain ⟨f,fd,M,F⟩:=d
 exact ⟨C,f,fd,hc,hx,⟨mk,M.at_,M.fn,kc⟩,F.binds fun _ _ _ _ _ _ us hl=>hb us hl _ _ _ _ _ _,F⟩
theorem dlaw {fa : Addr} {p : Str} (X : K.In h) (G : h.Ns mainGlobals mg) (hfa : mg x = some (.ref fa)) (d : DK K x st) (hb : BL x x st [p]) : ∃ fd : FuncData,(∀ (s : Shared) (v : Value),BindsTo s fd ⟨[v],[]⟩ [(p,v)]) /\ Fun K x x st fa fd:=by
 obtain ⟨f,fd,a,F⟩:=d
 have e:=hfa.symm.trans (PySem.W.mg_of X G a)
 cases e
 refine ⟨fd,fun s v=>?_,F⟩
 obtain ⟨oc,od,kV,doc,pm,an,cdv,ct,osl,rfl,lk,hcd⟩:=F.ex
 exact .of_eq (hb [v] rfl _ _ _ _ _ _)
theorem fsk {sc : Scope} (h1 : sc.kind = .function:=by rfl) (h2 : sc.isCoroutine = false:=by rfl) (h3 : sc.isGenerator = false:=by rfl) (h4 : N.Nodup:=by decide +kernel) (h5 : N.take ps.length = ps:=by rfl)
  (h6 : ∀ x ∈ ps,sc.names.lookup x = some .local \/ sc.names.lookup x = some .cell:=by decide +kernel) (h7 : ∀ y ∈ sc.names,y.2 ≠ .free:=by decide +kernel) : FnScope N ps sc:=⟨h1,h2,h3,h4,h5,h6,h7⟩
abbrev yes (P : Program) (w : World) (mg : Str -> Option Value) (base : Heap) (T : Tb) (q : Str) (st : Stmt) (f : Addr) (N : List Str) (k : Nat) (b : SS) : Prop :=
 ∀ {cdv : Value} {A : Around} {outer : List Env} {s : Shared} {H : Hp} {E : XK},Room k (A.deeper (PyProof.Rows.envOfC q (yad st) s.heap.objs.size f cdv)) -> CA T (fun _=>E) (cxOf (CXE P w) P w T.K mg base N q (yad st) f cdv A outer s H E) ->
  (A.deeper (PyProof.Rows.envOfC q (yad st) s.heap.objs.size f cdv)).units + 64 < cLine -> N.Nodup -> PSsA T (fun _=>E) (cxOf (CXE P w) P w T.K mg base N q (yad st) f cdv A outer s H E) (ybf st) b
theorem gf (d : DG T.K mg x st ps) (S : FnScope N ps (yad st)) (hb : ∀ {f},yes P w mg base T x st f N k b) : GF P w T mg base (k + 1) x (mkFn ps.length N.length b):=by
 obtain ⟨f,fd,h1,h2,h3,h4⟩:=d
 exact ⟨f,fd,_,h1,h2,h3,okA h4 rfl S fun cdv A outer s H E hr C=>hb hr C (hu64 hr) S.nd⟩
theorem gm (d : DMm T.K T.cls c m q st ps) (S : FnScope N ps (yad st)) (no : m ∉ T.fields c) (hb : ∀ {f},yes P w mg base T q st f N k b) : GM P w T mg base (k + 1) c m (mkFn ps.length N.length b):=by
 obtain ⟨C,f,fd,h0,hc,h1,h3,h4⟩:=d
 exact ⟨⟨C,f,fd,_,h0,hc,h1,h3,okA h4 rfl S fun cdv A outer s H E hr C=>hb hr C (hu64 hr) S.nd⟩,no⟩
theorem gk (d : DI T.K T.cls mg c x q st ps) (S : FnScope N ps (yad st)) (hb : ∀ {f},yes P w mg base T q st f N k b) : GK P w T mg base (k + 1) c x (mkFn ps.length N.length b):=by
 obtain ⟨C,f,fd,h0,h1,h2,h3,h4⟩:=d
 exact ⟨C,f,fd,_,h0,h1,h2,h3,okA h4 rfl S fun cdv A outer s H E hr C=>hb hr C (hu64 hr) S.nd⟩
theorem gl {f : Addr} {fd : FuncData} (h4 : Fun T.K x x st f fd) (S : FnScope N ps (yad st)) (hb : yes P w mg base T x st f N k b) : FnOk P w T.K mg base (CXE P w) (k + 1) f fd ps (spA T (mkFn ps.length N.length b)) :=
 okA h4 rfl S fun cdv A outer s H E hr C=>hb hr C (hu64 hr) S.nd
def XI (K : PySem.W.Frag) (X : Addr) : Prop:=PySem.W.excIn K X [.type "ValueError",.type "Exception",.type "BaseException",.type "object"] "ValueError.__new__" = true
theorem xi {X : Addr} (h : PySem.W.excIn K X [.type "ValueError",.type "Exception",.type "BaseException",.type "object"] "ValueError.__new__" = true) : XI K X:=h
theorem gx {X : Addr} {n : Nat} {g : Heap} (KB : K.In g) (KX : K.In h) (G : h.Ns mainGlobals mg) (hc : T.exc n = some X) (e : PySem.W.nsIn K mainGlobals x = some (some (.ref X))) (hx : XI K X) : GX T mg g n x:=⟨X,hc,zhs KB (PySem.W.mg_of KX G e) hx⟩
def XO (K : PySem.W.Frag) (a b : Addr) : Prop:=PySem.W.exmOne K (.ref a) (.ref b) = some true
theorem xo {a d : Addr} (h : PySem.W.exmOne K (.ref a) (.ref d) = some true) : XO K a d:=h
def NA (K : PySem.W.Frag) (x : Str) (v : Option Value) : Prop:=PySem.W.nsIn K mainGlobals x = some v
theorem na {v : Option Value} (h : PySem.W.nsIn K mainGlobals x = some v) : NA K x v:=h
def FA (K : PySem.W.Frag) (C : Addr) (x : Str) : Prop:=PySem.W.findIn K (.ref C) x = some none
theorem fatt (h : PySem.W.findIn K (.ref C) x = some none) : FA K C x:=h
end
end Sm
namespace L2
open PySem PySem.Spec PyProof.Rows
inductive TailN (h : Heap) (bm0 : List Value) (ns : List Str) : List Value -> Prop
 | base : TailN h bm0 ns bm0
 | own {A : Addr} {c0 : Value} {dd : Option Addr} {cd : ClassData} {sl : Array (Option Value)} {mA : Str -> Option Value} {tl : List Value} :
   h.get? A = some { cls:=c0,dict:=dd,data:=.cls cd,slots:=sl } -> h.Ns cd.ns mA -> (∀ n ∈ ns,mA n = none) -> TailN h bm0 ns tl -> TailN h bm0 ns (.ref A :: tl)
theorem TailN.up {h h' : Heap} {bm0 tl : List Value} {ns : List Str} (T : TailN h bm0 ns tl) (k : ∀ b o,h.get? b = some o -> h'.get? b = some o) : TailN h' bm0 ns tl:=by
 induction T with
 | base=>exact .base
 | own a1 a2 a3 _ ih=>exact .own (k _ _ a1) (a2.keeps k) a3 ih
theorem TailN.old {h : Heap} {bm0 tl : List Value} {ns : List Str} (T : TailN h bm0 ns tl) (hi : ("__init__" : Str) ∈ ns) : OwnTail h bm0 tl:=by
 induction T with
 | base=>exact .base
 | own a1 a2 a3 _ ih=>exact .own a1 a2 (a3 _ hi) ih
section
variable {M : Model} {A : Around} {E : Value -> Shared -> Prop} {h : Heap} {g : Array GenState} {d : Drawn} {t : Nat} {os : OsState}
theorem zhz {ns : List Str} {bm0 tl : List Value} {n : Str} {y : Option Value} {Q : Option Value -> Shared -> Prop} (hn : n ∈ ns) (T : TailN h bm0 ns tl) (hr : lookupAlong bm0 n = pure y) (hq : Q y ⟨h,g,d,t,os⟩) :
  wpAny M A (lookupAlong tl n) Q E ⟨h,g,d,t,os⟩:=by
 induction T with
 | base=>rw [hr]; exact wpAny_pure hq
 | own a1 a2 a3 _ ih=>rw [lookupAlong_cons]; refine wpAny_bind (wpAny_classOwn_cls a1 a2 ?_); rw [a3 n hn]; exact ih
variable {nm q : Str} {C N : Addr} {bs bm bm0 : List Value} {hdct : Bool} {sn : List Str} {sub : List Value} {ab : Bool} {col : Option Bool} {dd : Option Addr} {k0 k1 k2 k3 k5 : Option Value} {B newId : String} {ns : List Str}
theorem zfj {mN : Str -> Option Value} {n : Str} {y : Option Value} {Q : Option Value -> Shared -> Prop} (hn : n ∈ ns) (hC : h.get? C = some (excClassObj nm q C N bs bm hdct sn sub ab col dd k0 k1 k2 k3 k5 newId)) (hN : h.Ns N mN) (T : TailN h bm0 ns bm)
  (hbm : mroOf (.type B) = pure bm0) (hB : typeLookup (.type B) n = pure y) (hz : mN n = none) (hq : Q y ⟨h,g,d,t,os⟩) : wpAny M A (typeLookup (.ref C) n) Q E ⟨h,g,d,t,os⟩:=by
 have hr : lookupAlong bm0 n = pure y:=by rw [typeLookup_eq,hbm] at hB; exact hB
 rw [typeLookup_eq]
 refine wpAny_bind (wpAny_mroOf_exc hC ?_)
 rw [lookupAlong_cons]
 refine wpAny_bind (wpAny_classOwn_exc hC hN ?_)
 rw [hz]
 exact zhz hn T hr hq
end
section
variable {prog : Program} {w : World} {A : Around} {E : Value -> Shared -> Prop} {h : Heap} {g : Array GenState} {d : Drawn} {t : Nat} {os : OsState}
variable {nm q : Str} {C N : Addr} {bs bm bm0 : List Value} {hdct : Bool} {sn : List Str} {sub : List Value} {ab : Bool} {col : Option Bool} {dd : Option Addr} {k0 k1 k2 k3 k5 : Option Value} {B newId initId : String}
abbrev newX (h : Heap) (C : Addr) (rest : List Value) : Heap:=(h.push { cls:=.type "tuple",data:=.seq rest.toArray }).push { cls:=.ref C,data:=.fields #[.ref h.objs.size,.none,.none,.none,.bool false,.none] }
theorem zgA (F : ExcBaseFacts B newId initId bm0) (T : OwnTail h bm0 bm) {mN : Str -> Option Value} {rest : List Value} {fI : Addr} {oI : Obj} {Q : Fin -> Shared -> Prop}
  (hC : h.get? C = some (excClassObj nm q C N bs bm hdct sn sub ab col dd k0 k1 k2 k3 k5 newId)) (hn : h.Ns N mN) (hi : mN "__init__" = some (.ref fI)) (hfI : h.get? fI = some oI) (hfc : oI.cls = .type "function") (hrest : rest.length <= sizeLine)
  (hq : ∀ h' e,Heap.MadeExcOf h h' e (.ref C) rest -> wpAny (model prog w) A (call (.ref fI) (.ref e :: rest)) (fun r s' => r = .none /\ Q (.done (.ret (.ref e))) s') E ⟨h',g,d,t,os⟩) :
  wpAny (model prog w) A (Builtin.«type.__call__» ⟨.ref C :: rest,[]⟩) Q E ⟨h,g,d,t,os⟩:=by
 have kp : ∀ b o,h.get? b = some o -> (newX h C rest).get? b = some o:=fun b o e=>Heap.get?_push_of_some _ (Heap.get?_push_of_some _ e)
 have hget : (newX h C rest).get? (h.objs.size + 1) = some { cls:=.ref C,data:=.fields #[.ref h.objs.size,.none,.none,.none,.bool false,.none] }:=by heap_get
 have hcC : (Value.ref C :: bm).contains (.ref C) = true:=by simp
 have c1:=kp _ _ hC
 repeat (first | with_reducible refine wpAny_loadPart_at hC ?_ | with_reducible refine wpAny_madeBy_exc hC ?_ | wp_step)
 refine codeAny_call_builtin_code (Code.quiet_builtin _ F.quiet) (wpAny_check_new_subT F T hC (codeAny_exc_new_subT F T hC ?_ hrest))
 show wpAny _ _ _ _ _ _
 unfold isInstance
 repeat (first | with_reducible refine wpAny_loadPart_at hget ?_ | (with_reducible refine wpAny_isSubtype_exc c1 ?_; rw [hcC]) | wp_step)
 show wpAny _ _ (typeLookup (.ref C) _) _ _ _
 refine wpAny_typeLookup_tail c1 (hn.keeps kp) (T.keeps kp) F.mroIs F.init.lookup ?_
 rw [hi]
 refine wpAny_holding (wpAny_bind ?_)
 unfold bindSpecial
 refine wpAny_bind (wpAny_typeOf (T := "function") ⟨_,kp _ _ hfI,hfc⟩ ?_)
 rw [if_pos (by decide)]
 refine wpAny_pure (wpAny_bind (wpAny_mono (hq (newX h C rest) (h.objs.size + 1) ⟨kp,Heap.get?_none_of_le (Nat.le_succ _),h.objs.size,hget,Heap.get?_none_of_le (Nat.le_refl _),Heap.get?_push_of_some _ (Heap.get?_push_at rfl rfl)⟩) (fun r s' hr=>?_) fun _ _ x=>x))
 obtain ⟨rfl,hQ⟩:=hr
 wp_walk
 exact hQ
theorem zhA (F : ExcBaseFacts B newId initId bm0) (T : OwnTail h bm0 bm) {mN : Str -> Option Value} {rest : List Value} {fI : Addr} {oI : Obj} {Q : Value -> Shared -> Prop}
  (hC : h.get? C = some (excClassObj nm q C N bs bm hdct sn sub ab col dd k0 k1 k2 k3 k5 newId)) (hn : h.Ns N mN) (hi : mN "__init__" = some (.ref fI)) (hfI : h.get? fI = some oI) (hfc : oI.cls = .type "function") (hrest : rest.length <= sizeLine)
  (hq : ∀ h' e,Heap.MadeExcOf h h' e (.ref C) rest -> wpAny (model prog w) (A.under (.builtin "type.__call__" ⟨.ref C :: rest,[]⟩)) (call (.ref fI) (.ref e :: rest)) (fun r s' => r = .none /\ Q (.ref e) s') E ⟨h',g,d,t,os⟩) :
  wpAny (model prog w) A (call (.ref C) rest) Q E ⟨h,g,d,t,os⟩:=by
 have f1:=tc_lookup
 have f2:=tc_bind (.ref C)
 have hT : (⟨h,g,d,t,os⟩ : Shared).TypeIs (.ref C) "type" := ⟨_,hC,rfl⟩
 refine wpAny_call (codeAny_of_tree ?_)
 show wpAny _ _ (callAny (.ref C) _) _ _ _
 repeat (any_goals (first | assumption | with_reducible refine wpAny_loadPart_at hC ?_ | wp_step))
 exact ⟨rfl,codeAny_call_builtin_at (Code.quiet_builtin _ (by decide +kernel)) entry_typeCall (wpAny_check_type_call_sub hC (zgA F T hC hn hi hfI hfc hrest fun h' e hm=>hq h' e hm))⟩
end
section
open Builtin Builtin.ObjectAttr
variable {prog : Program} {w : World} {A : Around} {E : Value -> Shared -> Prop} {h : Heap} {g : Array GenState} {d : Drawn} {t : Nat} {os : OsState}
variable {nm q : Str} {C N x : Addr} {bs bm bm0 : List Value} {sn : List Str} {sub : List Value} {ab : Bool} {col : Option Bool} {dd : Option Addr} {k0 k1 k2 k3 k5 : Option Value} {B newId sa owner : String} {mN : Str -> Option Value} {name : Str} {v : Value} {ns : List Str} {o : Obj} {vs : Array Value}
theorem ziI {bm1 : List Value} (self : Value) (T : TailN h bm1 ns bm) (what : Str) (hp : refuseLoop self what bm1 = pure ()) : refuseLoop self what bm = pure ():=by
 induction T with
 | base=>exact hp
 | own _ _ _ _ ih=>rw [refuseLoop_ref]; exact ih
theorem zgB {tk : Tok} {Q : Fin -> Shared -> Prop} (SF : StoreFacts B bm0 sa owner) (hC : h.get? C = some (excClassObj nm q C N bs bm true sn sub ab col dd k0 k1 k2 k3 k5 newId)) (hn : h.Ns N mN) (T : TailN h bm0 ns bm) (hm : name ∈ ns) (hna : mN name = none)
  (hB : typeLookup (.type B) name = pure none) (hx : h.get? x = some o) (hc : o.cls = .ref C) (hd : o.data = .fields vs) (hdn : o.dict = none)
  (hq : ∀ h' tk' dx,h.objs.size <= dx -> dx ≠ x -> h'.get? x = some { o with dict:=some dx } -> h'.Ns1 dx (fun y=>if y = name then some v else none) -> (∀ b ob,b ≠ x -> h.get? b = some ob -> h'.get? b = some ob) -> Q (.done (.ret .none)) ⟨h',g,d,tk',os⟩) :
  wpAny (model prog w) A (Builtin.«object.__setattr__» ⟨[.ref x,.str name tk,v],[]⟩) Q E ⟨h,g,d,t,os⟩:=by
 have hpass:=ziI (.ref x) T "__setattr__" (SF.passes (.ref x))
 unfold Builtin.«object.__setattr__»
 repeat (first | rw [refuse_eq] | (rw [refuseLoop_ref,hpass]) | (with_reducible refine wpAny_loadPart_at hx ?_; rw [hc]) | with_reducible refine wpAny_mroOf_exc hC ?_ | (with_reducible refine zfj hm hC hn T SF.mro hB hna ?_) | wp_step)
 rw [hdn,if_neg (by simp [typeHasDict])]
 split
 ·rename_i hcd; cases hcd
 split
 ·rename_i c hcd; rw [hd] at hcd; cases hcd
 have hx1 : (h.push { cls:=.type "dict",data:=.dict #[] }).get? x = some o:=Heap.get?_push_of_some _ hx
 have hxs : x ≠ h.objs.size:=Nat.ne_of_lt (Heap.lt_size hx)
 refine wpAny_bind (wpAny_alloc' (wpAny_bind (wpAny_update' hx1 (wpAny_pure ?_))))
 have hgd : ((h.push { cls:=.type "dict",data:=.dict #[] }).update x fun o=>{ cls:=o.cls,dict:=some h.objs.size,data:=o.data,slots:=o.slots }).get? h.objs.size = some { cls:=.type "dict",data:=.dict #[] } :=
  (Heap.get?_update_ne _ _ _ _ hxs.symm).trans (Heap.get?_push_at rfl rfl)
 have hnd : ((h.push { cls:=.type "dict",data:=.dict #[] }).update x fun o=>{ cls:=o.cls,dict:=some h.objs.size,data:=o.data,slots:=o.slots }).Ns h.objs.size (fun _=>none) :=
  ⟨_,#[],_,hgd,rfl,fun e he=>absurd he (by simp),fun _=>rfl⟩
 show wpAny _ _ (storeInDict h.objs.size (.str name tk) name v) _ _ _
 unfold storeInDict newKeyGuard
 refine wpAny_bind (wpAny_pure (wpAny_bind (wpAny_nsSet1 (Heap.Ns1.of_empty hnd) fun h' hn' hs=>?_)))
 obtain ⟨oD,esD,epD,hoD,hdD,hcD⟩:=hn'.count (Within.cons name v Within.nil)
 refine wpAny_bind (wpAny_lookBehind hoD (by rw [hdD]; exact pastItsLine_dict (Nat.le_trans hcD (by rw [List.length_cons,List.length_nil,sizeLine_eq]; omega))) ?_)
 wp_walk
 refine hq h' _ h.objs.size (Nat.le_refl _) hxs.symm ?_ hn' fun b ob hbx hb=>(hs.2 b (Nat.ne_of_lt (Heap.lt_size hb))).trans ((Heap.get?_update_ne _ _ _ _ hbx).trans (Heap.get?_push_of_some _ hb))
 refine (hs.2 x hxs).trans (Heap.get?_update_self _ hx1 ?_)
 have hfr:=(Heap.get?_some_iff.mp hx).2
 obtain ⟨oc,od,odt,osl⟩:=o
 cases odt<;>first | rfl | exact hfr
theorem zgC {M : Model} {nv : Value} {Q : Unit -> Shared -> Prop} (SF : StoreFacts B bm0 sa owner) (hC : h.get? C = some (excClassObj nm q C N bs bm true sn sub ab col dd k0 k1 k2 k3 k5 newId)) (T : TailN h bm0 ns bm) (hi : ("__init__" : Str) ∈ ns) (hx : h.get? x = some o) (hc : o.cls = .ref C) (hq : Q () ⟨h,g,d,t,os⟩) :
  wpAny M A (checkBuiltinCall sa ⟨[.ref x,nv,v],[]⟩) Q E ⟨h,g,d,t,os⟩:=by
 have hcB : (Value.ref C :: bm).contains (.type owner) = true:=by rw [List.contains_cons,(T.old hi).hasType SF.hasOwner,Bool.or_true]
 have ha:=SF.args (.ref x) nv v
 simp only [checkBuiltinCall,SF.kind,SF.split]
 refine wpAny_bind ?_
 unfold isInstance
 repeat (first | (with_reducible refine wpAny_loadPart_at hx ?_; rw [hc]) | (with_reducible refine wpAny_isSubtype_exc hC ?_; rw [hcB]) | wp_step)
 cases hsig : Manifest.signature? sa with
 | none=>exact wpAny_pure hq
 | some sig =>
  simp only [argsOk,hsig] at ha
  show wpAny M A (Bind.checkArgs sa sig ⟨[.ref x,nv,v],[]⟩) Q E _
  rw [show Bind.checkArgs sa sig ⟨[.ref x,nv,v],[]⟩ = pure () from ha]; exact wpAny_pure hq
theorem zhB {Q : Unit -> Shared -> Prop} (SF : StoreFacts B bm0 sa owner) (hC : h.get? C = some (excClassObj nm q C N bs bm true sn sub ab col dd k0 k1 k2 k3 k5 newId)) (hn : h.Ns N mN) (T : TailN h bm0 ns bm) (hi : ("__init__" : Str) ∈ ns) (hms : ("__setattr__" : Str) ∈ ns) (hm : name ∈ ns) (hns : mN "__setattr__" = none) (hna : mN name = none)
  (hB : typeLookup (.type B) name = pure none) (hx : h.get? x = some o) (hc : o.cls = .ref C) (hd : o.data = .fields vs) (hdn : o.dict = none)
  (hq : ∀ h' tk' dx,h.objs.size <= dx -> dx ≠ x -> h'.get? x = some { o with dict:=some dx } -> h'.Ns1 dx (fun y=>if y = name then some v else none) -> (∀ b ob,b ≠ x -> h.get? b = some ob -> h'.get? b = some ob) -> Q () ⟨h',g,d,tk',os⟩) :
  wpAny (model prog w) A (setAttr (.ref x) name v) Q E ⟨h,g,d,t,os⟩:=by
 have f3:=SF.slot.bind (.ref x)
 unfold setAttr callSpecial? specialOf
 repeat (any_goals (first | assumption | (with_reducible refine wpAny_loadPart_at hx ?_; rw [hc]) | (with_reducible refine zfj hms hC hn T SF.mro SF.slot.lookup hns ?_) | wp_step))
 refine codeAny_call_builtin SF.slot.plain SF.entry (zgC SF hC T hi hx hc (zgB SF hC hn T hm hna hB hx hc hd hdn fun h' tk' dx z1 z2 z3 z4 z5=>?_))
 repeat (any_goals (first | assumption | wp_step))
 exact hq h' tk' dx z1 z2 z3 z4 z5
end
section
open Builtin Builtin.ObjectAttr
variable {prog : Program} {w : World} {A : Around} {E : Value -> Shared -> Prop} {h : Heap} {g : Array GenState} {d : Drawn} {t : Nat} {os : OsState}
variable {nm q : Str} {C N x dx : Addr} {bs bm bm0 : List Value} {sn : List Str} {sub : List Value} {ab : Bool} {col : Option Bool} {dd : Option Addr} {k0 k1 k2 k3 k5 : Option Value} {B newId : String} {mN mA : Str -> Option Value} {name : Str} {v : Value} {ns : List Str} {o : Obj} {vs : Array Value}
end
end L2
namespace L2
open PySem PySem.Spec PyProof.Rows
abbrev bmVE : List Value:=[.type "ValueError",.type "Exception",.type "BaseException",.type "object"]
abbrev nmsX (f : Str) : List Str:=["__init__", "__setattr__", "__getattribute__", "__getattr__",f]
structure IniC (C fI : Addr) (f : Str) (h : Heap) : Prop where
 obj : ∃ tl N nm q bs sn sub ab col dd k0 k1 k2 k3 k5 mN,h.get? C = some (excClassObj nm q C N bs tl true sn sub ab col dd k0 k1 k2 k3 k5 "ValueError.__new__") /\ h.Ns N mN /\ mN "__init__" = some (.ref fI) /\ (∀ n ∈ nmsX f,n ≠ "__init__" -> mN n = none) /\ TailN h bmVE (nmsX f) tl
 fn : ∃ oI,h.get? fI = some oI /\ oI.cls = .type "function"
 nof : typeLookup (.type "ValueError") f = pure none
 fne : f ≠ "__init__"
theorem IniC.up {C fI : Addr} {f : Str} {h h' : Heap} (Z : IniC C fI f h) (k : ∀ b o,h.get? b = some o -> h'.get? b = some o) : IniC C fI f h' := by
 obtain ⟨tl,N,nm,q,bs,sn,sub,ab,col,dd,k0,k1,k2,k3,k5,mN,a1,a2,a3,a4,a5⟩:=Z.obj
 obtain ⟨oI,b1,b2⟩:=Z.fn
 exact ⟨⟨tl,N,nm,q,bs,sn,sub,ab,col,dd,k0,k1,k2,k3,k5,mN,k _ _ a1,a2.keeps k,a3,a4,a5.up k⟩,⟨oI,k _ _ b1,b2⟩,Z.nof,Z.fne⟩
def excN (a : Addr) (cls : Value) : HO:=.ext fun h=>∃ ob vs a0,h.get? a = some ob /\ ob.cls = cls /\ ob.dict = none /\ ob.data = .fields vs /\ vs[0]? = some a0 /\ vs[1]? = some .none
def excD (a : Addr) (cls : Value) (dx : Addr) : HO:=.ext fun h=>∃ ob vs a0,h.get? a = some ob /\ ob.cls = cls /\ ob.dict = some dx /\ ob.data = .fields vs /\ vs[0]? = some a0 /\ vs[1]? = some .none
abbrev HpD (H : Hp) (a : Addr) (cls : Value) (dx : Addr) (f : Str) (v : V) : Hp:=upd (upd H dx (.xd [(f,v)])) a (excD a cls dx)
section
variable {X : Cx} {pins : List (Addr × Obj)} {σ : St} {H H' : Hp} {s : Shared}
theorem Inv.forget (I : Inv X pins σ H' s) (hH : ∀ b,H b = H' b \/ (H b = none /\ ((∃ φ,H' b = some (.ext φ)) \/ ∃ fs,H' b = some (.xd fs)))) : Inv X pins σ H s:=by
 have non : ∀ b,H' b = none -> H b = none:=fun b e=>(hH b).elim (fun z=>z.trans e) fun z=>z.1
 refine ⟨I.ok,I.os,I.bare,⟨I.base.keep,I.base.slot,fun b o e n hx=>non b (I.base.free b o e n hx),I.base.there,fun b xs e=>?_,fun b o u e=>?_,fun b ps e=>?_⟩,I.loc,I.cell,non _ I.free,fun x c e=>non _ (I.freeC x c e),fun p hp=>?_,fun b u e=>?_,I.len⟩
 ·have q:=I.base.tups b xs e
  rcases hH b with z | ⟨_,⟨φ,z⟩ | ⟨fs,z⟩⟩
  ·rw [z,q]
  ·rw [q] at z; cases z
  ·rw [q] at z; cases z
 ·have q:=I.base.frzs b o u e
  rcases hH b with z | ⟨_,⟨φ,z⟩ | ⟨fs,z⟩⟩
  ·rw [z,q]
  ·rw [q] at z; cases z
  ·rw [q] at z; cases z
 ·obtain ⟨more,q⟩:=I.base.tbls b ps e
  rcases hH b with z | ⟨_,⟨φ,z⟩ | ⟨fs,z⟩⟩
  ·exact ⟨more,by rw [z,q]⟩
  ·rw [q] at z; cases z
  ·rw [q] at z; cases z
 ·obtain ⟨e,n,r⟩:=I.pin p hp
  exact ⟨e,non _ n,r⟩
 ·have q : H' b = some u:=by
   rcases hH b with z | z
   ·rw [<- z,e]
   ·rw [e] at z; cases z.1
  refine (I.hok b u q).stay (fun c v _ z=>z) (fun c z=>?_) fun c xs z=>?_
  ·rcases hH c with y | ⟨_,⟨φ,y⟩ | ⟨fs,y⟩⟩
   ·rw [y,z]
   ·rw [z] at y; cases y
   ·rw [z] at y; cases y
  ·rcases hH c with y | ⟨_,⟨φ,y⟩ | ⟨fs,y⟩⟩
   ·rw [y,z]
   ·rw [z] at y; cases y
   ·rw [z] at y; cases y
theorem Inv.putX {h' : Heap} {a dx : Addr} {cls : Value} {f : Str} {y : V} {u : Value} {t' : Nat} {o : Obj} {vs : Array Value} {a0 : Value} (I : Inv X pins σ H s) (e : H a = some (excN a cls)) (ry : RelV y u) (hc : o.cls = cls) (hd : o.data = .fields vs) (h0 : vs[0]? = some a0) (h1 : vs[1]? = some .none)
  (z1 : s.heap.objs.size <= dx) (z2 : dx ≠ a) (z3 : h'.get? a = some { o with dict:=some dx }) (z4 : h'.Ns1 dx (fun g=>if g = f then some u else none)) (z5 : ∀ b ob,b ≠ a -> s.heap.get? b = some ob -> h'.get? b = some ob) : Inv X pins σ (HpD H a cls dx f y) { s with heap:=h',toks:=t' }:=by
 have fr : H dx = none:=I.hok.fresh z1
 have lt : ∀ b o,s.heap.get? b = some o -> b ≠ dx:=fun b o q z=>absurd (Heap.lt_size q) (by rw [z]; exact Nat.not_lt_of_le z1)
 have ne : ∀ b,H b = none -> b ≠ a:=fun b q z=>by rw [z,e] at q; cases q
 have at_ : ∀ b u,H b = some u -> b ≠ a -> HpD H a cls dx f y b = some u:=fun b u q n=>by
  show upd (upd H dx _) a _ b = _
  rw [yal n,yal (zaj q fr)]; exact q
 refine I.un (h' := h') (t' := t') ⟨fun b o q n _ _=>z5 b o (ne b n) q,fun b o q n _ _=>⟨o.slots,z5 b o (ne b n) q⟩,fun b o q n _=>?_,fun b o q _=>?_,fun b xs q=>?_,fun b o u q=>?_,fun b ps q=>⟨#[],?_⟩⟩ fun b w q=>?_
 ·show upd (upd H dx _) a _ b = _
  rw [yal (ne b n),yal (lt b o q)]; exact n
 ·by_cases hb : b = a
  ·exact ⟨_,by rw [hb]; exact z3⟩
  ·exact ⟨o,z5 b o hb q⟩
 ·exact at_ b _ q fun z=>by rw [z,e] at q; cases q
 ·exact at_ b _ q fun z=>by rw [z,e] at q; cases q
 ·rw [Array.append_empty]; exact at_ b _ q fun z=>by rw [z,e] at q; cases q
 ·have q' : upd (upd H dx (.xd [(f,y)])) a (excD a cls dx) b = some w:=q
  by_cases hb : b = a
  ·subst hb
   rw [zaf] at q'; cases q'
   exact ⟨⟨_,vs,a0,z3,hc,rfl,hd,h0,h1⟩,⟨_,z3⟩,fun g1 g2 ⟨ob,ws,b0,y1,y2⟩ k=>⟨ob,ws,b0,k ob y1,y2⟩⟩
  ·rw [yal hb] at q'
   by_cases hb2 : b = dx
   ·subst hb2
    rw [zaf] at q'; cases q'
    refine ⟨_,z4,fun g=>?_⟩
    show RelO (List.lookup g [(f,y)]) (if g = f then some u else none)
    by_cases hg : g = f
    ·subst hg; rw [if_pos rfl,List.lookup_cons_self]; exact ry
    ·rw [if_neg hg,List.lookup_cons,show (g == f) = false from beq_eq_false_iff_ne.mpr hg]; exact trivial
   ·rw [yal hb2] at q'
    refine (I.hok b w q').stay (fun c v hc2 z=>?_) (fun c z=>at_ c _ z fun z' => by rw [z',e] at z; cases z) fun c xs z=>at_ c _ z fun z' => by rw [z',e] at z; cases z
    refine z5 c v (fun z' => ?_) z
    rcases hc2 with z6 | z6
    ·exact hb (z6.symm.trans z')
    ·rw [z',e] at z6; cases z6
end
section
variable {X : Cx} {o value : Expr} {f : Str} {pos pos' : Pos} {ta tv : TE} {C fI : Addr}
def yic (C : Addr) (f : Str) (ta tv : TE) : TS:=fun D σ H=>tv σ H fun y H1=>ta σ H1 fun x H2=>∃ a,x = .ref a /\ H2 a = some (excN a (.ref C)) /\ ∀ dx,H2 dx = none -> dx ≠ a -> D.nx σ (HpD H2 a (.ref C) dx f y)
theorem ziJ (Z : IniC C fI f X.base) (ha : PE X o ta) (hv : PE X value tv) (hs : swapsWith value (some (.Attribute o f pos')) pos.line X.env = pure false) : PS X (.Assign [.Attribute o f pos'] value pos) (yic C f ta tv):=by
 intro pins s σ H D I h
 refine plainObj_wpAny_Assign_Attribute (thn (hv pins s σ H _ I h) fun u s1 ⟨y,H1,I1,ry,q⟩=>thn (ha pins s1 σ H1 _ I1 q) fun ov s2 ⟨x,H2,I2,rx,a,ex,ea,q2⟩=>?_) hs
 subst ex
 obtain rfl : ov = Value.ref a:=rx
 obtain ⟨⟨ob,vs,a0,e1,e2,e3,e4,e5,e6⟩,_,_⟩:=I2.hok a _ ea
 obtain ⟨tl,N,nm,q',bs,sn,sub,ab,col,dd,k0,k1,k2,k3,k5,mN,a1,a2,a3,a4,a5⟩:=(Z.up I2.bk).obj
 obtain ⟨hp,g,d,t,os⟩:=s2
 have m1 : ("__init__" : Str) ∈ nmsX f:=.head _
 have m2 : ("__setattr__" : Str) ∈ nmsX f:=.tail _ (.head _)
 have m3 : f ∈ nmsX f:=.tail _ (.tail _ (.tail _ (.tail _ (.head _))))
 refine zhB PySem.F.store_ValueError a1 a2 a5 m1 m2 m3 (a4 _ m2 (by decide)) (a4 _ m3 Z.fne) Z.nof e1 e2 e4 e3 fun h' tk' dx z1 z2 z3 z4 z5=>?_
 exact ⟨σ,_,I2.putX ea ry e2 e4 e5 e6 z1 z2 z3 z4 z5,q2 dx (I2.hok.fresh z1) z2⟩
def yet (C : Addr) (f : Str) : Sp:=fun vs H Q _=>∃ a v,vs = [.ref a,v] /\ H a = some (excN a (.ref C)) /\ ∀ dx,H dx = none -> dx ≠ a -> Q .non (HpD H a (.ref C) dx f v)
theorem yg4 {P : Program} {w : World} {K : PySem.W.Frag} {mg : Str -> Option Value} {base : Heap} {st : Stmt} {qual r : Str} {fd : FuncData} {p1 p2 p3 p4 : Pos} (F : Fun K "__init__" qual st fI fd) (S : FnScope ["self",r] ["self",r] (yad st)) (hb : ybf st = [.Assign [.Attribute (.Name "self" p1) f p2] (.Name r p3) p4])
  (hv0 : Vis (yad st) "self") (hv1 : Vis (yad st) r) (hs : ∀ env,swapsWith (.Name r p3) (some (.Attribute (.Name "self" p1) f p2)) p4.line env = pure false) (hr : (r == ("__debug__" : Str)) = false) (hr2 : (r == ("__classdict__" : Str)) = false) (Z : IniC C fI f base) : FnOk P w K mg base (CXE P w) 1 fI fd ["self",r] (yet C f) :=
 F.okE S (fun vs H Q E ⟨_,_,e,_⟩=>by rw [e]; rfl) fun cdv A outer s H vs Q E _ ⟨a,v,e,ea,q⟩=>⟨_,by rw [hb]; exact zeW (ziJ (C:=C) (fI:=fI) Z (pv 0 rfl hv0) (pv 1 rfl hv1 hr hr2) (hs _)),by subst e; exact ⟨_,rfl,_,rfl,a,rfl,ea,q⟩⟩
end
section
variable {X : Cx} {e : Expr} {f x r : Str} {p pos : Pos} {t : TA} {C fI : Addr} {k : Nat} {fd : FuncData}
theorem zhC {T : V -> Hp -> Prop} {pins : List (Addr × Obj)} {σ : St} {H : Hp} {s : Shared} (Z : IniC C fI f X.base) (G : FnOk X.prog X.w X.K X.mg X.base (CXE X.prog X.w) k fI fd ["self",r] (yet C f)) (hb : Binds X.K fd ["self",r] []) (hr : Room (k + 1) X.A) (hg : Gl X x) (hm : X.mg x = some (.ref C))
  (hk : PySem.W.keepIn X.K (.ref C) = true) (hex : X.ex = []) (ha : PA X [e] t) (I : Inv X pins σ H s) (h : t σ H fun vs H1=>∃ v,vs = [v] /\ T v H1) (hdb : (x == ("__debug__" : Str)) = false) (he : starEach [e] X.env = (false,eval e X.env) :: starEach [] X.env) :
  wpAny (model X.prog X.w) X.A (eval (.Call (.Name x p) [e] [] pos) X.env) (fun r s' => ∃ a v u dx H1,r = .ref a /\ Arr X pins σ H1 a (.ref C) s' /\ RelV v u /\ (∃ ob vs,s'.heap.get? a = some ob /\ ob.cls = .ref C /\ ob.data = .fields vs /\ vs[1]? = some .none /\ ob.dict = some dx) /\ (∃ mA,s'.heap.Ns1 dx mA /\ mA f = some u) /\ T v H1) X.xe s:=by
 refine wpAny_Call_Name_kw (zaT I hg hm ?_ hdb)
 refine PySem.W.callWith_K (h₀:=X.base) I.ok.mod.kin hk (thn (ha pos pins s σ H _ I h) fun us s1 ⟨vs,H1,I1,rv,v,ev,q⟩=>⟨I1.kIn,?_⟩) he rfl
 subst ev
 obtain ⟨u,rfl,ru⟩ : ∃ u,us = [u] /\ RelV v u:=by
  cases rv with
  | cons a b=>cases b; exact ⟨_,rfl,a⟩
 have Z1:=Z.up I1.bk
 obtain ⟨tl,N,nm,q',bs,sn,sub,ab,col,dd,k0,k1,k2,k3,k5,mN,a1,a2,a3,a4,a5⟩:=Z1.obj
 obtain ⟨oI,b1,b2⟩:=Z1.fn
 obtain ⟨hp,g,d,tk,os⟩:=s1
 refine zhA PySem.F.excBase_ValueError (a5.old (.head _)) a1 a2 a3 b1 b2 (by rw [sizeLine_eq]; simp) fun h' a hx=>?_
 have R:=zee (t' := tk) I1 hex hx
 obtain ⟨t0,t1,t2,t3⟩:=hx.there
 have I2 : Inv X pins σ (upd H1 a (excN a (.ref C))) ⟨h',g,d,tk,os⟩:=R.inv.adopt0 R.un R.new R.nl R.nc R.np ⟨⟨_,_,_,t1,rfl,rfl,rfl,rfl,rfl⟩,⟨_,t1⟩,fun g1 g2 ⟨ob,ws,b0,y1,y2⟩ k=>⟨ob,ws,b0,k ob y1,y2⟩⟩
 have r2 : Vals [V.ref a,v] [Value.ref a,u]:=.cons rfl (.cons ru .nil)
 refine wpAny_call (codeAny_mono (G.run _ X.stack _ _ ⟨[Value.ref a,u],[]⟩ [Value.ref a,u] _ (fun z H3=>z = .non /\ ∃ dx,upd H1 a (excN a (.ref C)) dx = none /\ dx ≠ a /\ H3 = HpD (upd H1 a (excN a (.ref C))) a (.ref C) dx f v) E0 (hr.make C [u] []) (I2.env0.make C [u] [])
  (by have:=hb ⟨h',g,d,tk,os⟩ [Value.ref a,u] I2.kIn rfl; exact this) r2 ⟨a,v,rfl,zaf,fun dx z1 z2=>⟨rfl,dx,z1,z2,rfl⟩⟩) fun r s' hq=>?_)
 cases r with
 | error e=>exact ygS (X:=X) pins σ _ _ e s' I2 hq
 | ok fl =>
  cases fl with
  | next=>exact False.elim hq
  | brk=>exact False.elim hq
  | cont=>exact False.elim hq
  | ret w =>
   obtain ⟨z,H3,I3,rz,ez,dx,n1,n2,e3⟩:=I2.after hq
   subst ez
   obtain rfl : w = Value.none:=rz
   have ndx : H1 dx = none:=by rwa [yal n2] at n1
   have x1 : H3 a = some (excD a (.ref C) dx):=by rw [e3]; exact zaf
   have x2 : H3 dx = some (.xd [(f,v)]):=by rw [e3]; show upd (upd _ dx _) a _ dx = _; rw [yal n2,zaf]
   have I4 : Inv X pins σ H1 s' := I3.forget fun b=>by
    by_cases h1 : b = a
    ·subst h1; exact .inr ⟨R.un,.inl ⟨_,x1⟩⟩
    ·by_cases h2 : b = dx
     ·subst h2; exact .inr ⟨ndx,.inr ⟨_,x2⟩⟩
     ·left; rw [e3]; show _ = upd (upd (upd H1 a _) dx _) a _ b
      rw [yal h1,yal h2,yal h1]
   obtain ⟨⟨ob,vs,a0,o1,o2,o3,o4,o5,o6⟩,_,_⟩:=I3.hok a _ x1
   obtain ⟨mA,m1,m2⟩:=I3.hok dx _ x2
   obtain ⟨u',e4,ru'⟩:=RelO.some_of (v:=v) (o:=mA f) (by have:=m2 f; rwa [List.lookup_cons_self] at this)
   refine ⟨rfl,a,v,u',dx,H1,rfl,⟨I4,R.un,R.new,R.nl,R.nc,R.np,PySem.W.hideAll s'.heap (a :: frs X.stack),a0,fun b o q nb alt=>PySem.W.hideAll_get _ q (fun z=>?_),fun b o q=>PySem.W.of_hideAll _ q,?_,?_,.inl ⟨ob,vs,o1,o2,o4,o5,o6⟩⟩,ru',⟨ob,vs,o1,o2,o4,o6,o3⟩,⟨mA,m1,e4⟩,q⟩
   ·rcases List.mem_cons.mp z with z | z
    ·subst z
     rcases alt with ⟨u,q'⟩ | ⟨o',q'⟩ | ⟨p,hp,z⟩
     ·rw [R.un] at q'; cases q'
     ·rw [R.new] at q'; cases q'
     ·exact R.np p hp z
    ·exact nb z
   ·exact PySem.W.hideAll_none _ (List.mem_cons_self)
   ·exact PySem.W.funFrames_hide I4.stack fun env henv b hb=>List.mem_cons_of_mem _ (List.mem_filterMap.mpr ⟨env,henv,hb⟩)
section
variable {M : Model} {A : Around} {E : Value -> Shared -> Prop} {env : Env} {nm q : Str} {N : Addr} {bs bm : List Value} {hdct : Bool} {sn : List Str} {sub : List Value} {ab : Bool} {col : Option Bool} {dd : Option Addr} {k0 k1 k2 k3 k5 : Option Value} {newId : String}
theorem zfS {s : Shared} {y : Sem Value} {Q : Flow -> Shared -> Prop} (hh : A.handled = none)
  (h : wpAny M A y (fun v s₁=>∃ a ob bm,v = .ref a /\ bm.contains (.type "BaseException") = true /\ (∃ nm q N bs hdct sn sub ab col dd k0 k1 k2 k3 k5 newId,s₁.heap.get? C = some (excClassObj nm q C N bs bm hdct sn sub ab col dd k0 k1 k2 k3 k5 newId)) /\ s₁.heap.get? a = some ob /\ ob.cls = .ref C /\ (∃ vs,ob.data = .fields vs /\ vs[1]? = some .none) /\ E (.ref a) s₁) E s) :
  wpAny M A (raiseStmt env (some y) none) Q E s:=by
 unfold raiseStmt
 refine wpAny_bind (wpAny_mono h (fun v s₁ h₁=>?_) fun _ _ x=>x)
 obtain ⟨a,ob,bm,rfl,hbase,⟨nm,q,N,bs,hdct,sn,sub,ab,col,dd,k0,k1,k2,k3,k5,newId,hC⟩,he,hc,⟨vs,hd,hv1⟩,hE⟩:=h₁
 have hcB : (Value.ref C :: bm).contains (.type "BaseException") = true:=by rw [List.contains_cons,hbase,Bool.or_true]
 obtain ⟨hp,g,d,tk,os⟩:=s₁
 repeat (first | (with_reducible refine wpAny_loadPart_at he ?_; rw [hc]) | with_reducible refine wpAny_loadPart_at hC ?_ | (with_reducible refine wpAny_isSubtype_exc hC ?_; rw [hcB]) | rw [hd] | rw [hv1] | wp_step)
 exact wpAny_raiseNew_none hh hE
end
def ygf (cls : Value) (Ex : St -> XK) (t : TA) : TS:=fun _ σ H=>t σ H fun vs H1=>∃ v,vs = [v] /\ Ex σ cls none H1
theorem zgD {np : Pos} {Ex : St -> XK} (Z : IniC C fI f X.base) (G : FnOk X.prog X.w X.K X.mg X.base (CXE X.prog X.w) k fI fd ["self",r] (yet C f)) (hb : Binds X.K fd ["self",r] []) (hr : Room (k + 1) X.A) (hg : Gl X x) (hm : X.mg x = some (.ref C))
  (hk : PySem.W.keepIn X.K (.ref C) = true) (hc : X.calm = true) (hex : X.ex = []) (hx : yb4 X Ex) (ha : PA X [e] t) (hdb : (x == ("__debug__" : Str)) = false:=by decide) (he : starEach [e] X.env = (false,eval e X.env) :: starEach [] X.env:=by rfl) :
  PS X (.Raise (some (.Call (.Name x np) [e] [] p)) none pos) (ygf (.ref C) Ex t):=by
 intro pins s σ H D I h
 rw [arm_exec_Raise]
 have go:=zhC (p:=np) (pos:=p) (T:=fun _ H1=>Ex σ (.ref C) none H1) Z G hb hr hg hm hk hex ha I h hdb he
 refine wpAny_bind (wpAny_standAt (zfS (C:=C) (I.ok.hd hc) ?_))
 refine wpAny_bind (wpAny_mono go (fun v s₃ h₃=>wpAny_bind (wpAny_standAt (wpAny_pure ?_))) fun _ _ z=>z)
 obtain ⟨a,v',u,dx,H1,e1,R,_,⟨ob,vs,o1,o2,o3,o5,_⟩,_,q⟩:=h₃
 have Z3:=Z.up R.inv.bk
 obtain ⟨tl,N,nm,q',bs,sn,sub,ab,col,dd,k0,k1,k2,k3,k5,mN,a1,a2,a3,a4,a5⟩:=Z3.obj
 exact ⟨a,ob,tl,e1,(a5.old (.head _)).hasType PySem.F.excBase_ValueError.hasBase,⟨nm,q',N,bs,true,sn,sub,ab,col,dd,k0,k1,k2,k3,k5,_,a1⟩,o1,o2,⟨vs,o3,o5⟩,hx pins σ H1 s₃ a _ R q⟩
end
def yeu (K : PySem.W.Frag) (N : Addr) (ns : List Str) : Bool:=PySem.W.nsOkIn K N && ns.all fun n=>PySem.W.nsIn K N n == some none
theorem yfu {K : PySem.W.Frag} {h : Heap} {N : Addr} {ns : List Str} (X : K.In h) (e : yeu K N ns = true) : ∀ n ∈ ns,h.nsMap N n = none:=by
 unfold yeu at e
 obtain ⟨e1,e2⟩:=Bool.and_eq_true_iff.mp e
 exact fun n hn=>PySem.W.nsMap_none_of_in X e1 (beq_iff_eq.mp (List.all_eq_true.mp e2 n hn))
def tlIn (K : PySem.W.Frag) (ns : List Str) : List Value -> Bool
 | []=>false
 | v :: r=>(v :: r) == bmVE || match v with
  | .ref A=>(match K.lookup A with
   | some ⟨_,_,.cls cd,_⟩=>yeu K cd.ns ns && tlIn K ns r
   | _=>false)
  | _=>false
theorem yf4 {K : PySem.W.Frag} {h : Heap} {ns : List Str} (X : K.In h) : ∀ {l : List Value},tlIn K ns l = true -> TailN h bmVE ns l
 | [],e=>by cases e
 | v :: r,e=>by
  unfold tlIn at e
  rcases Bool.or_eq_true_iff.mp e with q | q
  ·rw [beq_iff_eq.mp q]; exact .base
  ·split at q
   ·split at q
    ·rename_i ho
     obtain ⟨q1,q2⟩:=Bool.and_eq_true_iff.mp q
     exact .own (X _ _ ho) (.of_isNs (PySem.W.isNs_of_in X (Bool.and_eq_true_iff.mp q1).1)) (yfu X q1) (yf4 X q2)
    ·cases q
   ·cases q
theorem yg5 {K : PySem.W.Frag} {h : Heap} {N : Addr} {m : Str -> Option Value} {n : Str} {v : Value} (X : K.In h) (G : h.Ns N m) (e : PySem.W.nsIn K N n = some (some v)) : m n = some v:=by
 obtain ⟨o,es,ep,ho,hd,_,hf⟩:=G
 unfold PySem.W.nsIn at e
 split at e
 ·rename_i q
  have z:=X _ _ q
  rw [ho] at z; cases z; cases hd
  split at e
  ·rename_i en he
   cases e
   rw [<- hf]; unfold nsFind findBy
   rw [<- Array.find?_toList,he]; rfl
  ·split at e<;>cases e
 ·cases e
def yev (K : PySem.W.Frag) (C fI : Addr) (f : Str) : Bool:=match K.lookup C with
 | some ⟨.type "type",_,.cls cd,sl⟩=>(match cd.mro,sl.toList with
  | .ref C' :: bm,[_,_,_,_,some (.builtin n),_]=>C' == C && n == "ValueError.__new__" && !cd.hasDel && cd.hasDict && tlIn K (nmsX f) bm && yeu K cd.ns ((nmsX f).drop 1) && PySem.W.nsIn K cd.ns "__init__" == some (some (.ref fI)) && (K.lookup fI).any fun o=>o.cls == .type "function"
  | _,_=>false)
 | _=>false
theorem zhD {K : PySem.W.Frag} {hp : Heap} {C fI : Addr} {f : Str} (Z : K.In hp) (ok : yev K C fI f = true) (nof : typeLookup (.type "ValueError") f = pure none) (fne : f ≠ "__init__") : IniC C fI f hp:=by
 unfold yev at ok
 split at ok
 ·rename_i dA cA sA hA
  split at ok
  ·rename_i D' tl w0 w1 w2 w3 bn w5 eM eS
   simp only [Bool.and_eq_true,beq_iff_eq,Bool.not_eq_true'] at ok
   obtain ⟨⟨⟨⟨⟨⟨⟨rfl,rfl⟩,e1⟩,e2⟩,e3⟩,e4⟩,e5⟩,e6⟩:=ok
   obtain ⟨f1,f2,f3,f4,f5,f6,f7,f8,f9,f10,f11⟩:=cA
   dsimp only at eM e1 e2 e3 e4 e5
   subst eM e1 e2
   have eA : sA = #[w0,w1,w2,w3,some (.builtin "ValueError.__new__"),w5]:=by
    obtain ⟨ll⟩:=sA
    simp only at eS
    rw [eS]
   subst eA
   refine ⟨⟨tl,f4,f1,f5,f2,f7,f8,f9,f10,dA,w0,w1,w2,w3,w5,_,Z _ _ hA,.of_isNs (PySem.W.isNs_of_in Z (Bool.and_eq_true_iff.mp e4).1),?_,fun n hn ne=>?_,yf4 Z e3⟩,?_,nof,fne⟩
   ·exact yg5 Z (.of_isNs (PySem.W.isNs_of_in Z (Bool.and_eq_true_iff.mp e4).1)) e5
   ·rcases List.mem_cons.mp hn with z | z
    ·exact absurd z ne
    ·exact yfu Z e4 n z
   ·cases q : K.lookup fI with
    | none=>rw [q] at e6; cases e6
    | some oI=>rw [q] at e6; exact ⟨oI,Z _ _ q,beq_iff_eq.mp e6⟩
  ·cases ok
 ·cases ok
end L2
namespace Sm
open PySem PySem.Spec L2
structure GI (P : Program) (w : World) (T : Tb) (mg : Str -> Option Value) (base : Heap) (c : Nat) (x f : Str) : Prop where
 ex : ∃ C fI fd r,T.exc c = some C /\ mg x = some (.ref C) /\ PySem.W.keepIn T.K (.ref C) = true /\ IniC C fI f base /\ Binds T.K fd ["self",r] [] /\ FnOk P w T.K mg base (CXE P w) 1 fI fd ["self",r] (yet C f)
@[simp] def yeT (c : Nat) (as : SL) : SS:=fun en h=>(as en h).go en fun xs h1=>match xs with
 | [_]=>.ex c en h1
 | _=>.bad
section
variable {T : Tb} {E : St -> XK} {X : Cx} {pos np cpos : Pos} {e : Expr} {x f : Str} {c : Nat} {as : SL}
theorem zhE (hK : X.K = T.K) (G : GI X.prog X.w T X.mg X.base c x f) (hr : yb4 X E) (hm : Room 2 X.A) (hg : Gl X x) (ha : PAA T E X [e] as) (hc : X.calm = true:=by rfl) (hex : X.ex = []:=by rfl)
  (hdb : (x == ("__debug__" : Str)) = false:=by decide) (he : starEach [e] X.env = (false,eval e X.env) :: starEach [] X.env:=by rfl) : PSA T E X (.Raise (some (.Call (.Name x np) [e] [] cpos)) none pos) (yeT c as):=by
 obtain ⟨C,fI,fd,r,h1,h2,h3,Z,hb,F⟩:=G.ex
 rw [<- hK] at h3 hb F
 refine ybS (zgD Z F hb hm hg h2 h3 hc hex hr ha hdb he) fun D σ H ⟨ι,h,en,S,er,q⟩=>⟨ι,h,en,S,er,q.go er fun xs h1' ι1 H1 us g1 S1 r1 q1=>?_⟩
 cases r1 with
 | nil=>exact q1.elim
 | cons r2 r3 =>
  cases r3 with
  | nil=>exact ⟨_,rfl,q1 ι1 H1 σ C S1.refl S1 (er.mono g1) h1⟩
  | cons _ _=>exact q1.elim
end
section
variable {P : Program} {w : World} {K : PySem.W.Frag} {mg : Str -> Option Value} {h : Heap} {T : Tb} {x q f r : Str} {st : Stmt} {C : Addr}
def XJ (K : PySem.W.Frag) (C : Addr) (q : Str) (st : Stmt) (f : Str) : Prop:=∃ fI fd,Fun K "__init__" q st fI fd /\ yev K C fI f = true
theorem xj {fI : Addr} {oc : Value} {od an : Option Addr} {osl : Array (Option Value)} {kV doc pm cdv ct : Value} (a : PySem.W.findIn K (.ref C) "__init__" = some (some (.ref fI))) (l : K.lookup fI = some ⟨oc,od,.func (PySem.W.fnOf "__init__" q (ycm st) (ybf st) (yad st) .none kV doc pm an cdv ct),osl⟩)
  (c : PySem.W.codeIn K cdv q = true) (k : PySem.W.keepIn K (.ref fI) = true) (j : yev K C fI f = true) : XJ K C q st f:=⟨fI,_,yeD l c k,j⟩
theorem gi {n : Nat} {g : Heap} {p1 p2 p3 p4 : Pos} (KB : T.K.In g) (KX : T.K.In h) (G : h.Ns mainGlobals mg) (hc : T.exc n = some C) (e : PySem.W.nsIn T.K mainGlobals x = some (some (.ref C))) (kp : PySem.W.keepIn T.K (.ref C) = true) (J : XJ T.K C q st f) (hb : BL "__init__" q st ["self",r])
  (S : FnScope ["self",r] ["self",r] (yad st)) (bd : ybf st = [.Assign [.Attribute (.Name "self" p1) f p2] (.Name r p3) p4]) (hv0 : Vis (yad st) "self") (hv1 : Vis (yad st) r) (hs : ∀ env,swapsWith (.Name r p3) (some (.Attribute (.Name "self" p1) f p2)) p4.line env = pure false)
  (d1 : (r == ("__debug__" : Str)) = false) (d2 : (r == ("__classdict__" : Str)) = false) (nof : typeLookup (.type "ValueError") f = pure none) (fne : f ≠ "__init__") : GI P w T mg g n x f:=by
 obtain ⟨fI,fd,F,j⟩:=J
 have Z:=zhD KB j nof fne
 exact ⟨C,fI,fd,r,hc,PySem.W.mg_of KX G e,kp,Z,F.binds fun _ _ _ _ _ _ us hl=>hb us hl _ _ _ _ _ _,yg4 F S bd hv0 hv1 hs d1 d2 Z⟩
end
end Sm
namespace L2
open PySem PySem.Spec PyProof.Rows
open Sem (wp)
theorem zdb {M : Model} {Γ : PySem.Ctx} {p : Pos} {t : Sem Fin} {fs : List Frame} {s s' : Shared} {e : End} (h : Runs M Γ p t fs s e s') : s.toks <= s'.toks:=by
 induction h with
 | done=>exact Nat.le_refl _
 | raise=>exact Nat.le_refl _
 | yield=>exact Nat.le_refl _
 | again _ _ ih=>exact ih
 | rule _ ih=>exact ih
 | «at» _ ih=>exact ih
 | load _ _ ih=>exact ih
 | update _ _ ih=>exact ih
 | loadIfAlive _ ih=>exact ih
 | point _ ih=>exact ih
 | alloc _ ih=>exact ih
 | fresh _ ih=>exact Nat.le_trans (Nat.le_succ _) ih
 | ask _ ih=>exact ih
 | choose _ _ ih=>exact ih
 | os _ ih=>exact ih
 | handled _ ih=>exact ih
 | genState _ _ ih=>exact ih
 | stack _ ih=>exact ih
 | thread _ ih=>exact ih
 | newGen _ ih=>exact ih
 | call _ _ i1 i2=>exact Nat.le_trans i1 i2
 | callSusp _ ih=>exact ih
 | resumeFresh _ _ _ _ i1 i2=>exact Nat.le_trans i1 i2
 | resumeSuspended _ _ _ _ i1 i2=>exact Nat.le_trans i1 i2
 | resumeJustStarted _ _ _ ih=>exact ih
 | resumeThrowFresh _ _ ih=>exact ih
 | resumeRunning _ _ ih=>exact ih
 | resumeFinished _ _ ih=>exact ih
 | segRet _ _ i1 i2=>exact Nat.le_trans i1 i2
 | segGen _ _ i1 i2=>exact Nat.le_trans i1 i2
 | segSuspOut _ _ ih=>exact ih
 | segSuspGen _ _ _ _ i1 i2=>exact Nat.le_trans i1 i2
theorem zhF {M : Model} {Γ : PySem.Ctx} {p : Pos} {g : Nat} {r : Resume} {s s' : Shared} {res : GenResult} (h : Wakes M Γ p g r s res s') : s.toks <= s'.toks:=by
 unfold Wakes at h
 split at h
 ·exact h.elim
 ·split at h
  ·obtain ⟨e1,s1,h1,_,_,rfl⟩:=h; have z:=zdb h1; exact z
  ·obtain ⟨_,rfl⟩:=h; exact Nat.le_refl _
  ·obtain ⟨_,rfl⟩:=h; exact Nat.le_refl _
 ·obtain ⟨e1,s1,h1,_,_,rfl⟩:=h; have z:=zdb h1; exact z
 ·obtain ⟨_,rfl⟩:=h; exact Nat.le_refl _
 ·obtain ⟨_,rfl⟩:=h; exact Nat.le_refl _
theorem ye0 {α : Type} {M : Model} {Γ : PySem.Ctx} {n : Nat} : ∀ (t : Sem α) {Q : α -> Pos -> Shared -> Prop} {E : Value -> Pos -> Shared -> Prop} {p : Pos} {s : Shared},n <= s.toks -> wp M Γ t Q E p s ->
  wp M Γ t (fun a p' s' => Q a p' s' /\ n <= s'.toks) (fun e p' s' => E e p' s' /\ n <= s'.toks) p s:=by
 intro t
 induction t with
 | pure a=>intro Q E p s l h; rw [wp] at h ⊢; exact ⟨h,l⟩
 | raise e=>intro Q E p s l h; rw [wp] at h ⊢; exact ⟨h,l⟩
 | unsupported w=>intro Q E p s l h; rw [wp] at h; exact h.elim
 | finish w=>intro Q E p s l h; rw [wp] at h; exact h.elim
 | rule w k ih=>intro Q E p s l h; rw [wp] at h ⊢; exact ih _ l h
 | «at» w k ih=>intro Q E p s l h; rw [wp] at h ⊢; exact ih _ l h
 | load a pt k ih=>intro Q E p s l h; rw [wp] at h ⊢; obtain ⟨o,h1,h2⟩:=h; exact ⟨o,h1,ih _ l h2⟩
 | update a pt f k ih=>intro Q E p s l h; rw [wp] at h ⊢; exact ⟨h.1,ih _ (s:={ s with heap:=s.heap.update a f }) l h.2⟩
 | loadIfAlive a k ih=>intro Q E p s l h; rw [wp] at h ⊢; exact ih _ l h
 | point w k ih=>intro Q E p s l h; rw [wp] at h ⊢; exact ih _ l h
 | register w k=>intro Q E p s l h; rw [wp] at h; exact h.elim
 | alloc o k ih=>intro Q E p s l h; rw [wp] at h ⊢; exact ih _ (s:={ s with heap:=s.heap.push o }) l h
 | fresh k ih=>intro Q E p s l h; rw [wp] at h ⊢; exact ih _ (s:={ s with toks:=s.toks + 1 }) (Nat.le_succ_of_le l) h
 | ask k ih=>intro Q E p s l h; rw [wp] at h ⊢; exact ih _ l h
 | choose src m k ih=>intro Q E p s l h; rw [wp] at h ⊢; exact ⟨h.1,ih _ (s:={ s with drawn:=s.drawn.bump src }) l h.2⟩
 | os q w k ih=>intro Q E p s l h; rw [wp] at h ⊢; exact ih _ (s:={ s with os:=(Os.step s.os q).1 }) l h
 | call c hd g w k ih=>intro Q E p s l h; rw [wp] at h ⊢; obtain ⟨r,s1,h1,h2⟩:=h; exact ⟨r,s1,h1,ih _ (Nat.le_trans l (zdb h1)) h2⟩
 | handled own k ih=>intro Q E p s l h; rw [wp] at h ⊢; exact ih _ l h
 | genState g k ih=>intro Q E p s l h; rw [wp] at h ⊢; obtain ⟨o,h1,h2⟩:=h; exact ⟨o,h1,ih _ l h2⟩
 | newGen c k ih=>intro Q E p s l h; rw [wp] at h ⊢; exact ih _ (s:={ s with gens:=s.gens.push (.fresh c) }) l h
 | resume g r w k ih=>intro Q E p s l h; rw [wp] at h ⊢; obtain ⟨r,s1,h1,h2⟩:=h; exact ⟨r,s1,h1,ih _ (Nat.le_trans l (zhF h1)) h2⟩
 | yield=>intro Q E p s l h; rw [wp] at h; exact h.elim
 | stack k ih=>intro Q E p s l h; rw [wp] at h ⊢; exact ih _ l h
 | fork=>intro Q E p s l h; rw [wp] at h; exact h.elim
 | thread k ih=>intro Q E p s l h; rw [wp] at h ⊢; exact ih _ l h
 | await=>intro Q E p s l h; rw [wp] at h; exact h.elim
theorem yfv {α : Type} {M : Model} {A : Around} {t : Sem α} {Q : α -> Shared -> Prop} {E : Value -> Shared -> Prop} {s : Shared} {n : Nat} (l : n <= s.toks) (h : wpAny M A t Q E s) : wpAny M A t (fun a s' => Q a s' /\ n <= s'.toks) E s :=
 fun Γ p hΓ=>Sem.wp_mono M Γ t (fun _ _ _ x=>x) (fun _ _ _ x=>x.1) p s (ye0 t l (h Γ p hΓ))
def ybQ {α : Type} (m : Sem α) : Prop:=∀ (M : Model) (Γ : PySem.Ctx) (Q : α -> Pos -> Shared -> Prop) (E : Value -> Pos -> Shared -> Prop) (p : Pos) (s : Shared),wp M Γ m Q E p s -> wp M Γ m (fun a p' s' => Q a p' s' /\ 1 <= s'.toks) E p s
theorem zgE {α : Type} {M : Model} {A : Around} {t : Sem α} {Q : α -> Shared -> Prop} {E : Value -> Shared -> Prop} {s : Shared} (m : ybQ t) (h : wpAny M A t Q E s) : wpAny M A t (fun a s' => Q a s' /\ 1 <= s'.toks) E s :=
 fun Γ p hΓ=>m M Γ _ _ p s (h Γ p hΓ)
theorem zfk {α β : Type} {m : Sem α} {f : α -> Sem β} (h : ybQ m) : ybQ (m >>= f):=fun M Γ Q E p s q=>by
 rw [Sem.wp_bind'] at q ⊢
 refine Sem.wp_mono M Γ m (fun a p' s' z=>?_) (fun _ _ _ x=>x) p s (h M Γ _ _ p s q)
 exact Sem.wp_mono M Γ (f a) (fun _ _ _ x=>x) (fun _ _ _ x=>x.1) p' s' (ye0 (f a) z.2 z.1)
theorem ziK {α β : Type} {m : Sem α} {f : α -> Sem β} (h : ∀ a,ybQ (f a)) : ybQ (m >>= f):=fun M Γ Q E p s q=>by
 rw [Sem.wp_bind'] at q ⊢
 exact Sem.wp_mono M Γ m (fun a p' s' z=>h a M Γ _ _ p' s' z) (fun _ _ _ x=>x) p s q
theorem zfT {α : Type} {m : Sem α} {vs : List Value} (h : ybQ m) : ybQ (holding vs m):=fun M Γ Q E p s q=>by
 rw [Sem.wp_holding] at q ⊢
 exact h M Γ _ _ p s q
theorem zeK {α : Type} {k : Tok -> Sem α} : ybQ (Sem.fresh k):=fun M Γ Q E p s q=>by
 rw [wp] at q ⊢
 exact Sem.wp_mono M Γ (k s.toks) (fun _ _ _ x=>x) (fun _ _ _ x=>x.1) p _ (ye0 (n:=1) (k s.toks) (s:={ s with toks:=s.toks + 1 }) (Nat.le_add_left 1 s.toks) q)
theorem zgF {x : Int} {k : Pos} {env : Env} {q1 : Nat} : ybQ (eval (.Constant (.int x) q1 k) env):=zeK
theorem zhG {v i : Expr} {pos : Pos} {env : Env} (h : ybQ (eval i env)) : ybQ (eval (.Subscript v i pos) env):=by
 rw [arm_eval_Subscript]; exact ziK fun a=>zfk (zfT h)
theorem zgG {b : Bool} {x : Sem Value} {r : List (Bool × Sem Value)} (h : ybQ x) : ybQ (spliced ((b,x) :: r)):=by
 unfold spliced; exact zfk h
def PET (X : Cx) (e : Expr) (t : TE) : Prop:=∀ (pins : List (Addr × Obj)) (s : Shared) (σ : St) (H : Hp) (Q : VK),Inv X pins σ H s -> 1 <= s.toks -> t σ H Q -> wpAny (model X.prog X.w) X.A (eval e X.env) (EP X pins σ Q) X.xe s
def PST (X : Cx) (st : Stmt) (t : TS) : Prop:=∀ (pins : List (Addr × Obj)) (s : Shared) (σ : St) (H : Hp) (D : Ends),Inv X pins σ H s -> 1 <= s.toks -> t D σ H -> wpAny (model X.prog X.w) X.A (exec st X.env) (SP X pins D) X.xe s
def PSsT (X : Cx) (st : List Stmt) (t : TS) : Prop:=∀ (pins : List (Addr × Obj)) (s : Shared) (σ : St) (H : Hp) (D : Ends),Inv X pins σ H s -> 1 <= s.toks -> t D σ H -> wpAny (model X.prog X.w) X.A (execs st X.env) (SP X pins D) X.xe s
section
variable {X : Cx} {e o : Expr} {es : List Expr} {te to : TE} {t : TA} {st : Stmt} {rest : List Stmt} {u v : TS} {pos apos cpos p : Pos}
theorem yg6 (h : PE X e te) : PET X e te:=fun pins s σ H Q I _ q=>h pins s σ H Q I q
theorem ziL (he : PET X e te) : PST X (.Return (some e) pos) (tRet te):=by
 intro pins s σ H D I ht h
 exact wpAny_Return_some (thn (he pins s σ H _ I ht h) fun v s1 ⟨x,H1,I1,r1,q1⟩=>⟨x,σ,H1,I1,r1,q1⟩)
theorem zhH (h1 : PST X st u) : PSsT X [st] u:=by
 intro pins s σ H D I ht h
 refine wpAny_execs_cons (thn (h1 pins s σ H D I ht h) fun f s1 q=>?_)
 cases f with
 | next=>exact wpAny_execs_nil q
 | ret v=>exact q
 | brk=>exact q
 | cont=>exact q
def yid (y z : Str) (to : TE) : TE:=fun σ H Q=>to σ H fun v H1=>∃ x,v = .str x /\ (y == z) = false /\ x.length <= 1048576 /\ z.length <= 14 /\ Q (.str (Txt.replace x y z)) H1
theorem zhI {y z : Str} {k1 k2 : Nat} {p1 p2 : Pos} (ho : PET X o to) (hbase : attributeBase o "replace" X.env (eval o X.env) = eval o X.env:=by rfl)
  (hfew : ((backTo cpos (starEach [.Constant (.str y) k1 p1,.Constant (.str z) k2 p2] X.env)).all (fun x=>!x.1) && (backToKw cpos (keywordEach [] X.env)).all (fun x=>x.1.isSome)
   && decide (([.Constant (.str y) k1 p1,.Constant (.str z) k2 p2] : List Expr).length + ([] : List Keyword).length + (if ([] : List Keyword).isEmpty then 0 else 1) < 30)) = true:=by rfl)
  (hline : (apos.endLine == cpos.line) = true:=by rfl) : PET X (.Call (.Attribute o "replace" apos) [.Constant (.str y) k1 p1,.Constant (.str z) k2 p2] [] cpos) (yid y z to):=by
 intro pins s σ H Q I ht h
 refine wpAny_Call_method_late hbase hfew hline rfl (thn (yfv ht (ho pins s σ H _ I ht h)) fun v s1 ⟨⟨w,H1,I1,r1,x,ew,hyz,hx,hz,q⟩,ht1⟩=>?_)
 subst ew
 obtain ⟨tk,rfl⟩:=r1
 refine ⟨"str", "str.replace",PySem.F.plainAttrs_str,PySem.F.slot_str_replace,PySem.F.type_str_replace,typeIs_str s1 x tk,(fun _ e=>nomatch e),?_⟩
 refine Calls.callWith_builtin rfl (Calls.evalArgs_plain ?_)
 show wpAny _ _ (spliced [(false,eval (.Constant (.str y) k1 p1) X.env),(false,eval (.Constant (.str z) k2 p2) X.env)]) _ _ s1
 refine Calls.spliced_cons (Calls.Constant_str (Calls.spliced_cons (Calls.Constant_str (Calls.spliced_nil ?_))))
 refine SC.replaceW (u:=s1.toks) (v:=s1.toks + 1) (Nat.ne_of_gt ht1) (Nat.succ_ne_zero _) (Nat.ne_of_lt (Nat.lt_succ_self _)) hyz hx hz fun t' k=>?_
 exact ⟨.str _,H1,I1.tok k,⟨_,rfl⟩,q⟩
end
end L2
namespace Sm
open PySem PySem.Spec L2
abbrev PETA (T : Tb) (E : St -> XK) (X : Cx) (e : Expr) (a : SE) : Prop:=PET X e (tE T E a)
abbrev PSTA (T : Tb) (E : St -> XK) (X : Cx) (st : Stmt) (b : SS) : Prop:=PST X st (tS T E b)
abbrev ye1 (T : Tb) (E : St -> XK) (X : Cx) (st : List Stmt) (b : SS) : Prop:=PSsT X st (tS T E b)
theorem ziM {X : Cx} {e : Expr} {t t' : TE} (h : PET X e t) (k : ∀ σ H Q,t' σ H Q -> t σ H Q) : PET X e t' := fun pins s σ H Q I ht q=>h pins s σ H Q I ht (k σ H Q q)
theorem ziN {X : Cx} {e : Stmt} {t t' : TS} (h : PST X e t) (k : ∀ D σ H,t' D σ H -> t D σ H) : PST X e t' := fun pins s σ H D I ht q=>h pins s σ H D I ht (k D σ H q)
@[simp] def ycH (y z : Str) (so : SE) : SE:=fun en h=>(so en h).bind fun v h1=>match v with
 | .str x=>if (y == z) = false /\ x.length <= 1048576 /\ z.length <= 14 /\ (Txt.replace x y z).length <= sizeLine /\ (Txt.replace x y z).cps.all (· < 0x110000) = true then .ok (.str (Txt.replace x y z)) h1 else .bad
 | _=>.bad
section
variable {T : Tb} {E : St -> XK} {X : Cx} {pos p apos cpos : Pos} {e o a : Expr} {es : List Expr} {sa so : SE} {st : Stmt} {sts : List Stmt} {s1 s2 : SS} {x : Str} {F : Fn} {k : Nat} {as : SL}
theorem yg7 (h1 : PSTA T E X st s1) : ye1 T E X [st] s1:=zhH h1
theorem yie (h : PEA T E X e sa) : PETA T E X e sa:=yg6 h
theorem yg8 (ha : PETA T E X a sa) : PSTA T E X (.Return (some a) pos) (sRet sa) :=
 ziN (ziL ha) fun D σ H ⟨ι,h,en,S,er,q⟩=>⟨ι,h,en,S,er,q.go er fun v h1 ι1 H1 u g1 S1 r1 q1=>q1 ι1 H1 u S1.refl S1 r1⟩
theorem zfl {y z : Str} {k1 k2 : Nat} {p1 p2 : Pos} (ho : PETA T E X o so) (hbase : attributeBase o "replace" X.env (eval o X.env) = eval o X.env:=by rfl)
  (hfew : ((backTo cpos (starEach [.Constant (.str y) k1 p1,.Constant (.str z) k2 p2] X.env)).all (fun x=>!x.1) && (backToKw cpos (keywordEach [] X.env)).all (fun x=>x.1.isSome)
   && decide (([.Constant (.str y) k1 p1,.Constant (.str z) k2 p2] : List Expr).length + ([] : List Keyword).length + (if ([] : List Keyword).isEmpty then 0 else 1) < 30)) = true:=by rfl)
  (hline : (apos.endLine == cpos.line) = true:=by rfl) : PETA T E X (.Call (.Attribute o "replace" apos) [.Constant (.str y) k1 p1,.Constant (.str z) k2 p2] [] cpos) (ycH y z so):=by
 refine ziM (zhI ho hbase hfew hline) fun σ H Q ⟨ι,h,en,S,er,q⟩=>⟨ι,h,en,S,er,q.bind fun x h1 ι1 H1 u g1 S1 r1 q1=>?_⟩
 split at q1
 ·split at q1
  ·rename_i hc
   obtain ⟨rfl,_⟩:=yaV r1
   exact ⟨_,rfl,hc.1,hc.2.1,hc.2.2.1,q1.now S1 (.str hc.2.2.2.1 hc.2.2.2.2)⟩
  ·exact q1.elim
 ·exact q1.elim
end
end Sm
namespace L2
open PySem PySem.Spec PyProof.Rows
structure FnOkT (P : Program) (w : World) (K : PySem.W.Frag) (mg : Str -> Option Value) (base : Heap) (CX : CXT) (k : Nat) (f : Addr) (fd : FuncData) (ps : List Str) (sp : Sp) : Prop where
 len : ∀ vs H Q E,sp vs H Q E -> vs.length = ps.length
 run : ∀ (A : Around) (outer : List Env) (s : Shared) (H : Hp) (args : Args) (us : List Value) (vs : List V) (Q : VK) (E : XK),Room k A -> Env0 P w K mg base A outer s H -> 1 <= s.toks -> BindsTo s fd args (ps.zip us) -> Vals vs us -> sp vs H Q E -> codeAny (model P w) A (.call (.ref f) args) (CR CX outer P w H s Q E) s
theorem yg9 {CX : CXT} {P : Program} {w : World} {K : PySem.W.Frag} {mg : Str -> Option Value} {base : Heap} {k : Nat} {f : Addr} {name qual : Str} {params : Arguments} {body : List Stmt} {scope : Scope} {dV kV doc pm cdv ct oc : Value} {an od : Option Addr} {osl : Array (Option Value)} {N ps : List Str} {sp : Sp}
  (lk : K.lookup f = some ⟨oc,od,.func (PySem.W.fnOf name qual params body scope dV kV doc pm an cdv ct),osl⟩) (hcd : PySem.W.codeIn K cdv qual = true) (S : FnScope N ps scope) (len : ∀ vs H Q E,sp vs H Q E -> vs.length = ps.length)
  (hbody : ∀ (A : Around) (outer : List Env) (s : Shared) (H : Hp) (vs : List V) (Q : VK) (E : XK),Room k (A.deeper (envOfC qual scope s.heap.objs.size f cdv)) -> sp vs H Q E -> ∃ t,PSsT (cxOf CX P w K mg base N qual scope f cdv A outer s H E) body t /\ t { nx:=fun _ H' => Q .non H',rt:=Q } (start N vs) H) :
  FnOkT P w K mg base CX (k + 1) f (PySem.W.fnOf name qual params body scope dV kV doc pm an cdv ct) ps sp:=by
 refine ⟨len,fun A outer s H args us vs Q E hr e0 htk hb r hsp=>?_⟩
 have hl:=len _ _ _ _ hsp
 have KX : K.In s.heap:=e0.mod.kin.keeps fun b o e=>(e0.bs b o e).1
 have lim : s.heap.NoLimit:=e0.mod.nolimit.keeps fun b o e=>(e0.bs b o e).1
 have hkind : ∀ y ∈ ps.zip us,scope.names.lookup y.1 = some .local \/ (scope.names.lookup y.1 = some .cell /\ ((cellsFrom (s.heap.objs.size + 1) scope.names []).lookup y.1).isSome = true):=fun ⟨n,v⟩ hy=>(S.par n (List.of_mem_zip hy).1).elim .inl fun q=>.inr ⟨q,PySem.W.cellsFrom_some _ _ _ (.inl q)⟩
 refine codeAny_call_function hr.depth (KX _ _ lk) rfl S.co S.gen rfl (PySem.W.codeRec_of KX hcd) (hb _ _ _ _ ?_)
 refine thn (yfv htk (wpAny_newFunctionEnv_cells (Q:=fun env s1=>env = newEnv scope s.heap.objs.size _ (cellsFrom (s.heap.objs.size + 1) scope.names []) _ _ _ none _ /\ InCallC s env.locals (bindL env.kindOf (ps.zip us) fun _=>none) env.cells (bindC env.kindOf (ps.zip us) fun _=>none) s1) S.kind hkind fun env he s1 x=>⟨he,x⟩)) fun env s1 ⟨⟨he,x⟩,ht1⟩=>?_
 subst he
 refine ⟨lim.keeps x.toInCall.keep,codeAny_func ?_⟩
 obtain ⟨t,ht,hq⟩:=hbody A outer s H vs Q E (hr.deeper _) hsp
 have I : Inv (cxOf CX P w K mg base N qual scope f cdv A outer s H E) [] (start N vs) H s1:=zdt S hr.hd e0 hl r x
 refine wpAny_mono (ht [] s1 (start N vs) H _ I ht1 hq) (fun fl s' hs=>?_) fun e s' hs=>hs
 cases fl with
 | ret u=>obtain ⟨v,σ',H',J,rv,q⟩:=hs; exact ⟨v,H',J.os,J.bare,J.base,J.hok,rv,q⟩
 | next=>obtain ⟨σ',H',J,q⟩:=hs; exact ⟨V.non,H',J.os,J.bare,J.base,J.hok,rfl,q⟩
 | brk=>obtain ⟨_,_,_,q⟩:=hs; exact False.elim q
 | cont=>obtain ⟨_,_,_,q⟩:=hs; exact False.elim q
section
variable {X : Cx} {CX : CXT} {k : Nat} {f : Addr} {fd : FuncData} {ps : List Str} {sp : Sp} {Ex : St -> XK} {x : Str} {p pos : Pos} {e : Expr} {es : List Expr} {t : TA}
theorem zhJ (F : FnOkT X.prog X.w X.K X.mg X.base CX k f fd ps sp) (hr : Room k X.A) (hg : Gl X x) (hm : X.mg x = some (.ref f)) (hk : PySem.W.keepIn X.K (.ref f) = true) (hb : Binds X.K fd ps []) (hx : ycn CX X Ex) (ha : PA X (e :: es) t) (hmi : ybQ (spliced (backTo pos (starEach (e :: es) X.env))))
  (hdb : (x == ("__debug__" : Str)) = false) (he : starEach (e :: es) X.env = (false,eval e X.env) :: starEach es X.env) (hpl : (backTo pos (starEach es X.env)).any (·.1) = false) : PE X (.Call (.Name x p) (e :: es) [] pos) (yff sp [] Ex t):=by
 intro pins s σ H Q I h
 refine wpAny_Call_Name_kw (zaT I hg hm ?_ hdb)
 refine PySem.W.callWith_K (h₀:=X.base) I.ok.mod.kin hk (thn (zgE hmi (ha pos pins s σ H _ I h)) fun us s1 ⟨⟨vs,H1,I1,r,q⟩,ht⟩=>⟨I1.kIn,?_⟩) he hpl
 have q' : sp (vs++[]) H1 Q (Ex σ):=q
 clear q
 rw [List.append_nil] at q'
 have hl : (us++[]).length = ps.length:=by rw [List.append_nil,<- r.length]; exact F.len _ _ _ _ q'
 have hb' := hb s1 us I1.kIn hl
 rw [List.append_nil] at hb'
 refine wpAny_call (codeAny_mono (F.run X.A X.stack s1 H1 ⟨us,[]⟩ us vs Q (Ex σ) hr I1.env0 ht hb' r q') fun r s' hq=>?_)
 cases r with
 | error e=>exact hx pins σ H1 s1 e s' I1 hq
 | ok fl =>
  cases fl with
  | ret u=>exact I1.after hq
  | next=>exact False.elim hq
  | brk=>exact False.elim hq
  | cont=>exact False.elim hq
end
end L2
namespace Sm
open PySem PySem.Spec L2
structure GFT (P : Program) (w : World) (T : Tb) (mg : Str -> Option Value) (base : Heap) (k : Nat) (x : Str) (F : Fn) : Prop where
 ex : ∃ f fd ps,mg x = some (.ref f) /\ PySem.W.keepIn T.K (.ref f) = true /\ Binds T.K fd ps [] /\ FnOkT P w T.K mg base (CXE P w) k f fd ps (spA T F)
theorem okT {P : Program} {w : World} {K : PySem.W.Frag} {mg : Str -> Option Value} {base : Heap} {T : Tb} {x qual : Str} {st : Stmt} {f : Addr} {fd : FuncData} {N ps : List Str} {k : Nat} {b : SS} (F : Fun K x qual st f fd) (hK : K = T.K) (S : FnScope N ps (yad st))
  (hbody : ∀ (cdv : Value) (A : Around) (outer : List Env) (s : Shared) (H : Hp) (E : XK),Room k (A.deeper (PyProof.Rows.envOfC qual (yad st) s.heap.objs.size f cdv)) -> CA T (fun _=>E) (cxOf (CXE P w) P w K mg base N qual (yad st) f cdv A outer s H E) ->
   ye1 T (fun _=>E) (cxOf (CXE P w) P w K mg base N qual (yad st) f cdv A outer s H E) (ybf st) b) : FnOkT P w K mg base (CXE P w) (k + 1) f fd ps (spA T (mkFn ps.length N.length b)):=by
 obtain ⟨oc,od,kV,doc,pm,an,cdv,ct,osl,rfl,lk,hcd⟩:=F.ex
 refine yg9 lk hcd S (fun vs H Q E h=>?_) (fun A outer s H vs Q E hr h=>?_)
 ·obtain ⟨ι,h,args,_,r,q⟩:=h
  by_cases hl : args.length = ps.length
  ·rw [<- hl,r.length]
  ·rw [za7 _ _ _ args h hl] at q; exact q.elim
 ·obtain ⟨ι,h,args,Si,r,q⟩:=h
  refine ⟨_,hbody cdv A outer s H E hr ⟨hK,ze3⟩,ι,h,args.map some++List.replicate (N.length - ps.length) none,Si,?_,?_⟩
  ·by_cases hl : args.length = ps.length
   ·refine ⟨by simp [L2.start,r.length,<- hl],fun i v e=>?_⟩
    unfold L2.start
    by_cases hi : i < args.length
    ·rw [List.getElem?_append_left (by simpa using hi),List.getElem?_map] at e
     rw [List.getElem?_append_left (by simpa [<- r.length] using hi),List.getElem?_map]
     obtain ⟨x,e1,e2⟩:=Option.map_eq_some_iff.mp e
     cases e2
     obtain ⟨u,e3,r3⟩:=r.get e1
     exact ⟨u,by rw [e3]; rfl,r3⟩
    ·rw [List.getElem?_append_right (by simpa using hi),List.getElem?_replicate] at e
     split at e
     ·cases e
     ·cases e
   ·rw [za7 _ _ _ args h hl] at q; exact q.elim
  ·unfold mkFn at q
   split at q
   ·split at q
    ·rename_i e1 h1 he
     rw [he]
     exact fun ι' H' σ' g S' er=>q ι' H' _ g S' .non
    ·rename_i v h1 he
     rw [he]
     exact q
    ·rename_i c e1 h1 he
     rw [he]
     exact fun ι' H' σ' C g S' er ec=>q ι' H' C g S' ec
    ·exact q.elim
   ·exact q.elim
section
variable {P : Program} {w : World} {T : Tb} {mg : Str -> Option Value} {base : Heap} {x : Str} {st : Stmt} {N ps : List Str} {k : Nat} {b : SS}
theorem gt (d : DG T.K mg x st ps) (S : FnScope N ps (yad st))
  (hb : ∀ {f : Addr} {cdv : Value} {A : Around} {outer : List Env} {s : Shared} {H : Hp} {E : XK},Room k (A.deeper (PyProof.Rows.envOfC x (yad st) s.heap.objs.size f cdv)) -> CA T (fun _=>E) (cxOf (CXE P w) P w T.K mg base N x (yad st) f cdv A outer s H E) ->
   (A.deeper (PyProof.Rows.envOfC x (yad st) s.heap.objs.size f cdv)).units + 64 < cLine -> N.Nodup -> ye1 T (fun _=>E) (cxOf (CXE P w) P w T.K mg base N x (yad st) f cdv A outer s H E) (ybf st) b) : GFT P w T mg base (k + 1) x (mkFn ps.length N.length b):=by
 obtain ⟨f,fd,h1,h2,h3,h4⟩:=d
 exact ⟨f,fd,_,h1,h2,h3,okT h4 rfl S fun cdv A outer s H E hr C=>hb hr C (hu64 hr) S.nd⟩
end
section
variable {T : Tb} {E : St -> XK} {X : Cx} {pos p : Pos} {e a b c d : Expr} {es : List Expr} {x : Str} {F : Fn} {k : Nat} {as : SL} {sa sb sc sd : SE}
theorem ziO (hK : X.K = T.K) (C : CA T E X) (G : GFT X.prog X.w T X.mg X.base k x F) (hr : Room k X.A) (hg : Gl X x) (ha : PAA T E X (e :: es) as) (hmi : ybQ (spliced (backTo pos (starEach (e :: es) X.env)))) (hdb : (x == ("__debug__" : Str)) = false:=by decide)
  (he : starEach (e :: es) X.env = (false,eval e X.env) :: starEach es X.env:=by rfl) (hpl : (backTo pos (starEach es X.env)).any (·.1) = false:=by rfl) : PEA T E X (.Call (.Name x p) (e :: es) [] pos) (yae F as):=by
 obtain ⟨f,fd,ps,h1,h2,h3,h4⟩:=G.ex
 refine yaE (zhJ (Ex:=E) (hK ▸ h4) hr hg h1 (hK ▸ h2) (hK ▸ h3) C.pass ha hmi hdb he hpl) fun σ H Q ⟨ι,h,en,S,er,q⟩=>⟨ι,h,en,S,er,q.bind fun xs h1 ι1 H1 us g1 S1 r1 q1=>?_⟩
 rw [List.append_nil]
 exact ⟨ι1,h1,xs,S1,r1,q1⟩
def yc7 (k1 v1 k2 v2 : Str) : SE:=fun _ h=>if k1 ≠ k2 /\ v1.length <= sizeLine /\ v1.cps.all (· < 0x110000) = true /\ v2.length <= sizeLine /\ v2.cps.all (· < 0x110000) = true then .ok (.ref h.length) (h++[.dct false [(.str k1,.str v1),(.str k2,.str v2)]]) else .bad
theorem ziP {k1 v1 k2 v2 : Str} {n1 n2 n3 n4 : Nat} {p1 p2 p3 p4 : Pos} : PEA T E X (.Dict [some (.Constant (.str k1) n1 p1),some (.Constant (.str k2) n2 p2)] [.Constant (.str v1) n3 p3,.Constant (.str v2) n4 p4] pos) (yc7 k1 v1 k2 v2):=by
 refine yaE (zij (zd9 ydL ydL (zd9 ydL ydL zii)) rfl rfl (by simp) (by simp)) fun σ H Q ⟨ι,h,en,S,er,q⟩ p n=>?_
 unfold yc7 at q
 split at q
 ·rename_i hc
  obtain ⟨c1,c2,c3,c4,c5⟩:=hc
  have mk : yc3 [] [((Sum.inr k1 : Key),V.str v1),(Sum.inr k2,V.str v2)] = [(Sum.inr k1,V.str v1),(Sum.inr k2,V.str v2)]:=by
   have : ¬ ((Sum.inr k1 : Key) = Sum.inr k2):=fun z=>c1 (Sum.inr.inj z)
   simp [yc3,putK,this]
  refine ⟨zaf,[(Sum.inr k1,.str v1),(Sum.inr k2,.str v2)],rfl,by simp,?_⟩
  rw [mk,zhW]
  exact q (ι.add p) _ _ (S.growAdd n) (S.add n ⟨[(Sum.inr k1,.str v1),(Sum.inr k2,.str v2)],rfl,.cons ⟨rfl,.str c2 c3⟩ (.cons ⟨rfl,.str c4 c5⟩ .nil)⟩) (.ref S.addAt)
 ·exact q.elim
end
end Sm
namespace Sm
open PySem PySem.Spec L2
section
variable {T : Tb} {ι : Ix} {h : AH} {H : Hp}
end
section
variable {T : Tb} {E : St -> XK} {X : Cx} {pos apos : Pos} {a b c : Expr} {sa sb sc : SE}
end
section
variable {T : Tb} {E : St -> XK} {X : Cx} {pos : Pos} {a : Expr} {sa : SE} {sts : List Stmt} {s1 : SS}
end
def yf5 : List AV -> Option (List Int)
 | []=>some []
 | .int i :: r=>(yf5 r).map (i :: ·)
 | _ :: _=>none
section
variable {T : Tb} {E : St -> XK} {X : Cx} {pos p apos cpos kp : Pos} {a b : Expr} {sa sb : SE}
end
end Sm
namespace L2
open PySem PySem.Spec PyProof.Rows
theorem zfm (a b : Int) : Builtin.Range.rangeSize a b (-1) = (((a - b).toNat : Nat) : Int):=by
 unfold Builtin.Range.rangeSize
 rw [if_neg (by decide),show (- -1 : Int) = 1 from rfl,Int.ediv_one]
 split<;>omega
theorem zhK {a b : Int} (ha : a.natAbs < 2 ^ 40) (hb : b.natAbs < 2 ^ 40) : Builtin.Range.small a b (-1) = true:=by
 have l : (2 : Nat) ^ 40 < 2 ^ 42:=by decide
 have ha2 : a.natAbs < 1099511627776:=ha
 have hb2 : b.natAbs < 1099511627776:=hb
 unfold Builtin.Range.small
 rw [zaD (Nat.lt_trans ha l),zaD (Nat.lt_trans hb l),zaD (x:=-1) (by decide),zaD (x:=Builtin.Range.rangeSize a b (-1)) (by rw [zfm]; show _ < 4398046511104; omega),if_neg (by decide)]
 have fb:=zaD (Nat.lt_trans hb l)
 simp [fb]
section
variable {X : Cx} {tg : Expr}
def yif (ta : TA) : TI:=fun σ H R=>ta σ H fun vs H1=>∃ i j : Int,vs = [.int i,.int j,.int (-1)] /\ (i.natAbs < 2 ^ 40 /\ j.natAbs < 2 ^ 40) /\ R (Itr3 i (-1) (i - j).toNat) H1
theorem zgH {pins : List (Addr × Obj)} {σ : St} {H : Hp} {s : Shared} {R : It -> Hp -> Prop} {E : Value -> Shared -> Prop} {lo hi : Int} {t u v : Tok} {tk : Nat} (I : Inv X pins σ H s) (h1 : lo.natAbs < 2 ^ 40) (h2 : hi.natAbs < 2 ^ 40)
  (q : R (Itr3 lo (-1) (lo - hi).toNat) H) : wpAny (model X.prog X.w) X.A (pyIter (.ref s.heap.objs.size)) (PIE X pins σ tg R) E { s with heap:=s.heap.push { cls:=.type "range",data:=.fields #[.int lo t,.int hi u,.int (-1) v] },toks:=tk }:=by
 refine wpAny_pyIter_range (IsRange.new ..) (zhK h1 h2) ?_
 have I1 : Inv X pins σ H { s with heap:=s.heap.push { cls:=.type "range",data:=.fields #[.int lo t,.int hi u,.int (-1) v] },toks:=tk }:=I.kept fun b o e=>Heap.get?_push_of_some _ e
 refine ⟨(s.heap.push { cls:=.type "range",data:=.fields #[.int lo t,.int hi u,.int (-1) v] }).objs.size,[(s.heap.push { cls:=.type "range",data:=.fields #[.int lo t,.int hi u,.int (-1) v] }).objs.size],_,_,H,rfl,
  I1.kept (t' := tk) fun b o e=>Heap.get?_push_of_some _ e,zck _ lo (-1) (lo - hi).toNat,?_,fun b hb=>?_,q⟩
 ·have e1 : lo + ((0 : Nat) : Int) * (-1) = lo:=by simp
  have e2 : (((lo - hi).toNat : Nat) : Int) - ((0 : Nat) : Int) = Builtin.Range.rangeSize lo hi (-1):=by rw [zfm]; omega
  show IsRangeIter _ _ (lo + ((0 : Nat) : Int) * (-1)) ((((lo - hi).toNat : Nat) : Int) - ((0 : Nat) : Int)) (-1)
  rw [e1,e2]
  exact Heap.get?_push_size _ rfl
 ·have e : b = (s.heap.push { cls:=.type "range",data:=.fields #[.int lo t,.int hi u,.int (-1) v] }).objs.size:=by simpa using hb
  subst e
  exact I1.fpOk (Nat.le_refl _) (I1.hok.fresh (Nat.le_refl _))
theorem zgI {a b c : Expr} {ta : TA} {p pos : Pos} (hg : Gl X "range") (hm : X.mg "range" = none) (ha : PA X [a,b,c] ta) (hs : starEach [a,b,c] X.env = [(false,eval a X.env),(false,eval b X.env),(false,eval c X.env)]:=by rfl) (hs2 : starEach [b,c] X.env = [(false,eval b X.env),(false,eval c X.env)]:=by rfl) :
  PI X tg (.Call (.Name "range" p) [a,b,c] [] pos) (yif ta):=by
 intro pins s σ H R I h
 refine Call_ (ycK I hg hm boot_range (PyProof.Rows.callWith_type1 (thn (ha pos pins s σ H _ I h) fun us s1 ⟨vs,H1,I1,r1,q1⟩=>?_) (by rw [hs,hs2]) (by rw [hs2]; rfl)))
 obtain ⟨i,j,e,⟨q1,q2⟩,q⟩:=q1
 subst e
 cases r1 with
 | cons r rr =>
  cases rr with
  | cons r' rr =>
   cases rr with
   | cons r'' rr =>
    cases rr
    obtain ⟨t,rfl⟩:=r
    obtain ⟨t',rfl⟩:=r'
    obtain ⟨t'',rfl⟩:=r''
    exact call_range_3 (by decide) (zgH I1 q1 q2 q) (.inl (PyProof.noPylong_small (by decide)))
end
end L2
namespace Sm
open PySem PySem.Spec L2
def yiu (v : AV) (h : AH) : Option (List Int):=match v with
 | .ref n=>(match h[n]? with
  | some (.dct false kvs)=>yf5 (kvs.map (·.1))
  | _=>none)
 | _=>none
def sIsO (c : Nat) (a : SE) : SE:=fun en h=>(a en h).bind fun v h1=>match v with
 | .ref n=>(match h1[n]? with
  | some (.ins c' _)=>if c' = c then .ok (.bl true) h1 else .bad
  | _=>.bad)
 | _=>.bad
def dnA (i j : Int) : List AV:=(List.range (i - j).toNat).map fun m : Nat=>AV.int (i - m)
def yc0 (a b c : SE) : SI:=fun en h=>(a en h).bind fun v h1=>(b en h1).bind fun w h2=>(c en h2).bind fun z h3=>match v,w,z with
 | .int i,.int j,.int k=>if i.natAbs < 2 ^ 40 /\ j.natAbs < 2 ^ 40 /\ k = -1 then .ok (dnA i j,none) h3 else .bad
 | _,_,_=>.bad
section
variable {T : Tb} {E : St -> XK} {X : Cx} {pos p p' pos' : Pos} {a b c : Expr} {sa sb sc : SE}
structure KO1 (T : Tb) (mg : Str -> Option Value) (c : Nat) (t : Str) : Prop where
 ex : ∃ C,mg t = some (.ref C) /\ T.cls c = some C /\ Cls T.K C /\ PySem.W.findIn T.K (.ref C) "__class__" = some (some (.builtin "object.__class__")) /\ PySem.W.specialIn T.K (.builtin "object.__class__") "__get__" = some (some (.builtin "getset_descriptor.__get__")) /\ PySem.W.takesIn T.K (.builtin "object.__class__") = some true /\ PySem.W.mroIn T.K C (.type "object") = some true /\ PySem.W.kitOne T.K (.ref C) (.ref C) = some true
theorem yf6 {t : Str} {p2 : Pos} {cn : Nat} (hK : X.K = T.K) (hg : Gl X "isinstance") (hm : X.mg "isinstance" = none) (ha : PEA T E X a sa) (hgt : Gl X t) (hp : KO1 T X.mg cn t) (hd : (t == ("__debug__" : Str)) = false:=by decide)
  (he : starEach [a,.Name t p2] X.env = (false,eval a X.env) :: starEach [.Name t p2] X.env:=by rfl) : PEA T E X (.Call (.Name "isinstance" p) [a,.Name t p2] [] pos) (sIsO cn sa):=by
 obtain ⟨C,h1,h2,h3,h4,h5,h6,h7,h8⟩:=hp.ex
 refine yaE (zcq (zec (X:=X) (ygR C)) hg hm PyProof.Rows.boot_isinstance (za9 ha (za9 (zb2 (v:=.ref C) hgt h1 rfl hd) yd4) he) (he:=he)) fun σ H Q ⟨ι,h,en,S,er,q⟩=>⟨ι,h,en,S,er,q.bind fun v hh1 ι1 H1 u g1 S1 r1 q1=>?_⟩
 split at q1
 ·rename_i n
  split at q1
  ·rename_i c' fs hn
   split at q1
   ·rename_i ec
    subst ec
    cases r1 with
    | @ref _ ad hr =>
     obtain ⟨ob,e1,C',dx,fus,k1,rfl,_⟩:=S1.obj n _ ad hn hr
     rw [h2] at k1; cases k1
     exact ⟨.ref ad,.ref C,true,rfl,.ins e1 (hK ▸ h3) (hK ▸ h4) (hK ▸ h5) (hK ▸ h6) (hK ▸ h7),hK ▸ h8,q1.now S1 (.bl _)⟩
   ·exact q1.elim
  ·exact q1.elim
 ·exact q1.elim
theorem yha {ι : Ix} {H : Hp} {i j : Int} : ItR T (Itr3 i (-1) (i - j).toNat) ι H (dnA i j) none:=by
 have:=zcP (T:=T) (ι:=ι) (H:=H) (lo:=i) (c:=-1) (n:=(i - j).toNat)
 have e : (List.range (i - j).toNat).map (fun m : Nat=>AV.int (i + m * (-1))) = dnA i j:=List.map_congr_left fun m _=>by congr 1; omega
 rw [e] at this
 exact this
theorem zgJ {tg : Expr} (hg : Gl X "range") (hm : X.mg "range" = none) (ha : PEA T E X a sa) (hb : PEA T E X b sb) (hc : PEA T E X c sc) (hs : starEach [a,b,c] X.env = [(false,eval a X.env),(false,eval b X.env),(false,eval c X.env)]:=by rfl) (hs2 : starEach [b,c] X.env = [(false,eval b X.env),(false,eval c X.env)]:=by rfl) (hs3 : starEach [c] X.env = [(false,eval c X.env)]:=by rfl) :
  PIA T X tg (.Call (.Name "range" p) [a,b,c] [] pos) (yc0 sa sb sc) :=
 yds (zgI hg hm (zaa ha (zaa hb (zaa hc yac hs3) (by rw [hs2,hs3])) (by rw [hs,hs2])) hs hs2) fun σ H R ⟨ι,h,en,S,er,q⟩=>by
  unfold yc0 at q
  refine ⟨ι,h,en,S,er,?_⟩
  unfold yab
  cases e : sa en h with
  | bad=>rw [e] at q; exact q
  | ex c h1=>rw [e] at q; exact q.elim
  | ok v h1 =>
   rw [e] at q
   dsimp only [Out.bind] at q ⊢
   cases e' : sb en h1 with
   | bad=>rw [e'] at q; exact q
   | ex c h1=>rw [e'] at q; exact q.elim
   | ok v' h2 =>
    rw [e'] at q
    dsimp only at q ⊢
    cases e'' : sc en h2 with
    | bad=>rw [e''] at q; exact q
    | ex c h1=>rw [e''] at q; exact q.elim
    | ok v'' h3 =>
     rw [e''] at q
     dsimp only at q
     intro ι1 H1 u g1 S1 r1
     split at q
     ·rename_i hx
      split at hx
      ·split at hx
       ·rename_i hb
        obtain ⟨b1,b2,rfl⟩:=hb
        cases hx
        cases r1 with
        | cons r r' =>
         cases r' with
         | cons r2 r3 =>
          cases r3 with
          | cons r4 r5 =>
           cases r5
           rw [yax r,yax r2,yax r4]
           exact ⟨_,_,rfl,⟨b1,b2⟩,q ι1 H1 _ g1 S1 yha⟩
       ·cases hx
      ·cases hx
     ·exact q.elim
end
end Sm
namespace Sm
open PySem PySem.Spec L2
def getG (D : List (Str × Str)) (x : Str) : Option Str:=(D.find? fun p=>decide (p.1 = x)).map (·.2)
def ye2 (D : List (Str × Str)) (a : SE) : SE:=fun en h=>(a en h).bind fun v h1=>match v with
 | .str x=>(match getG D x with
  | some y=>.ok (.str y) h1
  | none=>.ok .non h1)
 | _=>.bad
def tabG (D : List (Str × Str)) : List (PyData × PyData):=D.map fun p=>(PyData.str p.1,PyData.str p.2)
theorem yhb (x : Str) (D : List (Str × Str)) : PySem.Spec.lookup (.str x) (tabG D) = (getG D x).map PyData.str:=by
 have h:=PyProof.V.lookup_enc (enc:=PyData.str) PyProof.V.same_str x (D.map fun p=>(p.1,PyData.str p.2))
 rw [List.map_map] at h
 unfold tabG getG
 refine h.trans ?_
 rw [List.find?_map,Option.map_map,Option.map_map]
 rfl
structure KG (P : Program) (w : World) (K : PySem.W.Frag) (mg : Str -> Option Value) (t : Str) (D : List (Str × Str)) : Prop where
 ex : ∃ a,mg t = some (.ref a) /\ ∀ h,K.In h -> PyProof.Rows.StrTab P w h a (tabG D)
 ok : ∀ p ∈ D,p.2.length <= sizeLine /\ p.2.cps.all (· < 0x110000) = true
theorem yig {P : Program} {w : World} {K : PySem.W.Frag} {mg : Str -> Option Value} {t : Str} {a : Addr} {D : List (Str × Str)} (hm : mg t = some (.ref a)) (ht : PyProof.Rows.KTD.tabLook PyProof.Rows.KTD.flatLooks (fun b=>K.lookup b) a (D.map fun p=>(p.1,PyData.str p.2)) = true)
  (hq : PyProof.Rows.KTD.hashesOf (fun b=>K.lookup b) a = D.map fun p=>(PySem.strKind P w).hash p.1) (hn : (D.map (·.1)).Nodup) (ok : ∀ p ∈ D,p.2.length <= sizeLine /\ p.2.cps.all (· < 0x110000) = true) : KG P w K mg t D :=
 ⟨⟨a,hm,fun h x=>by
  have:=PySem.W.kt_tab_in P w x ht (by rw [List.map_map]; exact hn) (by rw [List.map_map]; exact hq)
  rw [List.map_map] at this
  exact this⟩,ok⟩
section
variable {T : Tb} {E : St -> XK} {X : Cx} {b : Expr} {sb : SE} {p apos cpos : Pos} {t : Str}
def vG (D : List (Str × Str)) (x : Str) : V:=match getG D x with
 | some y=>.str y
 | none=>.non
theorem ziQ {D : List (Str × Str)} {ta : TA} (hg : Gl X t) (hk : KG X.prog X.w X.K X.mg t D) (ha : PA X [b] ta) (hd : (t == ("__debug__" : Str)) = false:=by decide)
  (hbase : attributeBase (.Name t p) "get" X.env (eval (.Name t p) X.env) = eval (.Name t p) X.env:=by rfl)
  (hfew : ((backTo cpos (starEach [b] X.env)).all (fun x=>!x.1) && (backToKw cpos (keywordEach [] X.env)).all (fun x=>x.1.isSome)
   && decide ([b].length + ([] : List Keyword).length + (if ([] : List Keyword).isEmpty then 0 else 1) < 30)) = true:=by rfl)
  (hline : (apos.endLine == cpos.line) = true:=by rfl) (hs : starEach [b] X.env = (false,eval b X.env) :: starEach [] X.env:=by rfl) (hplain : (backTo cpos (starEach [] X.env)).any (·.1) = false:=by rfl) :
  PE X (.Call (.Attribute (.Name t p) "get" apos) [b] [] cpos) (fun σ H Q=>ta σ H fun vs H1=>∃ x,vs = [.str x] /\ Q (vG D x) H1):=by
 obtain ⟨⟨a,hm,tb⟩,ok⟩:=hk
 intro pins s σ H Q I h
 have ho : PE X (.Name t p) (tC (.ref a)):=zb2 hg hm rfl hd
 refine wpAny_Call_method_late hbase hfew hline rfl (thn (ho pins s σ H (fun x H1=>x = .ref a /\ ta σ H1 fun vs H1=>∃ x,vs = [.str x] /\ Q (vG D x) H1) I ⟨rfl,h⟩) fun v s1 ⟨x,H1,I1,r1,ex,q1⟩=>?_)
 subst ex
 have r1' : v = .ref a:=r1
 subst r1'
 obtain ⟨_,kvs,hd1,_⟩:=tb s1.heap (fun b o q=>I1.kIn b o q)
 refine ⟨"dict", "dict.get",PySem.F.plainAttrs_dict,PySem.F.slot_dict_get,PySem.F.type_dict_get,hd1.typeIs,hd1.mapOf.noDict,?_⟩
 have hA:=ha cpos pins s1 σ H1 _ I1 q1
 rw [hs] at hA ⊢
 refine Calls.callWith_builtin (by show (false || (backTo cpos (starEach [] X.env)).any (·.1)) = false; rw [hplain]<;>rfl) (Calls.evalArgs_plain ?_)
 refine thn hA fun us s2 ⟨vs,H2,I2,r2,x,ex,q2⟩=>?_
 subst ex
 obtain ⟨u,rfl,t',rfl⟩:=ybP r2
 refine PyProof.Rows.call_get1_strTab (tb s2.heap (fun b o q=>I2.kIn b o q)) fun v hv=>?_
 rw [yhb] at hv
 unfold vG at q2
 cases e : getG D x with
 | none =>
  rw [e] at hv q2
  obtain rfl:=PyProof.V.Flat.none_inv hv
  exact ⟨.non,H2,I2.tok _,rfl,q2⟩
 | some y =>
  rw [e] at hv q2
  obtain ⟨t2,rfl⟩:=PyProof.V.Flat.str_inv hv
  exact ⟨.str y,H2,I2.tok _,⟨_,rfl⟩,q2⟩
theorem yhc {D : List (Str × Str)} (hg : Gl X t) (hk : KG X.prog X.w X.K X.mg t D) (hb : PEA T E X b sb) (hd : (t == ("__debug__" : Str)) = false:=by decide)
  (hbase : attributeBase (.Name t p) "get" X.env (eval (.Name t p) X.env) = eval (.Name t p) X.env:=by rfl)
  (hfew : ((backTo cpos (starEach [b] X.env)).all (fun x=>!x.1) && (backToKw cpos (keywordEach [] X.env)).all (fun x=>x.1.isSome)
   && decide ([b].length + ([] : List Keyword).length + (if ([] : List Keyword).isEmpty then 0 else 1) < 30)) = true:=by rfl)
  (hline : (apos.endLine == cpos.line) = true:=by rfl) (hs : starEach [b] X.env = (false,eval b X.env) :: starEach [] X.env:=by rfl) (hplain : (backTo cpos (starEach [] X.env)).any (·.1) = false:=by rfl) :
  PEA T E X (.Call (.Attribute (.Name t p) "get" apos) [b] [] cpos) (ye2 D sb):=by
 refine yaE (ziQ hg hk (za9 hb yd4 hs) hd hbase hfew hline hs hplain) fun σ H Q ⟨ι,h,en,S,er,q⟩=>⟨ι,h,en,S,er,q.bind fun v hh1 ι1 H1 u g1 S1 r1 q1=>?_⟩
 split at q1
 ·rename_i x
  cases r1
  refine ⟨x,rfl,?_⟩
  unfold vG
  cases e : getG D x with
  | none=>rw [e] at q1; exact q1.now S1 .non
  | some y =>
   rw [e] at q1
   obtain ⟨pr,f,rfl⟩:=Option.map_eq_some_iff.mp e
   have:=hk.ok pr (List.mem_of_find?_eq_some f)
   exact q1.now S1 (.str this.1 this.2)
 ·exact q1.elim
end
end Sm
namespace Sm
open PySem PySem.Spec L2
def yee : Fn:=fun args h=>match args with
 | [.str x]=>if x.length <= 640 then (match PySem.intText? x with
  | some n=>.ok (.int n) h
  | none=>.bad) else .bad
 | _=>.bad
section
variable {T : Tb} {E : St -> XK} {X : Cx}
theorem ziR : yb4 X EN:=fun _ _ _ _ _ _ _ q=>q.elim
theorem zgK : CallR X (.type "int") (fun xs H Q=>∃ x n,xs = [.str x] /\ x.length <= 640 /\ PySem.intText? x = some n /\ Q (.int n) H):=by
 intro pins s σ H xs us Q I r ⟨x,n,e,hl,hn,q⟩
 subst e
 obtain ⟨u,rfl,t,rfl⟩:=ybP r
 exact PySem.W.KIN.call_text hn hl ⟨.int n,H,I.tok _,⟨_,rfl⟩,q⟩
theorem yhd : ∃ r,CallR X (.type "int") r /\ ycv T yee r:=by
 refine ⟨_,zgK,fun ι h H xs us E Q S r q=>?_⟩
 unfold yee at q
 split at q
 ·split at q
  ·rename_i x hl
   split at q
   ·rename_i n hn
    cases r with
    | cons r r' => cases r'; cases r; exact ⟨x,n,rfl,hl,hn,q.now S (.int _)⟩
   ·exact q.elim
  ·exact q.elim
 ·exact q.elim
end
end Sm
namespace Sk
open PySem PySem.Spec L2 Sm
def D_MARKED : List (Str × Str):=[("n", "\n"),("\\", "\\")]
abbrev ygg : Nat:=0
abbrev yio : Nat:=1
abbrev yih : Nat:=2
abbrev yfO : Nat:=3
abbrev ye3 : Nat:=4
abbrev ye4 : Nat:=5
abbrev yiq : Nat:=6
abbrev yip : Nat:=7
def yc8 (c : Nat) : Bool:=[true,true,true,true,true,true,true,true].getD c false
def ya7 : Fn:=mkFn 1 1
  (sSeq (yb6 0 0 (sVar 0) (yb5 sNil))
  (sSeq (yb6 0 1 (sVar 0) (yeq true))
  (sSeq (yb6 0 2 (sVar 0) (yb5 (yab (sLit (.int 0)) sNil)))
  (sSeq (yb6 0 3 (sVar 0) (yb5 (yab (sLit (.int 0)) sNil)))
  (sSeq (yb6 0 4 (sVar 0) (yb5 (yab (sLit (.int 0)) sNil)))
  (sSeq (yb6 0 5 (sVar 0) (yb5 (yab (sOp1 fNeg (sLit (.int 1))) sNil)))
  (sSeq (yb6 0 6 (sVar 0) (yb5 (yab (sLit (.int 0)) sNil)))
  (yb6 0 7 (sVar 0) (yb5 (yab (sLit (.int 0)) sNil))))))))))
def yai : Fn:=mkFn 1 1
  (sRet (yae fLen (yab (Sm.sFld 0 0 (sVar 0)) sNil)))
def ya8 : Fn:=mkFn 1 1
  (sRet (sOrV (sOp2 fEq (sVar 0) (sLit (.str "\n"))) (ybZ fLe fLe (sLit (.str " ")) (sVar 0) (sLit (.str "~")))))
def ycx : Fn:=mkFn 1 1
  (sSeq (sIf (sNot (ybJ (sIsB "str" (sVar 0)))) (sRet (sLit (.bl false))) yaA)
  (sRet (yae fAll (yab (ya1 [] (iVal (sVar 0)) sYes (yae ya8 (yab (sVar 0) sNil))) sNil))))
def ycV : Fn:=mkFn 1 1
  (sRet (ydX (yae ycx (yab (sVar 0) sNil)) (ybZ fLe fLe (sLit (.int 1)) (yae fLen (yab (sVar 0) sNil)) (sLit (.int 8)))))
def ycf : Fn:=mkFn 2 3
  (sSeq (yaG (sBM ya2 yaD (Sm.sFld 0 0 (sVar 0)) (yab (sVar 1) sNil)))
  (sSeq (sSet 2 (yae fLen (yab (Sm.sFld 0 0 (sVar 0)) sNil)))
  (sSeq (ycs (Sm.sFld 0 1 (sVar 0)) (sVar 1) (sVar 2))
  (sRet (sVar 2)))))
def ydl : Fn:=mkFn 1 1
  (sRet (sBM ybj yen (sVar 0) (yab (sLit (.str "\n")) sNil)))
def yby : Fn:=mkFn 2 4
  (sSeq (sSet 2 (yaj 0 ycf (sVar 0) (yab (sVar 1) sNil)))
  (sSeq (sSet 3 (sOp2 fIx (sVar 1) (sLit (.int 1))))
  (sSeq (yaG (sBM ya2 yaD (Sm.sFld 0 2 (sVar 0)) (yab (yae fLen (yab (sVar 3) sNil)) sNil)))
  (sSeq (yaG (sBM ya2 yaD (Sm.sFld 0 3 (sVar 0)) (yab (yae ydl (yab (sVar 3) sNil)) sNil)))
  (sSeq (yaG (sBM ya2 yaD (Sm.sFld 0 4 (sVar 0)) (yab (sLit (.int 1)) sNil)))
  (sSeq (yaG (sBM ya2 yaD (Sm.sFld 0 5 (sVar 0)) (yab (sLit (.int 0)) sNil)))
  (sSeq (yaG (sBM ya2 yaD (Sm.sFld 0 6 (sVar 0)) (yab (sVar 2) sNil)))
  (yaG (sBM ya2 yaD (Sm.sFld 0 7 (sVar 0)) (yab (sVar 2) sNil))))))))))
def yat : Fn:=mkFn 2 3
  (sSeq (sIf (sNot (ybJ (yae ycV (yab (sVar 1) sNil)))) (ycr 1 (yab (sLit (.str "a leaf is a plain text of one to eight signs")) sNil)) yaA)
  (sSeq (sSet 2 (sTup (yab (sLit (.str "leaf")) (yab (sVar 1) sNil))))
  (sSeq (sIf (yam (sOp2 yeF (sVar 2) (Sm.sFld 0 1 (sVar 0)))) (yaG (yaj 0 yby (sVar 0) (yab (sVar 2) sNil))) yaA)
  (sRet (sOp2 fIx (Sm.sFld 0 1 (sVar 0)) (sVar 2))))))
def ycW : Fn:=mkFn 1 1
  (sRet (ydX (sIsB "int" (sVar 0)) (yfV (sIsB "bool" (sVar 0)))))
def ybK : Fn:=mkFn 2 2
  (sRet (ydX (yae ycW (yab (sVar 1) sNil)) (ybZ fLe fLe (sLit (.int 1)) (sVar 1) (yae fLen (yab (Sm.sFld 0 0 (sVar 0)) sNil)))))
def yaT : Fn:=mkFn 2 2
  (sIf (sNot (ybJ (yaj 0 ybK (sVar 0) (yab (sVar 1) sNil)))) (ycr 2 (yab (sLit (.str "no piece of the shelf has this number")) sNil)) yaA)
def yaR : Fn:=mkFn 3 4
  (sSeq (yaG (yaj 0 yaT (sVar 0) (yab (sVar 1) sNil)))
  (sSeq (yaG (yaj 0 yaT (sVar 0) (yab (sVar 2) sNil)))
  (sSeq (sSet 3 (sOp2 fAdd (sOp2 fIx (Sm.sFld 0 2 (sVar 0)) (sOp2 fIx (Sm.sFld 0 7 (sVar 0)) (sVar 1))) (sOp2 fIx (Sm.sFld 0 2 (sVar 0)) (sOp2 fIx (Sm.sFld 0 6 (sVar 0)) (sVar 2)))))
  (sSeq (sIf (yam (sOp2 fLe (sVar 3) (sLit (.int 8)))) (ycr 3 (yab (sLit (.str "the leaves where the parts meet have no more than eight signs together")) sNil)) yaA)
  (sSeq (sIf (yam (sOp2 fGt (yae fAbs (yab (sOp2 fSub (sOp2 fIx (Sm.sFld 0 5 (sVar 0)) (sVar 1)) (sOp2 fIx (Sm.sFld 0 5 (sVar 0)) (sVar 2))) sNil)) (sLit (.int 1)))) (ycr 4 (yab (sLit (.str "the heights of the parts differ by more than one")) sNil)) yaA)
  (sIf (yam (sOp2 fGt (sOp2 fAdd (sOp2 fIx (Sm.sFld 0 2 (sVar 0)) (sVar 1)) (sOp2 fIx (Sm.sFld 0 2 (sVar 0)) (sVar 2))) (sLit (.int 1000000000000000000)))) (ycr 5 (yab (sLit (.str "the fork would have more than 10 ** 18 signs")) sNil)) yaA))))))
def ybz : Fn:=mkFn 2 4
  (sSeq (yaG (yaj 0 ycf (sVar 0) (yab (sVar 1) sNil)))
  (sSeq (sSet 2 (sOp2 fIx (sVar 1) (sLit (.int 1))))
  (sSeq (sSet 3 (sOp2 fIx (sVar 1) (sLit (.int 2))))
  (sSeq (yaG (sBM ya2 yaD (Sm.sFld 0 2 (sVar 0)) (yab (sOp2 fAdd (sOp2 fIx (Sm.sFld 0 2 (sVar 0)) (sVar 2)) (sOp2 fIx (Sm.sFld 0 2 (sVar 0)) (sVar 3))) sNil)))
  (sSeq (yaG (sBM ya2 yaD (Sm.sFld 0 3 (sVar 0)) (yab (sOp2 fAdd (sOp2 fIx (Sm.sFld 0 3 (sVar 0)) (sVar 2)) (sOp2 fIx (Sm.sFld 0 3 (sVar 0)) (sVar 3))) sNil)))
  (sSeq (yaG (sBM ya2 yaD (Sm.sFld 0 4 (sVar 0)) (yab (sOp2 fAdd (sOp2 fIx (Sm.sFld 0 4 (sVar 0)) (sVar 2)) (sOp2 fIx (Sm.sFld 0 4 (sVar 0)) (sVar 3))) sNil)))
  (sSeq (yaG (sBM ya2 yaD (Sm.sFld 0 5 (sVar 0)) (yab (sOp2 fAdd (yae ydY (yab (sOp2 fIx (Sm.sFld 0 5 (sVar 0)) (sVar 2)) (yab (sOp2 fIx (Sm.sFld 0 5 (sVar 0)) (sVar 3)) sNil))) (sLit (.int 1))) sNil)))
  (sSeq (yaG (sBM ya2 yaD (Sm.sFld 0 6 (sVar 0)) (yab (sOp2 fIx (Sm.sFld 0 6 (sVar 0)) (sVar 2)) sNil)))
  (yaG (sBM ya2 yaD (Sm.sFld 0 7 (sVar 0)) (yab (sOp2 fIx (Sm.sFld 0 7 (sVar 0)) (sVar 3)) sNil)))))))))))
def yaC : Fn:=mkFn 3 4
  (sSeq (yaG (yaj 0 yaR (sVar 0) (yab (sVar 1) (yab (sVar 2) sNil))))
  (sSeq (sSet 3 (sTup (yab (sLit (.str "fork")) (yab (sVar 1) (yab (sVar 2) sNil)))))
  (sSeq (sIf (yam (sOp2 yeF (sVar 3) (Sm.sFld 0 1 (sVar 0)))) (yaG (yaj 0 ybz (sVar 0) (yab (sVar 3) sNil))) yaA)
  (sRet (sOp2 fIx (Sm.sFld 0 1 (sVar 0)) (sVar 3))))))
def yaJ : SS :=
  (sSeq (sIf (ybJ (sVar 2)) (sSeq (sSet 4 (ye2 D_MARKED (sVar 3)))
  (sSet 2 (sLit (.bl false)))) (sIf (yam (sOp2 fEq (sVar 3) (sLit (.str "\\")))) (sSeq (sSet 4 (sLit (.str "")))
  (sSet 2 (sLit (.bl true)))) (sSet 4 (sIfE (sAnd (yam (sOp2 fNe (sVar 3) (sLit (.str "\n")))) (ybJ (yae ya8 (yab (sVar 3) sNil)))) (sVar 3) (sLit .non)))))
  (sSeq (sIf (yam (sOp2 fIsN (sVar 4) (sLit .non))) (sRet (sLit .non)) yaA)
  (yaG (sBM ya2 yaD (sVar 1) (yab (sVar 4) sNil)))))
def ybM : Fn:=mkFn 1 5
  (sSeq (sSet 1 (yb5 sNil))
  (sSeq (sSet 2 (sLit (.bl false)))
  (sSeq (sFor (iVal (sVar 0)) (.nm 3) yaJ)
  (sRet (sIfE (ybJ (sVar 2)) (sLit .non) (sBM ybj ybD (sLit (.str "")) (yab (sVar 1) sNil)))))))
def ybo : Fn:=mkFn 1 1
  (sSeq (sIf (sNot (yam (ybZ fLe fLe (sLit (.int 1)) (yae fLen (yab (sVar 0) sNil)) (sLit (.int 30))))) (sRet (sLit .non)) yaA)
  (sSeq (sIf (sNot (ybJ (yae fAll (yab (ya1 [] (iVal (sVar 0)) sYes (ybZ fLe fLe (sLit (.str "0")) (sVar 0) (sLit (.str "9")))) sNil)))) (sRet (sLit .non)) yaA)
  (sSeq (sIf (sAnd (yam (sOp2 fNe (sVar 0) (sLit (.str "0")))) (ybJ (sBM ybj ybI (sVar 0) (yab (sLit (.str "0")) sNil)))) (sRet (sLit .non)) yaA)
  (sRet (yae yee (yab (sVar 0) sNil))))))
def ybn : Fn:=mkFn 2 3
  (sSeq (sSet 2 (sBM ybj ycw (sVar 1) (yab (sLit (.str " ")) sNil)))
  (sSeq (sIf (ybJ (sBM ybj ybI (sVar 1) (yab (sLit (.str "leaf ")) sNil))) (sRet (yaj 0 yat (sVar 0) (yab (yae ybM (yab (sCut (sVar 1) (some (yae fLen (yab (sLit (.str "leaf ")) sNil))) none) sNil)) sNil))) yaA)
  (sSeq (sIf (sAnd (yam (sOp2 fEq (sOp2 fIx (sVar 2) (sLit (.int 0))) (sLit (.str "fork")))) (yam (sOp2 fEq (yae fLen (yab (sVar 2) sNil)) (sLit (.int 3))))) (sRet (yaj 0 yaC (sVar 0) (yab (yae ybo (yab (sOp2 fIx (sVar 2) (sLit (.int 1))) sNil)) (yab (yae ybo (yab (sOp2 fIx (sVar 2) (sLit (.int 2))) sNil)) sNil)))) yaA)
  (ycr 7 (yab (sLit (.str "a row tells a leaf or a fork")) sNil)))))
def ycN : Fn:=mkFn 2 4
  (sSeq (sSet 2 (yaj 0 yai (sVar 0) sNil))
  (sSeq (yeZ yc8 (sSet 3 (yae ybn (yab (sVar 0) (yab (sVar 1) sNil)))) (sRet (sLit (.bl false))))
  (sRet (sOp2 fGt (sVar 3) (sVar 2)))))
def ybg : SS :=
  (sIf (sNot (ybJ (yae ycN (yab (sVar 1) (yab (sVar 3) sNil))))) (yeT 6 (yab (sVar 2) sNil)) yaA)
def ya3 : Fn:=mkFn 1 4
  (sSeq (sSet 1 (ydj 0 8 ya7 sNil))
  (sSeq (sIf (yam (sOp2 fEq (sVar 0) (sLit (.str "")))) (sRet (sVar 1)) yaA)
  (sSeq (sFor (Sm.iEnum (sBM ybj ycw (sVar 0) (yab (sLit (.str "\n")) sNil))) (.tup [2,3]) ybg)
  (sRet (sVar 1)))))
def ycI : Fn:=mkFn 2 3
  (sSeq (sSet 2 (sOp2 fMod (sOp2 fMul (sOp2 fAdd (sOp2 fAdd (sOp2 fMod (sVar 0) (sLit (.int 1000000007))) (sOp2 fMul (sLit (.int 7919)) (sVar 1))) (sLit (.int 1))) (sLit (.int 48271))) (sLit (.int 2147483647))))
  (sRet (sOp2 fMod (sOp2 fMul (sOp2 fMod (sOp2 fMul (sVar 2) (sVar 2)) (sLit (.int 2147483629))) (sLit (.int 69621))) (sLit (.int 2147483647)))))
def ybt : SS :=
  (sSet 2 (sOp2 fAdd (sOp2 fMul (sVar 2) (sOp2 fPow (sLit (.int 10)) (sLit (.int 60)))) (sOp2 fMod (sOp2 fIx (sVar 0) (sVar 3)) (sOp2 fPow (sLit (.int 10)) (sLit (.int 60))))))
def ybu : SS :=
  (sSet 4 (sOp2 fAdd (sOp2 fMul (sVar 4) (sLit (.int 2147483647))) (yae ycI (yab (sOp2 fAdd (sOp2 fAdd (sVar 2) (sOp2 fMul (sLit (.int 1009)) (sVar 1))) (yae fLen (yab (sVar 0) sNil))) (yab (sVar 3) sNil)))))
def yaQ : Fn:=mkFn 2 5
  (sSeq (sSet 2 (sLit (.int 0)))
  (sSeq (sFor (yb8 (sVar 1) (yae fLen (yab (sVar 0) sNil)) (sLit (.int 5))) (.nm 3) ybt)
  (sSeq (sIf (yam (sOp2 fGe (sVar 2) (sOp2 fPow (sLit (.int 10)) (sLit (.int 18))))) (sRet (yb5 (yab (sVar 2) sNil))) yaA)
  (sSeq (sSet 2 (sOp2 fAdd (sVar 2) (yae fSum (yab (ya1 [] (iVal (sVar 0)) sYes (sOp2 fMod (sVar 0) (sOp2 fPow (sLit (.int 10)) (sLit (.int 18))))) sNil))))
  (sSeq (sSet 4 (sLit (.int 0)))
  (sSeq (sFor (yaW (sLit (.int 30))) (.nm 3) ybu)
  (sRet (yb5 (yab (sOp2 fDiv (sVar 4) (sLit (.int 64))) sNil)))))))))
def yah : Fn:=mkFn 2 3
  (sSeq (sSet 2 (sOp2 fMod (sOp2 fIx (sVar 0) (sLit (.int 0))) (sVar 1)))
  (sSeq (ycs (sVar 0) (sLit (.int 0)) (sOp2 fDiv (sOp2 fIx (sVar 0) (sLit (.int 0))) (sVar 1)))
  (sRet (sVar 2))))
def ybU : Fn:=mkFn 1 3
  (sSeq (sSet 1 (sLit (.str "abcdefghijklmnopqrstuvwxyzABCDEFGHIJKLMNOPQRSTUVWXYZ0123456789")))
  (sSeq (sSet 1 (sOp2 fAdd (sVar 1) (sLit (.str " !\"#$&'()*+,-./:;<=>?\x40[\\]^_`{|}~\n"))))
  (sSeq (sSet 2 (sLst (yab (sLit (.str "ab")) (yab (sLit (.str "aab\n")) (yab (sLit (.str "a\n")) (yab (sVar 1) (yab (sLit (.str "n\\\n")) sNil)))))))
  (sRet (sOp2 fIx (sVar 2) (yae yah (yab (sVar 0) (yab (sLit (.int 5)) sNil))))))))
def ycy (G : Fn) : Fn:=mkFn 5 12
  (sSeq (sIf (yam (sOp2 fEq (sVar 3) (sLit (.int 0)))) (sSeq (sSet 5 (yae ydY (yab (sLit (.int 1)) (yab (sOp2 fSub (sLit (.int 9)) (sVar 4)) sNil))))
  (sSeq (sSet 6 (sOp2 fAdd (sVar 5) (yae yah (yab (sVar 1) (yab (sOp2 fSub (sLit (.int 9)) (sVar 5)) sNil)))))
  (sSeq (sSet 7 (sBM ybj ybD (sLit (.str "")) (yab (ya1 [2,1] (yaW (sVar 6)) sYes (sOp2 fIx (sVar 1) (yae yah (yab (sVar 2) (yab (yae fLen (yab (sVar 1) sNil)) sNil))))) sNil)))
  (sRet (sTup (yab (yaj 0 yat (sVar 0) (yab (sVar 7) sNil)) (yab (sVar 7) (yab (sVar 6) sNil)))))))) yaA)
  (sSeq (sSet 8 (sOp2 fMul (sOp2 fIx (sLst (yab (sLit (.int 0)) (yab (sLit (.int 0)) (yab (sLit (.int 1)) sNil)))) (yae yah (yab (sVar 1) (yab (sLit (.int 3)) sNil)))) (yae fInt (yab (sOp2 fGt (sVar 3) (sLit (.int 1))) sNil))))
  (sSeq (sSet 9 (yae yah (yab (sVar 1) (yab (sLit (.int 2)) sNil))))
  (sSeq (sSet 10 (yae G (yab (sVar 0) (yab (sVar 1) (yab (sVar 2) (yab (sOp2 fSub (sOp2 fSub (sVar 3) (sLit (.int 1))) (sOp2 fMul (sVar 8) (sVar 9))) (yab (sVar 4) sNil)))))))
  (sSeq (sSet 11 (yae G (yab (sVar 0) (yab (sVar 1) (yab (sVar 2) (yab (sOp2 fSub (sOp2 fSub (sVar 3) (sLit (.int 1))) (sOp2 fMul (sVar 8) (sOp2 fSub (sLit (.int 1)) (sVar 9)))) (yab (sOp2 fIx (sVar 10) (sLit (.int 2))) sNil)))))))
  (sRet (sTup (yab (yaj 0 yaC (sVar 0) (yab (sOp2 fIx (sVar 10) (sLit (.int 0))) (yab (sOp2 fIx (sVar 11) (sLit (.int 0))) sNil))) (yab (sOp2 fAdd (sOp2 fIx (sVar 10) (sLit (.int 1))) (sOp2 fIx (sVar 11) (sLit (.int 1)))) (yab (sOp2 fIx (sVar 11) (sLit (.int 2))) sNil))))))))))
def ybs : Nat -> Fn
 | 0=>mkFn 5 12 (fun _ _=>.bad)
 | d + 1=>ycy (ybs d)
def ybR : Fn:=mkFn 3 5
  (sSeq (sSet 3 (yae ybU (yab (sVar 1) sNil)))
  (sSeq (sIf (yam (sOp2 fEq (yae yah (yab (sVar 1) (yab (sLit (.int 8)) sNil))) (sLit (.int 7)))) (sRet (sTup (yab (sLit (.int 0)) (yab (sLit (.str "")) sNil)))) yaA)
  (sSeq (sSet 4 (yae (ybs 10) (yab (sVar 0) (yab (sVar 1) (yab (sVar 3) (yab (yae yah (yab (sVar 1) (yab (sOp2 fAdd (sVar 2) (sLit (.int 1))) sNil))) (yab (sLit (.int 8)) sNil)))))))
  (sRet (sTup (yab (sOp2 fIx (sVar 4) (sLit (.int 0))) (yab (sOp2 fIx (sVar 4) (sLit (.int 1))) sNil)))))))
def ya9 : SS :=
  (sIf (yam (sOp2 fLe (sOp2 fMul (sOp2 fMul (yae fLen (yab (sVar 4) sNil)) (sVar 6)) (sLit (.int 2))) (sOp2 fPow (sLit (.int 10)) (sLit (.int 18))))) (sSeq (sSet 3 (yaj 0 yaC (sVar 0) (yab (sVar 3) (yab (sVar 3) sNil))))
  (sSet 6 (sOp2 fMul (sVar 6) (sLit (.int 2))))) yaA)
def ycz : Fn:=mkFn 2 8
  (sSeq (sSet 2 (yae ybU (yab (sVar 1) sNil)))
  (sSeq (yfW (.tup [3,4,5]) (yae (ybs 10) (yab (sVar 0) (yab (sVar 1) (yab (sVar 2) (yab (yae yah (yab (sVar 1) (yab (sLit (.int 4)) sNil))) (yab (sLit (.int 1)) sNil)))))))
  (sSeq (sSet 6 (sLit (.int 1)))
  (sSeq (sFor (yaW (yae yah (yab (sVar 1) (yab (sLit (.int 60)) sNil)))) (.nm 7) ya9)
  (sRet (sTup (yab (sVar 3) (yab (sVar 4) (yab (sVar 6) sNil)))))))))
def yaU : SS :=
  (yaG (yae ybR (yab (sVar 1) (yab (sVar 2) (yab (sLit (.int 4)) sNil)))))
def ybc : Fn:=mkFn 1 4
  (sSeq (sSet 1 (ydj 0 8 ya7 sNil))
  (sSeq (sSet 2 (yae yaQ (yab (sVar 0) (yab (sLit (.int 0)) sNil))))
  (sSeq (sFor (yaW (yae yah (yab (sVar 2) (yab (sLit (.int 4)) sNil)))) (.nm 3) yaU)
  (sSeq (sIf (yam (sOp2 fEq (yae yah (yab (sVar 2) (yab (sLit (.int 3)) sNil))) (sLit (.int 0)))) (yaG (yae ycz (yab (sVar 1) (yab (yae yaQ (yab (sVar 0) (yab (sLit (.int 1)) sNil))) sNil)))) yaA)
  (sRet (sVar 1))))))
def ycO : Fn:=mkFn 1 1
  (sRet (ycH "\n" "\\n" (ycH "\\" "\\\\" (sVar 0))))
def ybl : Fn:=mkFn 1 1
  (sSeq (sIf (yam (sOp2 fEq (sOp2 fIx (sVar 0) (sLit (.int 0))) (sLit (.str "leaf")))) (sRet (sOp2 fAdd (sLit (.str "leaf ")) (yae ycO (yab (sOp2 fIx (sVar 0) (sLit (.int 1))) sNil)))) yaA)
  (sRet (sOp2 fAdd (sOp2 fAdd (sOp2 fAdd (sLit (.str "fork ")) (yae ybk (yab (sOp2 fIx (sVar 0) (sLit (.int 1))) sNil))) (sLit (.str " "))) (yae ybk (yab (sOp2 fIx (sVar 0) (sLit (.int 2))) sNil)))))
def yap : Fn:=mkFn 2 2
  (sSeq (yaG (yaj 0 yaT (sVar 0) (yab (sVar 1) sNil)))
  (sRet (sOp2 fIx (Sm.sFld 0 0 (sVar 0)) (sOp2 fSub (sVar 1) (sLit (.int 1))))))
def yaN : Fn:=mkFn 1 1
  (sRet (sBM ybj yc6 (sLit (.str "\n")) (yab (ya1 [0] (yaX (sLit (.int 1)) (sOp2 fAdd (yaj 0 yai (sVar 0) sNil) (sLit (.int 1)))) sYes (yae ybl (yab (yaj 0 yap (sVar 1) (yab (sVar 0) sNil)) sNil))) sNil)))
def yba : SS :=
  (sSet 1 (sOp2 fAdd (sVar 1) (sGet (yc7 "\n" "\\n" "\\" "\\\\") (sVar 2) (sVar 2))))
def ybp : Fn:=mkFn 1 3
  (sSeq (sSet 1 (sLit (.str "")))
  (sSeq (sFor (iVal (sVar 0)) (.nm 2) yba)
  (sRet (sVar 1))))
def yaO : SS :=
  (sSeq (sSet 4 (yaj 0 yap (sVar 0) (yab (sVar 3) sNil)))
  (sIf (yam (sOp2 fEq (sOp2 fIx (sVar 4) (sLit (.int 0))) (sLit (.str "leaf")))) (sSeq (yaG (sBM ya2 yaD (sVar 2) (yab (sOp2 fAdd (sLit (.str "leaf ")) (yae ybp (yab (sOp2 fIx (sVar 4) (sLit (.int 1))) sNil))) sNil)))
  (ycs (sVar 1) (sVar 3) (yae fLen (yab (sVar 2) sNil)))) yaA))
def yaP : SS :=
  (sSeq (sSet 4 (yaj 0 yap (sVar 0) (yab (sVar 3) sNil)))
  (sIf (yam (sOp2 fEq (sOp2 fIx (sVar 4) (sLit (.int 0))) (sLit (.str "fork")))) (sSeq (yaG (sBM ya2 yaD (sVar 2) (yab (sOp2 fAdd (sOp2 fAdd (sOp2 fAdd (sLit (.str "fork ")) (yae ybk (yab (sOp2 fIx (sVar 1) (sOp2 fIx (sVar 4) (sLit (.int 1)))) sNil))) (sLit (.str " "))) (yae ybk (yab (sOp2 fIx (sVar 1) (sOp2 fIx (sVar 4) (sLit (.int 2)))) sNil))) sNil)))
  (ycs (sVar 1) (sVar 3) (yae fLen (yab (sVar 2) sNil)))) yaA))
def ybr : Fn:=mkFn 1 5
  (sSeq (sSet 1 (yeq false))
  (sSeq (sSet 2 (yb5 sNil))
  (sSeq (sFor (yc0 (yaj 0 yai (sVar 0) sNil) (sLit (.int 0)) (sOp1 fNeg (sLit (.int 1)))) (.nm 3) yaO)
  (sSeq (sFor (yaX (sLit (.int 1)) (sOp2 fAdd (yaj 0 yai (sVar 0) sNil) (sLit (.int 1)))) (.nm 3) yaP)
  (sRet (sBM ybj yc6 (sLit (.str "\n")) (yab (sVar 2) sNil)))))))
def yd1 (G : Fn) : Fn:=mkFn 2 3
  (sSeq (sIf (yam (sOp2 fEq (yae fLen (yab (sVar 1) sNil)) (sLit (.int 1)))) (sRet (sOp2 fIx (sVar 1) (sLit (.int 0)))) yaA)
  (sSeq (sSet 2 (sOp2 fDiv (yae fLen (yab (sVar 1) sNil)) (sLit (.int 2))))
  (sRet (yaj 0 yaC (sVar 0) (yab (yae G (yab (sVar 0) (yab (sCut (sVar 1) none (some (sVar 2))) sNil))) (yab (yae G (yab (sVar 0) (yab (sCut (sVar 1) (some (sVar 2)) none) sNil))) sNil))))))
def ybA : Nat -> Fn
 | 0=>mkFn 2 3 (fun _ _=>.bad)
 | d + 1=>yd1 (ybA d)
def yco : Fn:=mkFn 2 3
  (sSeq (sIf (sNot (ybJ (yae ycx (yab (sVar 1) sNil)))) (ycr 1 (yab (sLit (.str "a text is built of a plain text")) sNil)) yaA)
  (sSeq (sIf (yam (sOp2 fGt (yae fLen (yab (sVar 1) sNil)) (sLit (.int 10000)))) (ycr 5 (yab (sLit (.str "a text is built of ten thousand signs at most")) sNil)) yaA)
  (sSeq (sIf (yam (sOp2 fEq (sVar 1) (sLit (.str "")))) (sRet (sLit (.int 0))) yaA)
  (sSeq (sSet 2 (ya1 [0,1] (yb8 (sLit (.int 0)) (yae fLen (yab (sVar 1) sNil)) (sLit (.int 8))) sYes (yaj 0 yat (sVar 1) (yab (sCut (sVar 2) (some (sVar 0)) (some (sOp2 fAdd (sVar 0) (sLit (.int 8))))) sNil))))
  (sRet (yae (ybA 20) (yab (sVar 0) (yab (sVar 2) sNil))))))))
def yaS : SS :=
  (sSeq (sSet 3 (yaj 0 yap (sVar 0) (yab (sVar 2) sNil)))
  (sIf (yam (sOp2 fEq (sOp2 fIx (sVar 3) (sLit (.int 0))) (sLit (.str "leaf")))) (yaG (sBM ya2 yaD (sVar 1) (yab (sOp2 fAdd (sLit (.str "leaf ")) (yae ybp (yab (sOp2 fIx (sVar 3) (sLit (.int 1))) sNil))) sNil))) (yaG (sBM ya2 yaD (sVar 1) (yab (sOp2 fAdd (sOp2 fAdd (sOp2 fAdd (sLit (.str "fork ")) (yae ybk (yab (sOp2 fIx (sVar 3) (sLit (.int 1))) sNil))) (sLit (.str " "))) (yae ybk (yab (sOp2 fIx (sVar 3) (sLit (.int 2))) sNil))) sNil)))))
def yaZ : Fn:=mkFn 1 4
  (sSeq (sSet 1 (yb5 sNil))
  (sSeq (sFor (yaX (sLit (.int 1)) (sOp2 fAdd (yaj 0 yai (sVar 0) sNil) (sLit (.int 1)))) (.nm 2) yaS)
  (sRet (sBM ybj yc6 (sLit (.str "\n")) (yab (sVar 1) sNil)))))
def yaI : Fn:=mkFn 2 2
  (sIf (yam (sOp2 fNe (sVar 1) (sLit (.int 0)))) (yaG (yaj 0 yaT (sVar 0) (yab (sVar 1) sNil))) yaA)
def ybd : Fn:=mkFn 2 2
  (sSeq (yaG (yaj 0 yaI (sVar 0) (yab (sVar 1) sNil)))
  (sRet (sOp2 fIx (Sm.sFld 0 7 (sVar 0)) (sVar 1))))
def ybE : Fn:=mkFn 2 2
  (sSeq (yaG (yaj 0 yaI (sVar 0) (yab (sVar 1) sNil)))
  (sRet (sOp2 fIx (Sm.sFld 0 2 (sVar 0)) (sVar 1))))
def ybN : Fn:=mkFn 2 2
  (sSeq (yaG (yaj 0 yaI (sVar 0) (yab (sVar 1) sNil)))
  (sRet (sOp2 fIx (Sm.sFld 0 3 (sVar 0)) (sVar 1))))
def ybv : Fn:=mkFn 2 2
  (sSeq (yaG (yaj 0 yaI (sVar 0) (yab (sVar 1) sNil)))
  (sRet (sOp2 fIx (Sm.sFld 0 4 (sVar 0)) (sVar 1))))
def ybw : Fn:=mkFn 2 2
  (sSeq (yaG (yaj 0 yaI (sVar 0) (yab (sVar 1) sNil)))
  (sRet (sOp2 fIx (Sm.sFld 0 5 (sVar 0)) (sVar 1))))
def ya5 : Fn:=mkFn 2 2
  (sSeq (yaG (yaj 0 yaI (sVar 0) (yab (sVar 1) sNil)))
  (sRet (sOp2 fIx (Sm.sFld 0 6 (sVar 0)) (sVar 1))))
def ybB : SS :=
  (sSeq (sIf (sOr (yam (sOp2 fNe (yaj 0 yap (sVar 0) (yab (sVar 2) sNil)) (yaj 0 yap (sVar 1) (yab (sVar 2) sNil)))) (yam (sOp2 fNe (yaj 0 ybE (sVar 0) (yab (sVar 2) sNil)) (yaj 0 ybE (sVar 1) (yab (sVar 2) sNil))))) (sRet (sLit (.bl false))) yaA)
  (sSeq (sIf (sOr (yam (sOp2 fNe (yaj 0 ybN (sVar 0) (yab (sVar 2) sNil)) (yaj 0 ybN (sVar 1) (yab (sVar 2) sNil)))) (yam (sOp2 fNe (yaj 0 ybv (sVar 0) (yab (sVar 2) sNil)) (yaj 0 ybv (sVar 1) (yab (sVar 2) sNil))))) (sRet (sLit (.bl false))) yaA)
  (sSeq (sIf (sOr (yam (sOp2 fNe (yaj 0 ybw (sVar 0) (yab (sVar 2) sNil)) (yaj 0 ybw (sVar 1) (yab (sVar 2) sNil)))) (yam (sOp2 fNe (yaj 0 ya5 (sVar 0) (yab (sVar 2) sNil)) (yaj 0 ya5 (sVar 1) (yab (sVar 2) sNil))))) (sRet (sLit (.bl false))) yaA)
  (sIf (yam (sOp2 fNe (yaj 0 ybd (sVar 0) (yab (sVar 2) sNil)) (yaj 0 ybd (sVar 1) (yab (sVar 2) sNil)))) (sRet (sLit (.bl false))) yaA))))
def yb9 : Fn:=mkFn 2 3
  (sSeq (sIf (yam (sOp2 fNe (yaj 0 yai (sVar 0) sNil) (yaj 0 yai (sVar 1) sNil))) (sRet (sLit (.bl false))) yaA)
  (sSeq (sFor (yaX (sLit (.int 1)) (sOp2 fAdd (yaj 0 yai (sVar 0) sNil) (sLit (.int 1)))) (.nm 2) ybB)
  (sRet (sLit (.bl true)))))
def yca : SS :=
  (sSeq (sSet 9 (yaj 0 yap (sVar 2) (yab (sVar 8) sNil)))
  (sSeq (sIf (sAnd (yam (sOp2 fEq (sOp2 fIx (sVar 9) (sLit (.int 0))) (sLit (.str "leaf")))) (yam (sOp2 fNe (yaj 0 yat (sVar 7) (yab (sOp2 fIx (sVar 9) (sLit (.int 1))) sNil)) (sVar 8)))) (sRet (sLit (.bl false))) yaA)
  (sIf (sAnd (yam (sOp2 fEq (sOp2 fIx (sVar 9) (sLit (.int 0))) (sLit (.str "fork")))) (yam (sOp2 fNe (yaj 0 yaC (sVar 7) (yab (sOp2 fIx (sVar 9) (sLit (.int 1))) (yab (sOp2 fIx (sVar 9) (sLit (.int 2))) sNil))) (sVar 8)))) (sRet (sLit (.bl false))) yaA)))
def ycp : SS :=
  (yaG (yaj 0 yat (sVar 7) (yab (sVar 10) sNil)))
def ye5 : Fn:=mkFn 1 13
  (sSeq (sSet 1 (yae ya3 (yab (sLit (.str "")) sNil)))
  (sSeq (sIf (sOr (sNot (ybJ (sIsO 0 (sVar 1)))) (yam (sOp2 fNe (yaj 0 yai (sVar 1) sNil) (sLit (.int 0))))) (sRet (sLit (.bl false))) yaA)
  (sSeq (sSet 2 (yae ybc (yab (sVar 0) sNil)))
  (sSeq (sSet 3 (yae yaQ (yab (sVar 0) (yab (sLit (.int 4)) sNil))))
  (sSeq (sIf (yam (sOp2 fEq (yae yah (yab (sVar 3) (yab (sLit (.int 8)) sNil))) (sLit (.int 0)))) (sSeq (sSet 4 (yae yah (yab (sVar 3) (yab (sOp2 fPow (sLit (.int 10)) (sLit (.int 6))) sNil))))
  (yaG (yae yco (yab (sVar 2) (yab (sBM ybj ybD (sLit (.str "")) (yab (ya1 [4] (yaW (sLit (.int 1250))) sYes (yae ybk (yab (sOp2 fAdd (sOp2 fAdd (sOp2 fPow (sLit (.int 10)) (sLit (.int 7))) (sOp2 fMul (sLit (.int 7919)) (sVar 0))) (sVar 1)) sNil))) sNil)) sNil))))) yaA)
  (sSeq (sSet 5 (yae yaN (yab (sVar 2) sNil)))
  (sSeq (sIf (yam (sOp2 fNe (sVar 5) (yae yaZ (yab (sVar 2) sNil)))) (sRet (sLit (.bl false))) yaA)
  (sSeq (sSet 6 (yaj 0 yai (sVar 2) sNil))
  (sSeq (sSet 7 (yae ya3 (yab (sVar 5) sNil)))
  (sSeq (sIf (sOr (sNot (ybJ (sIsO 0 (sVar 7)))) (sOr (sNot (ybJ (yae yb9 (yab (sVar 2) (yab (sVar 7) sNil))))) (yam (sOp2 fNe (yae yaN (yab (sVar 7) sNil)) (sVar 5))))) (sRet (sLit (.bl false))) yaA)
  (sSeq (sFor (yaX (sLit (.int 1)) (sOp2 fAdd (sVar 6) (sLit (.int 1)))) (.nm 8) yca)
  (sSeq (yaG (yaj 0 yat (sVar 7) (yab (sLit (.str "kx")) sNil)))
  (sSeq (sFor (iVal (sLst (yab (sLit (.str "\\n")) (yab (sLit (.str "\\\n")) (yab (sLit (.str "n\\")) (yab (sLit (.str "\\\\n")) sNil)))))) (.nm 10) ycp)
  (sSeq (sIf (sOr (yam (sOp2 fNe (yaj 0 yai (yae ya3 (yab (yae yaN (yab (sVar 7) sNil)) sNil)) sNil) (yaj 0 yai (sVar 7) sNil))) (sNot (ybJ (yae yb9 (yab (sVar 7) (yab (yae ya3 (yab (yae yaN (yab (sVar 7) sNil)) sNil)) sNil)))))) (sRet (sLit (.bl false))) yaA)
  (sSeq (sIf (sOr (yam (sOp2 fNe (yaj 0 yai (sVar 2) sNil) (sVar 6))) (yam (sOp2 fNe (yae yaZ (yab (sVar 2) sNil)) (sVar 5)))) (sRet (sLit (.bl false))) yaA)
  (sSeq (sIf (yam (sOp2 fGt (yae fLen (yab (sVar 5) sNil)) (sLit (.int 19000)))) (sRet (sOp2 fEq (yaj 0 yai (sVar 1) sNil) (sLit (.int 0)))) yaA)
  (sSeq (sSet 11 (yae ybr (yab (sVar 2) sNil)))
  (sSeq (sSet 12 (yae ya3 (yab (sVar 11) sNil)))
  (sRet (ydX (sOp2 fEq (yaj 0 yai (sVar 12) sNil) (sVar 6)) (ydX (sOp2 fEq (yae yaN (yab (sVar 12) sNil)) (sVar 11)) (sOp2 fEq (yaj 0 yai (sVar 1) sNil) (sLit (.int 0))))))))))))))))))))))))
end Sk
set_option exponentiation.threshold 2000
namespace Sk
open PySem PySem.Spec L2 Sm
theorem zfn {w : Option Nat} {all : List AV} {t : Tg} {b : SS} (P : Nat -> En -> AH -> Prop) : ∀ (xs : List AV) (i : Nat) (en : En) (h : AH),P i en h ->
  (∀ i en h,P i en h -> ybF w all h = true) ->
  (∀ (j : Nat) (x : AV) (en : En) (h : AH),xs[j]? = some x -> P (i + j) en h -> ∃ e1 e2 h2,setT t x en = some e1 /\ (b e1 h = .nx e2 h2 \/ b e1 h = .ct e2 h2) /\ P (i + j + 1) e2 h2) ->
  ∃ e' h',ya4 w all t b xs en h = .nx e' h' /\ P (i + xs.length) e' h'
 | [],i,en,h,p,lv,_=>⟨en,h,by unfold ya4; rw [if_pos (lv _ _ _ p)],p⟩
 | x :: xs,i,en,h,p,lv,s=>by
  obtain ⟨e1,e2,h2,q1,q2,q3⟩:=s 0 x en h rfl p
  obtain ⟨e',h',r1,r2⟩:=zfn P xs (i + 1) e2 h2 q3 lv fun j y en h e q=>by
   have:=s (j + 1) y en h (by simpa using e) (by rw [show i + (j + 1) = i + 1 + j by lia]; exact q)
   rw [show i + (j + 1) + 1 = i + 1 + j + 1 by lia] at this
   exact this
  refine ⟨e',h',?_,by rw [List.length_cons,show i + (xs.length + 1) = i + 1 + xs.length by lia]; exact r2⟩
  unfold ya4
  rw [if_pos (lv _ _ _ p)]
  simp only [q1]
  rcases q2 with q2 | q2
  ·rw [q2]; exact r1
  ·rw [q2]; exact r1
theorem zbP {α : Type} {js : List Nat} {en : En} {w : Option Nat} {all : List AV} {c : SB} {e : SE} {g f : α -> AV} {p : α -> Bool} {h : AH} (lv : ybF w all h = true) : ∀ (cs : List α) (ys : List AV),(∀ x ∈ cs,c (some (g x) :: js.map fun j=>(en[j]?).join) h = .ok (p x) h) -> (∀ x ∈ cs,p x = true -> e (some (g x) :: js.map fun j=>(en[j]?).join) h = .ok (f x) h) -> ys.length + cs.length <= sizeLine ->
  yaM js en w all c e (cs.map g) ys h = .ok (ys++(cs.filter p).map f) h
 | [],ys,_,_,_=>by rw [List.map_nil]; unfold yaM; rw [if_pos lv]; simp
 | x :: xs,ys,hc,he,hl=>by
  have hl' : ys.length < sizeLine:=by simp at hl; lia
  rw [List.map_cons]
  unfold yaM
  rw [if_pos ⟨lv,hl'⟩,hc x (by simp)]
  cases hp : p x with
  | false =>
   dsimp only
   rw [zbP lv xs ys (fun y hy=>hc y (by simp [hy])) (fun y hy=>he y (by simp [hy])) (by simp at hl ⊢; lia)]
   simp [List.filter_cons,hp]
  | true =>
   dsimp only
   rw [he x (by simp) hp]
   dsimp only
   rw [zbP lv xs (ys++[f x]) (fun y hy=>hc y (by simp [hy])) (fun y hy=>he y (by simp [hy])) (by simp at hl ⊢; lia)]
   simp [List.filter_cons,hp]
theorem zcu {α : Type} {js : List Nat} {en : En} {w : Option Nat} {all : List AV} {e : SE} {g f : α -> AV} {h : AH} (lv : ybF w all h = true) (cs : List α) (ys : List AV) (he : ∀ x ∈ cs,e (some (g x) :: js.map fun j=>(en[j]?).join) h = .ok (f x) h) (hl : ys.length + cs.length <= sizeLine) :
  yaM js en w all sYes e (cs.map g) ys h = .ok (ys++cs.map f) h:=by
 rw [zbP (p:=fun _=>true) lv cs ys (fun _ _=>rfl) (fun x hx _=>he x hx) hl,List.filter_eq_self.mpr (fun _ _=>rfl)]
@[simp] def thn (o : OutS) (Q : En -> AH -> Prop) : Prop:=match o with
 | .nx e h=>Q e h
 | .ct e h=>Q e h
 | _=>False
theorem yhe {o : OutS} {Q : En -> AH -> Prop} (t : thn o Q) : ∃ e h,(o = .nx e h \/ o = .ct e h) /\ Q e h:=by
 cases o with
 | nx e h=>exact ⟨e,h,.inl rfl,t⟩
 | ct e h=>exact ⟨e,h,.inr rfl,t⟩
 | _=>exact t.elim
@[simp] def yhf (o : Option En) (Q : En -> Prop) : Prop:=match o with
 | some e=>Q e
 | none=>False
theorem ych {w : Option Nat} {all : List AV} {t : Tg} {b : SS} {xs : List AV} {en : En} {h : AH} (P : Nat -> En -> AH -> Prop) (p0 : P 0 en h) (lv : ∀ i en h,P i en h -> ybF w all h = true)
  (st : ∀ (j : Nat) (x : AV) (en : En) (h : AH),xs[j]? = some x -> P j en h -> yhf (setT t x en) fun e1=>thn (b e1 h) (P (j + 1))) :
  ∃ e' h',ya4 w all t b xs en h = .nx e' h' /\ P xs.length e' h' := by
 have:=zfn (w:=w) (all:=all) (t:=t) (b:=b) P xs 0 en h p0 lv fun j x en h hx hp=>by
  have q:=st j x en h hx (by simpa using hp)
  cases z : setT t x en with
  | none=>rw [z] at q; exact q.elim
  | some e1 =>
   rw [z] at q
   obtain ⟨e,h2,a,c⟩:=yhe q
   exact ⟨e1,e,h2,rfl,a,by simpa using c⟩
 simpa using this
theorem zeo {js : List Nat} {en : En} {all : List AV} {e : SE} (P : List AV -> AH -> Prop) : ∀ (xs ys : List AV) (h : AH),P ys h ->
  (∀ x ∈ xs,∀ ys h,P ys h -> ∃ v h2,e (some x :: js.map fun j=>(en[j]?).join) h = .ok v h2 /\ P (ys++[v]) h2) -> ys.length + xs.length <= sizeLine ->
  ∃ zs h',yaM js en none all sYes e xs ys h = .ok zs h' /\ P zs h' /\ zs.length = ys.length + xs.length
 | [],ys,h,p,_,_=>⟨ys,h,by simp [yaM],p,rfl⟩
 | x :: xs,ys,h,p,s,hl=>by
  obtain ⟨v,h2,q1,q2⟩:=s x (by simp) ys h p
  obtain ⟨zs,h',r1,r2,r3⟩:=zeo P xs (ys++[v]) h2 q2 (fun y hy=>s y (by simp [hy])) (by simp at hl ⊢; lia)
  refine ⟨zs,h',?_,r2,by rw [r3]; simp; lia⟩
  unfold yaM
  rw [if_pos ⟨rfl,by simp at hl; lia⟩]
  simp only [sYes]
  rw [q1]
  exact r1
@[simp] def yf7 (o : Out AV) (Q : AV -> AH -> Prop) : Prop:=match o with
 | .ok v h=>Q v h
 | _=>False
theorem yhg {js : List Nat} {en : En} {all : List AV} {e : SE} {xs : List AV} {h : AH} (P : List AV -> AH -> Prop) (p0 : P [] h)
  (st : ∀ x ∈ xs,∀ ys h,P ys h -> yf7 (e (some x :: js.map fun j=>(en[j]?).join) h) fun v h2=>P (ys++[v]) h2) (hl : xs.length <= sizeLine) :
  ∃ zs h',yaM js en none all sYes e xs [] h = .ok zs h' /\ P zs h' /\ zs.length = xs.length:=by
 have:=zeo (js:=js) (en:=en) (all:=all) (e:=e) P xs [] h p0 (fun x hx ys h p=>by
  have q:=st x hx ys h p
  cases z : e (some x :: js.map fun j=>(en[j]?).join) h with
  | ok v h2=>rw [z] at q; exact ⟨v,h2,rfl,q⟩
  | ex _ _=>rw [z] at q; exact q.elim
  | bad=>rw [z] at q; exact q.elim) (by simpa using hl)
 simpa using this
theorem zfo {js : List Nat} {en : En} {all : List AV} {e : SE} (P : Nat -> List AV -> AH -> Prop) : ∀ (xs ys : List AV) (i : Nat) (h : AH),P i ys h ->
  (∀ j x ys h,xs[j]? = some x -> P (i + j) ys h -> ∃ v h2,e (some x :: js.map fun j=>(en[j]?).join) h = .ok v h2 /\ P (i + j + 1) (ys++[v]) h2) -> ys.length + xs.length <= sizeLine ->
  ∃ zs h',yaM js en none all sYes e xs ys h = .ok zs h' /\ P (i + xs.length) zs h'
 | [],ys,i,h,p,_,_=>⟨ys,h,by simp [yaM],p⟩
 | x :: xs,ys,i,h,p,s,hl=>by
  obtain ⟨v,h2,q1,q2⟩:=s 0 x ys h rfl p
  obtain ⟨zs,h',r1,r2⟩:=zfo P xs (ys++[v]) (i + 1) h2 q2 (fun j y ys h hy hp=>by
   have:=s (j + 1) y ys h (by simpa using hy) (by rw [show i + (j + 1) = i + 1 + j by lia]; exact hp)
   rw [show i + (j + 1) + 1 = i + 1 + j + 1 by lia] at this
   exact this) (by simp at hl ⊢; lia)
  refine ⟨zs,h',?_,by rw [List.length_cons,show i + (xs.length + 1) = i + 1 + xs.length by lia]; exact r2⟩
  unfold yaM
  rw [if_pos ⟨rfl,by simp at hl; lia⟩]
  simp only [sYes]
  rw [q1]
  exact r1
theorem yhh {js : List Nat} {en : En} {all : List AV} {e : SE} {xs : List AV} {h : AH} (P : Nat -> List AV -> AH -> Prop) (p0 : P 0 [] h)
  (st : ∀ j x ys h,xs[j]? = some x -> P j ys h -> yf7 (e (some x :: js.map fun j=>(en[j]?).join) h) fun v h2=>P (j + 1) (ys++[v]) h2) (hl : xs.length <= sizeLine) :
  ∃ zs h',yaM js en none all sYes e xs [] h = .ok zs h' /\ P xs.length zs h' := by
 have:=zfo (js:=js) (en:=en) (all:=all) (e:=e) P xs [] 0 h p0 (fun j x ys h hx p=>by
  have q:=st j x ys h hx (by simpa using p)
  cases z : e (some x :: js.map fun j=>(en[j]?).join) h with
  | ok v h2=>rw [z] at q; exact ⟨v,h2,rfl,by simpa using q⟩
  | ex _ _=>rw [z] at q; exact q.elim
  | bad=>rw [z] at q; exact q.elim) (by simpa using hl)
 simpa using this
theorem zar : ∀ (n : Nat) (lo : Int) (i : Nat),(yau lo n)[i]? = if i < n then some (.int (lo + i)) else none
 | 0,lo,i=>by simp [yau]
 | n + 1,lo,0=>by simp [yau]
 | n + 1,lo,i + 1=>by
  unfold yau
  rw [List.getElem?_cons_succ,zar n (lo + 1) i]
  by_cases q : i < n
  ·rw [if_pos q,if_pos (by lia)]; congr 2; lia
  ·rw [if_neg q,if_neg (by lia)]
theorem zaC : ∀ (n : Nat) (lo : Int),(yau lo n).length = n
 | 0,_=>rfl
 | n + 1,lo=>by unfold yau; rw [List.length_cons,zaC n]
theorem za2 {a : SE} {en : En} {h h1 : AH} {n : Nat} (e : a en h = .ok (.int n) h1) (hn : n <= 10000000) : yaW a en h = .ok (yau 0 n,none) h1:=by
 have h1' : (n : Int).natAbs < 2 ^ 62:=by lia
 simp only [yaW,e,Out.bind]
 rw [if_pos h1']; rfl
theorem za3 {a b : SE} {en : En} {h h1 h2 : AH} {i j : Int} {m : Nat} (e : a en h = .ok (.int i) h1) (e' : b en h1 = .ok (.int j) h2) (hm : (j - i).toNat = m) (b1 : i.natAbs <= 10000000) (b3 : j.natAbs <= 10000000) : yaX a b en h = .ok (yau i m,none) h2:=by
 have h1' : i.natAbs < 2 ^ 62 /\ j.natAbs < 2 ^ 62:=by lia
 simp only [yaX,e,e',Out.bind]
 rw [if_pos h1',hm]
theorem ybO {it : SI} {t : Tg} {b : SS} {en : En} {h h1 : AH} {xs : List AV} {w : Option Nat} (e : it en h = .ok (xs,w) h1) : sFor it t b en h = ya4 w xs t b xs en h1:=by simp only [sFor,e]
theorem yef {i j : Int} {h : AH} (hi : i.natAbs < 2 ^ 64) : fMul (.int i) (.int j) h = .ok (.int (i * j)) h:=if_pos (.inl (.inl hi))
theorem yeI {i j : Int} {h : AH} (hj : j.natAbs < 2 ^ 64) : fMul (.int i) (.int j) h = .ok (.int (i * j)) h:=if_pos (.inl (.inr hj))
theorem zhL {α : Type} {f : α -> AV} {l : List α} {j : Nat} {q : α} (e : l[j]? = some q) : atI (l.map f) (j : Int) = some (f q):=zcY (by simp [e])
end Sk
set_option exponentiation.threshold 5000
namespace Sk
open PySem PySem.Spec L2 Sm
def ybV (c : Nat) : Bool:=decide (c = 10) || (decide (32 <= c) && decide (c <= 126))
theorem lt1 (a b : Nat) : ([a] < [b]) ↔ a < b:=by
 simp [List.cons_lt_cons_iff]
theorem ycP : (Str.ofString "\n") = ⟨#[10]⟩:=by decide +kernel
theorem yeJ : (Str.ofString " ") = ⟨#[32]⟩:=by decide +kernel
theorem yhi : (Str.ofString "~") = ⟨#[126]⟩:=by decide +kernel
theorem yfw (c : Nat) (h : AH) : ya8 [.str ⟨#[c]⟩] h = .ok (.bl (ybV c)) h:=by
 simp [ya8,ycP,yeJ,yhi,lt1,ybV]
 by_cases h1 : c = 10
 ·simp [h1]
 ·by_cases h2 : c < 32
  ·have : ¬ 32 <= c:=by lia
   simp [h1,h2,this]
  ·have h3 : 32 <= c:=by lia
   by_cases h4 : c <= 126
   ·have : ¬ 126 < c:=by lia
    simp [h1,h2,h3,h4,this]
   ·have : 126 < c:=by lia
    simp [h1,h2,h3,h4,this]
theorem zcv {α : Type} {js : List Nat} {en : En} {all : List AV} {e : SE} {g f : α -> AV} {h : AH} : ∀ (cs : List α) (ys : List AV),(∀ c ∈ cs,e (some (g c) :: js.map fun j=>(en[j]?).join) h = .ok (f c) h) -> ys.length + cs.length <= sizeLine -> yaM js en none all sYes e (cs.map g) ys h = .ok (ys++cs.map f) h
 | [],ys,_,_=>by simp [yaM]
 | x :: xs,ys,he,hl=>by
  have hl' : ys.length < sizeLine:=by simp at hl; lia
  rw [List.map_cons]
  unfold yaM
  rw [if_pos ⟨rfl,hl'⟩]
  simp only [sYes]
  rw [he x (by simp)]
  dsimp only
  rw [zcv xs (ys++[f x]) (fun y hy=>he y (by simp [hy])) (by simp at hl ⊢; lia)]
  simp
theorem zbQ (f : Nat -> Bool) : ∀ cs : List Nat,ydr (cs.map fun c=>.bl (f c)) = some (cs.map f)
 | []=>rfl
 | c :: cs=>by simp [zbQ f cs]
def yaF (x : Str) : Bool:=x.cps.toList.all ybV
theorem zfp (x : Str) (h : AH) (hl : x.length <= sizeLine) : ycx [.str x] h = .ok (.bl (yaF x)) h:=by
 have e:=zcv (js:=[]) (en:=[some (.str x)]) (all:=x.cps.toList.map fun c=>AV.str ⟨#[c]⟩) (e:=yae ya8 (yab (sVar 0) sNil)) (g:=fun c=>AV.str ⟨#[c]⟩) (f:=fun c=>AV.bl (ybV c)) (h:=h) x.cps.toList [] (by
  intro c hc
  simp [yfw]) (by simp; exact hl)
 simp only [List.nil_append] at e
 simp [ycx]
 rw [e]
 simp [zbQ,yaF]
def ya6 (x : Str) : Bool:=yaF x && (decide (1 <= x.length) && decide (x.length <= 8))
theorem zfq (x : Str) (h : AH) (hl : x.length <= sizeLine) : ycV [.str x] h = .ok (.bl (ya6 x)) h:=by
 simp [ycV,zfp x h hl,ya6]
 by_cases h1 : yaF x = true
 ·by_cases h2 : 1 <= x.length
  ·have : (1 : Int) <= x.length:=by lia
   by_cases h3 : x.length <= 8
   ·have : (x.length : Int) <= 8:=by lia
    simp [*]
   ·have : ¬ (x.length : Int) <= 8:=by lia
    simp [*]
  ·have : ¬ (1 : Int) <= x.length:=by lia
   simp [*]
 ·simp [h1]
def ycX (x : Str) : Nat:=(Builtin.Str.occurrences x ⟨#[10]⟩ 0 x.length (x.length + 1)).length
theorem yhj (x : Str) (h : AH) : ydl [.str x] h = .ok (.int (ycX x)) h:=by
 simp [ydl,ycP,ycX]
theorem ziS (i : Int) (h : AH) : ycW [.int i] h = .ok (.bl true) h:=by
 simp [ycW]
inductive Pc where
 | leaf (x : Str)
 | fork (a b : Nat)
 deriving DecidableEq
def Pc.av : Pc -> AV
 | .leaf x=>.tup [.str "leaf",.str x]
 | .fork a b=>.tup [.str "fork",.int a,.int b]
theorem Pc.av_inj : ∀ {p q : Pc},p.av = q.av -> p = q
 | .leaf x,.leaf y,e=>by simp [Pc.av] at e; rw [e]
 | .leaf x,.fork a b,e=>by simp [Pc.av] at e
 | .fork a b,.leaf x,e=>by simp [Pc.av] at e
 | .fork a b,.fork c d,e=>by simp [Pc.av] at e; rw [Int.ofNat.inj e.1,Int.ofNat.inj e.2]
structure Ms where
 sg : Nat
 en : Nat
 lv : Nat
 ht : Int
 fl : Nat
 ll : Nat
def ms0 : Ms:=⟨0,0,0,-1,0,0⟩
def ycJ (ms : List Ms) : Pc -> Ms
 | .leaf x=>⟨x.length,ycX x,1,0,ms.length,ms.length⟩
 | .fork a b=>⟨(ms.getD a ms0).sg + (ms.getD b ms0).sg,(ms.getD a ms0).en + (ms.getD b ms0).en,(ms.getD a ms0).lv + (ms.getD b ms0).lv,max (ms.getD a ms0).ht (ms.getD b ms0).ht + 1,(ms.getD a ms0).fl,(ms.getD b ms0).ll⟩
def meas (ps : List Pc) : List Ms:=ps.foldl (fun ms q=>ms++[ycJ ms q]) [ms0]
theorem zbR (ps : List Pc) (q : Pc) : meas (ps++[q]) = meas ps++[ycJ (meas ps) q]:=by simp [meas]
theorem zag : ∀ ps : List Pc,(meas ps).length = ps.length + 1:=by
 have all : ∀ (ps : List Pc) (ms : List Ms),(ps.foldl (fun ms q=>ms++[ycJ ms q]) ms).length = ms.length + ps.length:=by
  intro ps
  induction ps with
  | nil=>intro ms; rfl
  | cons q r ih=>intro ms; rw [List.foldl_cons,ih]; simp; lia
 intro ps
 rw [meas,all]; simp; lia
def ybh (k : Nat) : List Pc -> List (AV × AV)
 | []=>[]
 | q :: r=>(q.av,.int k) :: ybh (k + 1) r
def tab (ps : List Pc) : List (AV × AV):=ybh 1 ps
theorem zaQ (q : Pc) : ∀ (ps : List Pc) (k : Nat),ybh k (ps++[q]) = ybh k ps++[(q.av,.int ((k + ps.length : Nat) : Int))]
 | [],k=>by simp [ybh]
 | p :: r,k=>by
  simp only [List.cons_append,ybh,zaQ q r (k + 1)]
  rw [show k + 1 + r.length = k + (p :: r).length by simp; lia]
theorem zfr : ∀ (ps : List Pc) (k : Nat),(ybh k ps).length = ps.length
 | [],_=>rfl
 | p :: r,k=>by simp [ybh,zfr r]
theorem zbz {q : Pc} : ∀ {ps : List Pc} {k : Nat},q ∉ ps -> valA (ybh k ps) q.av = none
 | [],k,_=>rfl
 | p :: r,k,h=>by
  have h1 : ¬ p.av = q.av:=fun e=>h (by rw [Pc.av_inj e]; simp)
  have h2:=zbz (q:=q) (ps:=r) (k:=k + 1) fun z=>h (by simp [z])
  unfold valA at h2 ⊢
  simp only [ybh,List.find?_cons,decide_eq_false h1]
  exact h2
theorem zcw {q : Pc} : ∀ {ps : List Pc} {k i : Nat},ps.Nodup -> ps[i]? = some q -> valA (ybh k ps) q.av = some (.int ((k + i : Nat) : Int))
 | [],k,i,_,e=>by simp at e
 | p :: r,k,0,n,e=>by simp at e; subst e; simp [valA,ybh]
 | p :: r,k,i + 1,n,e=>by
  simp at e
  have h1 : ¬ p.av = q.av:=fun z=>(List.nodup_cons.mp n).1 (by rw [Pc.av_inj z]; exact List.mem_of_getElem? e)
  have h2:=zcw (q:=q) (k:=k + 1) (List.nodup_cons.mp n).2 e
  unfold valA at h2 ⊢
  simp only [ybh,List.find?_cons,decide_eq_false h1]
  rw [h2]
  congr 3
  lia
theorem ziT {q : Pc} {ps : List Pc} (h : q ∉ ps) : putA (tab ps) q.av (.int ((ps.length + 1 : Nat) : Int)) = tab (ps++[q]):=by
 unfold putA
 rw [zc4,tab,zbz h,tab,zaQ]
 simp [Nat.add_comm]
structure ShelfAt (h : AH) (p : Nat) (ps : List Pc) : Prop where
 ob : h[p]? = some (.ins 0 [some (.ref (p + 1)),some (.ref (p + 2)),some (.ref (p + 3)),some (.ref (p + 4)),some (.ref (p + 5)),some (.ref (p + 6)),some (.ref (p + 7)),some (.ref (p + 8))])
 h1 : h[p + 1]? = some (.lst (ps.map Pc.av))
 h2 : h[p + 2]? = some (.dct true (tab ps))
 h3 : h[p + 3]? = some (.lst ((meas ps).map fun m=>.int m.sg))
 h4 : h[p + 4]? = some (.lst ((meas ps).map fun m=>.int m.en))
 h5 : h[p + 5]? = some (.lst ((meas ps).map fun m=>.int m.lv))
 h6 : h[p + 6]? = some (.lst ((meas ps).map fun m=>.int m.ht))
 h7 : h[p + 7]? = some (.lst ((meas ps).map fun m=>.int m.fl))
 h8 : h[p + 8]? = some (.lst ((meas ps).map fun m=>.int m.ll))
def ybb (h : AH) (p : Nat) (ps : List Pc) : AH :=
 (((((((h.set (p + 1) (.lst (ps.map Pc.av))).set (p + 2) (.dct true (tab ps))).set (p + 3) (.lst ((meas ps).map fun m=>.int m.sg))).set (p + 4) (.lst ((meas ps).map fun m=>.int m.en))).set (p + 5) (.lst ((meas ps).map fun m=>.int m.lv))).set
  (p + 6) (.lst ((meas ps).map fun m=>.int m.ht))).set (p + 7) (.lst ((meas ps).map fun m=>.int m.fl))).set (p + 8) (.lst ((meas ps).map fun m=>.int m.ll))
theorem ybm {h : AH} {i : Nat} {o : AO} (e : h[i]? = some o) : i < h.length:=(List.getElem?_eq_some_iff.mp e).1
theorem zbi (h : AH) (p : Nat) (ps : List Pc) : (ybb h p ps).length = h.length:=by simp [ybb]
theorem zbc {h : AH} {p q : Nat} {ps : List Pc} (hq : q <= p \/ p + 8 < q) : (ybb h p ps)[q]? = h[q]? := by
 unfold ybb
 repeat rw [List.getElem?_set_ne (by lia)]
theorem zaL {h : AH} {p : Nat} {ps ps' : List Pc} (S : ShelfAt h p ps) : ShelfAt (ybb h p ps') p ps' := by
 have b:=ybm S.h8
 have l1 : p + 1 < h.length:=Nat.lt_of_le_of_lt (Nat.add_le_add_left (by decide) p) b
 have l2 : p + 2 < h.length:=Nat.lt_of_le_of_lt (Nat.add_le_add_left (by decide) p) b
 have l3 : p + 3 < h.length:=Nat.lt_of_le_of_lt (Nat.add_le_add_left (by decide) p) b
 have l4 : p + 4 < h.length:=Nat.lt_of_le_of_lt (Nat.add_le_add_left (by decide) p) b
 have l5 : p + 5 < h.length:=Nat.lt_of_le_of_lt (Nat.add_le_add_left (by decide) p) b
 have l6 : p + 6 < h.length:=Nat.lt_of_le_of_lt (Nat.add_le_add_left (by decide) p) b
 have l7 : p + 7 < h.length:=Nat.lt_of_le_of_lt (Nat.add_le_add_left (by decide) p) b
 have ob:=S.ob
 constructor<;>simp [ybb,List.getElem?_set,l1,l2,l3,l4,l5,l6,l7,b,ob,-List.getElem?_eq_getElem]
theorem lenA {α : Type} (l : List α) (f : α -> AV) : (l.map f).length = l.length:=by simp
theorem ybC {h : AH} {p : Nat} {ps : List Pc} (S : ShelfAt h p ps) : yai [.ref p] h = .ok (.int ps.length) h:=by
 simp [yai,S.ob,S.h1]
theorem yii {h : AH} {p : Nat} {ps : List Pc} {i : Int} (S : ShelfAt h p ps) : ybK [.ref p,.int i] h = .ok (.bl (decide (1 <= i /\ i <= ps.length))) h:=by
 simp [ybK,ziS,S.ob,S.h1]
 by_cases h1 : 1 <= i<;>simp [h1]
theorem zbA {h : AH} {p : Nat} {ps : List Pc} {i : Int} (S : ShelfAt h p ps) (hi : 1 <= i /\ i <= ps.length) : yaT [.ref p,.int i] h = .ok .non h:=by
 simp [yaT,yii S,S.ob,hi.1,hi.2]
theorem zae {α : Type} {f : α -> AV} {l : List α} {j : Nat} {q : α} (e : l[j]? = some q) : atI (l.map f) (j : Int) = some (f q):=zcY (by simp [e])
theorem zdc {h : AH} {p : Nat} {ps : List Pc} {j : Nat} {q : Pc} (S : ShelfAt h p ps) (e : ps[j]? = some q) : yap [.ref p,.int ((j : Int) + 1)] h = .ok q.av h:=by
 have hj:=(List.getElem?_eq_some_iff.mp e).1
 have h1:=zbA S (i:=(j : Int) + 1) ⟨by lia,by lia⟩
 simp [yap,h1,S.ob,S.h1,zae e]
theorem yf8 {h : AH} {p : Nat} {ps : List Pc} {q : Pc} (S : ShelfAt h p ps) (hq : q ∉ ps) (hl : ps.length < 16000000) :
  ycf [.ref p,q.av] h = .ok (.int ((ps.length + 1 : Nat) : Int)) ((h.set (p + 1) (.lst ((ps++[q]).map Pc.av))).set (p + 2) (.dct true (tab (ps++[q])))):=by
 have b:=ybm S.h8
 have hs : ps.length < sizeLine:=Nat.lt_trans hl (by decide)
 have ht : (tab ps).length < sizeLine:=by rw [tab,zfr]; exact hs
 have hk : ybX true q.av = true:=by cases q<;>simp [Pc.av]
 have e1 : (h.set (p + 1) (.lst (ps.map Pc.av++[q.av])))[p]? = h[p]? := List.getElem?_set_ne (by lia)
 have e2 : (h.set (p + 1) (.lst (ps.map Pc.av++[q.av])))[p + 1]? = some (.lst (ps.map Pc.av++[q.av])):=List.getElem?_set_self (by lia)
 have e3 : (h.set (p + 1) (.lst (ps.map Pc.av++[q.av])))[p + 2]? = h[p + 2]? := List.getElem?_set_ne (by lia)
 have tp:=ziT hq
 simp [ycf,S.ob,S.h1,hs,e1,e2,e3,S.h2,hk,ht,-ybX]
 rw [show ((ps.length : Int) + 1) = ((ps.length + 1 : Nat) : Int) by simp,tp]
theorem zgL {h : AH} {p : Nat} {ps : List Pc} {x : Str} (S : ShelfAt h p ps) (hq : Pc.leaf x ∉ ps) (hl : ps.length < 16000000) :
  yby [.ref p,(Pc.leaf x).av] h = .ok .non (ybb h p (ps++[.leaf x])):=by
 have b:=ybm S.h8
 have hs : ps.length + 1 < sizeLine:=Nat.lt_of_lt_of_le (Nat.succ_lt_succ hl) (by decide)
 have hm : (meas ps).length < sizeLine:=by rw [zag]; exact hs
 have e:=yf8 S hq hl
 have b2 : ((meas ps).length : Int) = (ps.length : Int) + 1:=by rw [zag]; simp
 have e2 : fIx (Pc.leaf x).av (.int 1) = fun h=>Out.ok (.str x) h:=by funext h; rfl
 have l1 : p + 1 < h.length:=by lia
 have l2 : p + 2 < h.length:=by lia
 have l3 : p + 3 < h.length:=by lia
 have l4 : p + 4 < h.length:=by lia
 have l5 : p + 5 < h.length:=by lia
 have l6 : p + 6 < h.length:=by lia
 have l7 : p + 7 < h.length:=by lia
 simp [yby,e,S.ob,S.h3,S.h4,S.h5,S.h6,S.h7,S.h8,hm,yhj,List.getElem?_set,zbR,ycJ,ybb,e2,zag,hs,-fIx,-List.getElem?_eq_getElem]
theorem zfs {α : Type} {l : List α} {i : Nat} {d x : α} (e : l[i]? = some x) : l.getD i d = x:=by simp [List.getD,e]
theorem zgM {h : AH} {p : Nat} {ps : List Pc} {a b : Nat} {ma mb : Ms} (S : ShelfAt h p ps) (hq : Pc.fork a b ∉ ps) (hl : ps.length < 16000000) (ha : (meas ps)[a]? = some ma) (hb : (meas ps)[b]? = some mb) :
  ybz [.ref p,(Pc.fork a b).av] h = .ok .non (ybb h p (ps++[.fork a b])):=by
 have bb:=ybm S.h8
 have hs : ps.length + 1 < sizeLine:=Nat.lt_of_lt_of_le (Nat.succ_lt_succ hl) (by decide)
 have hm : (meas ps).length < sizeLine:=by rw [zag]; exact hs
 have e:=yf8 S hq hl
 have e2 : fIx (Pc.fork a b).av (.int 1) = fun h=>Out.ok (.int a) h:=by funext h; rfl
 have e3 : fIx (Pc.fork a b).av (.int 2) = fun h=>Out.ok (.int b) h:=by funext h; rfl
 have l1 : p + 1 < h.length:=by lia
 have l2 : p + 2 < h.length:=by lia
 have l3 : p + 3 < h.length:=by lia
 have l4 : p + 4 < h.length:=by lia
 have l5 : p + 5 < h.length:=by lia
 have l6 : p + 6 < h.length:=by lia
 have l7 : p + 7 < h.length:=by lia
 have fx : ∀ (n : Nat) (g : Ms -> AV) (h' : AH),h'[n]? = some (.lst ((meas ps).map g)) -> fIx (.ref n) (.int a) h' = .ok (g ma) h' /\ fIx (.ref n) (.int b) h' = .ok (g mb) h' := fun n g h' e=>by
  simp [fIx,e,zae ha,zae hb]
 have f3:=fun (h' : AH) (e : h'[p + 3]? = some (.lst ((meas ps).map fun m=>.int m.sg)))=>fx _ _ h' e
 have f4:=fun (h' : AH) (e : h'[p + 4]? = some (.lst ((meas ps).map fun m=>.int m.en)))=>fx _ _ h' e
 have f5:=fun (h' : AH) (e : h'[p + 5]? = some (.lst ((meas ps).map fun m=>.int m.lv)))=>fx _ _ h' e
 have f6:=fun (h' : AH) (e : h'[p + 6]? = some (.lst ((meas ps).map fun m=>.int m.ht)))=>fx _ _ h' e
 have f7:=fun (h' : AH) (e : h'[p + 7]? = some (.lst ((meas ps).map fun m=>.int m.fl)))=>fx _ _ h' e
 have f8:=fun (h' : AH) (e : h'[p + 8]? = some (.lst ((meas ps).map fun m=>.int m.ll)))=>fx _ _ h' e
 have hmax : ∀ i j : Int,(if j > i then j else i) = max i j:=fun i j=>by split<;>lia
 simp [ybz,e,S.ob,S.h3,S.h4,S.h5,S.h6,S.h7,S.h8,hm,List.getElem?_set,zbR,ycJ,ybb,e2,e3,zag,hs,zae ha,zae hb,zfs ha,zfs hb,-fIx,-List.getElem?_eq_getElem,-List.getD_eq_getElem?_getD,f3,f4,f5,f6,f7,f8,hmax]
theorem zaR {h : AH} {p : Nat} {ps : List Pc} {x : Str} {i : Nat} (S : ShelfAt h p ps) (nd : ps.Nodup) (hx : ya6 x = true) (hl : x.length <= sizeLine) (e : ps[i]? = some (.leaf x)) : yat [.ref p,.str x] h = .ok (.int ((i + 1 : Nat) : Int)) h:=by
 have t:=zcw (k:=1) nd e
 have t' : valA (tab ps) (.tup [.str "leaf",.str x]) = some (.int ((i + 1 : Nat) : Int)):=by rw [Nat.add_comm]; exact t
 simp [yat,zfq x h hl,hx,S.ob,S.h2,t']
theorem zbB {h : AH} {p : Nat} {ps : List Pc} {x : Str} (S : ShelfAt h p ps) (hx : ya6 x = true) (hl : x.length <= sizeLine) (hq : Pc.leaf x ∉ ps) (hz : ps.length < 16000000) : yat [.ref p,.str x] h = .ok (.int ((ps.length + 1 : Nat) : Int)) (ybb h p (ps++[.leaf x])):=by
 have t : valA (tab ps) (.tup [.str "leaf",.str x]) = none:=zbz (q:=.leaf x) (k:=1) hq
 have S2:=zaL (ps' := ps++[.leaf x]) S
 have e:=zgL S hq hz
 have t2 : valA (tab (ps++[.leaf x])) (.tup [.str "leaf",.str x]) = some (.int ((ps.length + 1 : Nat) : Int)):=by
  unfold tab
  rw [zaQ]
  unfold valA at t ⊢
  rw [List.find?_append]
  have t3 : (ybh 1 ps).find? (fun p=>decide (p.1 = .tup [.str "leaf",.str x])) = none:=by simpa [tab] using t
  rw [t3]
  simp [Pc.av,Nat.add_comm]
 have e' : yby [.ref p,.tup [.str "leaf",.str x]] h = .ok .non (ybb h p (ps++[.leaf x])):=e
 simp [yat,zfq x h hl,hx,S.ob,S.h2,t,e',S2.ob,S2.h2,t2]
theorem zhM {h : AH} {p : Nat} {ps : List Pc} {a b : Nat} {ma mb la fb : Ms} (S : ShelfAt h p ps) (ha : (meas ps)[a]? = some ma) (hb : (meas ps)[b]? = some mb) (pa : 1 <= a) (pb : 1 <= b) (hla : (meas ps)[ma.ll]? = some la) (hfb : (meas ps)[mb.fl]? = some fb) :
  yaR [.ref p,.int a,.int b] h = if la.sg + fb.sg <= 8 then .ex yfO h else if 1 < (ma.ht - mb.ht).natAbs then .ex ye3 h else if 1000000000000000000 < ma.sg + mb.sg then .ex ye4 h else .ok .non h:=by
 have la_:=(List.getElem?_eq_some_iff.mp ha).1
 have lb_:=(List.getElem?_eq_some_iff.mp hb).1
 rw [zag] at la_ lb_
 have c1:=zbA S (i:=(a : Int)) ⟨by lia,by lia⟩
 have c2:=zbA S (i:=(b : Int)) ⟨by lia,by lia⟩
 by_cases d1 : la.sg + fb.sg <= 8
 ·have d1' : ((la.sg : Int) + fb.sg) <= 8:=by lia
  simp [yaR,c1,c2,S.ob,S.h3,S.h5,S.h6,S.h7,S.h8,zae ha,zae hb,zae hla,zae hfb,d1,d1']
 ·have d1' : ¬ ((la.sg : Int) + fb.sg) <= 8:=by lia
  by_cases d2 : 1 < (ma.ht - mb.ht).natAbs
  ·have d2' : (1 : Int) < (if ma.ht - mb.ht < 0 then -(ma.ht - mb.ht) else ma.ht - mb.ht):=by split<;>lia
   simp [yaR,c1,c2,S.ob,S.h3,S.h5,S.h6,S.h7,S.h8,zae ha,zae hb,zae hla,zae hfb,d1,d1',d2,d2',-Int.neg_sub]
  ·have d2' : ¬ (1 : Int) < (if ma.ht - mb.ht < 0 then -(ma.ht - mb.ht) else ma.ht - mb.ht):=by split<;>lia
   by_cases d3 : 1000000000000000000 < ma.sg + mb.sg
   ·have d3' : (1000000000000000000 : Int) < (ma.sg : Int) + mb.sg:=by lia
    simp [yaR,c1,c2,S.ob,S.h3,S.h5,S.h6,S.h7,S.h8,zae ha,zae hb,zae hla,zae hfb,d1,d1',d2,d2',d3,d3',-Int.neg_sub]
   ·have d3' : ¬ (1000000000000000000 : Int) < (ma.sg : Int) + mb.sg:=by lia
    simp [yaR,c1,c2,S.ob,S.h3,S.h5,S.h6,S.h7,S.h8,zae ha,zae hb,zae hla,zae hfb,d1,d1',d2,d2',d3,d3',-Int.neg_sub]
structure ForkOk (ps : List Pc) (a b : Nat) : Prop where
 pa : 1 <= a
 pb : 1 <= b
 ex : ∃ ma mb la fb,(meas ps)[a]? = some ma /\ (meas ps)[b]? = some mb /\ (meas ps)[ma.ll]? = some la /\ (meas ps)[mb.fl]? = some fb /\ 8 < la.sg + fb.sg /\ (ma.ht - mb.ht).natAbs <= 1 /\ ma.sg + mb.sg <= 1000000000000000000
theorem zcl {h : AH} {p : Nat} {ps : List Pc} {a b : Nat} (S : ShelfAt h p ps) (F : ForkOk ps a b) : yaR [.ref p,.int a,.int b] h = .ok .non h:=by
 obtain ⟨ma,mb,la,fb,h1,h2,h3,h4,h5,h6,h7⟩:=F.ex
 rw [zhM S h1 h2 F.pa F.pb h3 h4,if_neg (by lia),if_neg (by lia),if_neg (by lia)]
theorem zaS {h : AH} {p : Nat} {ps : List Pc} {a b i : Nat} (S : ShelfAt h p ps) (nd : ps.Nodup) (F : ForkOk ps a b) (e : ps[i]? = some (.fork a b)) : yaC [.ref p,.int a,.int b] h = .ok (.int ((i + 1 : Nat) : Int)) h:=by
 have t:=zcw (k:=1) nd e
 have t' : valA (tab ps) (.tup [.str "fork",.int a,.int b]) = some (.int ((i + 1 : Nat) : Int)):=by rw [Nat.add_comm]; exact t
 simp [yaC,zcl S F,S.ob,S.h2,t']
theorem zbC {h : AH} {p : Nat} {ps : List Pc} {a b : Nat} (S : ShelfAt h p ps) (F : ForkOk ps a b) (hq : Pc.fork a b ∉ ps) (hz : ps.length < 16000000) : yaC [.ref p,.int a,.int b] h = .ok (.int ((ps.length + 1 : Nat) : Int)) (ybb h p (ps++[.fork a b])):=by
 have t : valA (tab ps) (.tup [.str "fork",.int a,.int b]) = none:=zbz (q:=.fork a b) (k:=1) hq
 have S2:=zaL (ps' := ps++[.fork a b]) S
 obtain ⟨ma,mb,la,fb,h1,h2,_⟩:=F.ex
 have e:=zgM S hq hz h1 h2
 have t2 : valA (tab (ps++[.fork a b])) (.tup [.str "fork",.int a,.int b]) = some (.int ((ps.length + 1 : Nat) : Int)):=by
  unfold tab
  rw [zaQ]
  unfold valA at t ⊢
  rw [List.find?_append]
  have t3 : (ybh 1 ps).find? (fun p=>decide (p.1 = .tup [.str "fork",.int a,.int b])) = none:=by simpa [tab] using t
  rw [t3]
  simp [Pc.av,Nat.add_comm]
 have e' : ybz [.ref p,.tup [.str "fork",.int a,.int b]] h = .ok .non (ybb h p (ps++[.fork a b])):=e
 simp [yaC,zcl S F,S.ob,S.h2,t,e',S2.ob,S2.h2,t2]
def ydC (n : Nat) : List AO:=[.ins 0 [some (.ref (n + 1)),some (.ref (n + 2)),some (.ref (n + 3)),some (.ref (n + 4)),some (.ref (n + 5)),some (.ref (n + 6)),some (.ref (n + 7)),some (.ref (n + 8))],.lst [],.dct true [],.lst [.int 0],.lst [.int 0],.lst [.int 0],.lst [.int (-1)],.lst [.int 0],.lst [.int 0]]
theorem ziU {h : AH} {o o' : AO} {r : AH} : (h++o :: r).set h.length o' = h++o' :: r:=by
 induction h with
 | nil=>rfl
 | cons x t ih=>simp [ih]
theorem yfx (en : En) (h : AH) : ydj 0 8 ya7 sNil en h = .ok (.ref h.length) (h++ydC h.length):=by
 simp [ya7,ydC,List.getElem?_append,ziU]
theorem yfy {h r : AH} {k : Nat} : (h++r)[h.length + k]? = r[k]? := by
 rw [List.getElem?_append_right (by lia)]; simp
theorem yfz (h r : AH) : ShelfAt (h++(ydC h.length++r)) h.length []:=by
 refine ⟨?_,?_,?_,?_,?_,?_,?_,?_,?_⟩
 ·rw [show h.length = h.length + 0 from rfl,yfy]; rfl
 all_goals (rw [yfy]; rfl)
theorem zdd (x : Str) (c i : Nat) (hi : i < x.length) : Builtin.Str.subAt x ⟨#[c]⟩ i = decide (x.cps.toList[i]? = some c):=by
 have hi' : i < x.cps.size:=hi
 unfold Builtin.Str.subAt
 have e : x.cps.extract i (i + 1) = #[x.cps[i]]:=by
  apply Array.ext
  ·simp; lia
  ·intro j h1 h2
   have : j = 0:=by simp at h2; lia
   subst this
   simp
 show (x.cps.extract i (i + 1) == #[c]) = _
 rw [e]
 have : x.cps.toList[i]? = some x.cps[i]:=by simp [hi']
 rw [this]
 by_cases q : x.cps[i] = c
 ·simp [q]
 ·simp [q]
theorem yeg (x : Str) (c : Nat) : ∀ (n i : Nat) (st : Array Nat × Nat),i + n = x.length + 1 -> st.2 <= i -> st.1.size <= i -> (forIn (List.range' i n) st (StrLaws.occBody x ⟨#[c]⟩ x.length (x.length + 1))).run.fst.size = st.1.size + (x.cps.toList.drop i).count c
 | 0,i,st,hn,_,_=>by
  rw [List.drop_of_length_le (by simp; simp only [Str.length] at hn; lia)]
  simp
 | n + 1,i,st,hn,h2,h3=>by
  rw [List.range'_succ,List.forIn_cons]
  unfold StrLaws.occBody
  by_cases hi : i < x.length
  ·have hi' : i < x.cps.size:=hi
   have hd : x.cps.toList.drop i = x.cps[i]'hi' :: x.cps.toList.drop (i + 1):=by
    rw [List.drop_eq_getElem_cons (show i < x.cps.toList.length by simpa using hi')]; simp
   have hg : x.cps.toList[i]? = some (x.cps[i]'hi'):=by
    simp [hi']
   by_cases q : x.cps[i]'hi' = c
   ·have hs : Builtin.Str.subAt x ⟨#[c]⟩ i = true:=by rw [zdd x c i hi,hg,q]; simp
    rw [if_pos ⟨⟨⟨by lia,h2⟩,hi⟩,hs⟩]
    show (forIn (List.range' (i + 1) n) (st.1.push i,i + 1) (StrLaws.occBody x ⟨#[c]⟩ x.length (x.length + 1))).run.fst.size = _
    rw [yeg x c n (i + 1) _ (by lia) (Nat.le_refl _) (by simp; lia),hd,q]
    simp; lia
   ·have hs : Builtin.Str.subAt x ⟨#[c]⟩ i = false:=by rw [zdd x c i hi,hg]; simp [q]
    rw [if_neg (by simp [hs])]
    show (forIn (List.range' (i + 1) n) (st.1,st.2) (StrLaws.occBody x ⟨#[c]⟩ x.length (x.length + 1))).run.fst.size = _
    rw [yeg x c n (i + 1) _ (by lia) (by show st.2 <= i + 1; lia) (by show st.1.size <= i + 1; lia),hd]
    simp [q]
  ·rw [if_neg (by rintro ⟨⟨_,z⟩,_⟩; exact hi z)]
   show (forIn (List.range' (i + 1) n) (st.1,st.2) (StrLaws.occBody x ⟨#[c]⟩ x.length (x.length + 1))).run.fst.size = _
   rw [yeg x c n (i + 1) _ (by lia) (by show st.2 <= i + 1; lia) (by show st.1.size <= i + 1; lia)]
   rw [List.drop_of_length_le (by simp; simp only [Str.length] at hi; lia),List.drop_of_length_le (by simp; simp only [Str.length] at hi; lia)]
theorem zdG (x : Str) (c : Nat) : (Builtin.Str.occurrences x ⟨#[c]⟩ 0 x.length (x.length + 1)).length = x.cps.toList.count c:=by
 rw [StrLaws.occ_eq,Array.length_toList]
 rw [show x.length + 1 - 0 = x.length + 1 from rfl,yeg x c (x.length + 1) 0 _ (by lia) (Nat.le_refl _) (by simp)]
 simp
theorem zbD (x : Str) : ycX x = x.cps.toList.count 10:=zdG x 10
theorem zaq (x y : Str) : (x++y).cps.toList = x.cps.toList++y.cps.toList:=by
 show (x.cps++y.cps).toList = _
 simp
theorem zhN (x y : Str) : ycX (x++y) = ycX x + ycX y:=by
 rw [zbD,zbD,zbD,zaq,List.count_append]
theorem zac (x : Str) : x.length = x.cps.toList.length:=by simp [Str.length]
theorem zb8 (x y : Str) : (x++y).length = x.length + y.length:=by
 rw [zac,zac,zac,zaq,List.length_append]
def ydD (rs : List Str) : Pc -> Str
 | .leaf x=>x
 | .fork a b=>rs.getD a "" ++ rs.getD b ""
def reads (ps : List Pc) : List Str:=ps.foldl (fun rs q=>rs++[ydD rs q]) [""]
theorem zfU (ps : List Pc) (q : Pc) : reads (ps++[q]) = reads ps++[ydD (reads ps) q]:=by simp [reads]
theorem zbE {α β : Type} (g : List β -> α -> β) : ∀ (qs : List α) (ms : List β),∃ r,qs.foldl (fun ms q=>ms++[g ms q]) ms = ms++r /\ r.length = qs.length
 | [],ms=>⟨[],by simp,rfl⟩
 | q :: qs,ms=>by
  obtain ⟨r,e,l⟩:=zbE g qs (ms++[g ms q])
  exact ⟨g ms q :: r,by rw [List.foldl_cons,e]; simp,by simp [l]⟩
theorem zbj (ps : List Pc) : (reads ps).length = ps.length + 1:=by
 obtain ⟨r,e,l⟩:=zbE ydD ps [""]
 rw [reads,e]; simp [l,Nat.add_comm]
theorem zhO (ps qs : List Pc) : ∃ r,meas (ps++qs) = meas ps++r:=by
 unfold meas
 rw [List.foldl_append]
 obtain ⟨r,e,_⟩:=zbE ycJ qs (ps.foldl (fun ms q=>ms++[ycJ ms q]) [ms0])
 exact ⟨r,e⟩
theorem zgN (ps qs : List Pc) : ∃ r,reads (ps++qs) = reads ps++r:=by
 unfold reads
 rw [List.foldl_append]
 obtain ⟨r,e,_⟩:=zbE ydD qs (ps.foldl (fun ms q=>ms++[ydD ms q]) [""])
 exact ⟨r,e⟩
theorem zal {ps ps' : List Pc} (h : ps <+: ps') {n : Nat} {m : Ms} (e : (meas ps)[n]? = some m) : (meas ps')[n]? = some m:=by
 obtain ⟨qs,rfl⟩:=h
 obtain ⟨r,q⟩:=zhO ps qs
 rw [q,List.getElem?_append_left (List.getElem?_eq_some_iff.mp e).1]; exact e
theorem zbk {ps ps' : List Pc} (h : ps <+: ps') {n : Nat} {m : Str} (e : (reads ps)[n]? = some m) : (reads ps')[n]? = some m:=by
 obtain ⟨qs,rfl⟩:=h
 obtain ⟨r,q⟩:=zgN ps qs
 rw [q,List.getElem?_append_left (List.getElem?_eq_some_iff.mp e).1]; exact e
theorem zcx (ps : List Pc) (i : Nat) : ps.take i <+: ps:=List.take_prefix i ps
theorem zcy {ps : List Pc} {i : Nat} {q : Pc} (e : ps[i]? = some q) : (ps.take i++[q]) <+: ps /\ (ps.take i).length = i:=by
 have hi:=(List.getElem?_eq_some_iff.mp e).1
 have : ps.take (i + 1) = ps.take i++[q]:=by
  rw [List.take_succ,e]; rfl
 exact ⟨this ▸ List.take_prefix _ _,by simp; lia⟩
theorem zde {ps : List Pc} {i : Nat} {q : Pc} (e : ps[i]? = some q) : (meas ps)[i + 1]? = some (ycJ (meas (ps.take i)) q):=by
 obtain ⟨h,l⟩:=zcy e
 refine zal h ?_
 rw [zbR,List.getElem?_append_right (by rw [zag,l]; lia),zag,l]
 simp
theorem zep {ps : List Pc} {i : Nat} {q : Pc} (e : ps[i]? = some q) : (reads ps)[i + 1]? = some (ydD (reads (ps.take i)) q):=by
 obtain ⟨h,l⟩:=zcy e
 refine zbk h ?_
 rw [zfU,List.getElem?_append_right (by rw [zbj,l]; lia),zbj,l]
 simp
def PcOk (ps : List Pc) : Pc -> Prop
 | .leaf x=>ya6 x = true
 | .fork a b=>ForkOk ps a b
inductive Good : List Pc -> Prop
 | nil : Good []
 | snoc {ps : List Pc} {q : Pc} : Good ps -> q ∉ ps -> PcOk ps q -> Good (ps++[q])
theorem Good.nodup {ps : List Pc} (g : Good ps) : ps.Nodup:=by
 induction g with
 | nil=>exact List.nodup_nil
 | snoc g n ok ih=>exact List.nodup_append.mpr ⟨ih,by simp,fun a ha b hb=>by simp at hb; subst hb; exact fun e=>n (e ▸ ha)⟩
theorem Good.get {ps : List Pc} (g : Good ps) : ∀ {i : Nat} {q : Pc},ps[i]? = some q -> PcOk (ps.take i) q:=by
 induction g with
 | nil=>intro i q e; simp at e
 | @snoc ps q' g n ok ih =>
  intro i q e
  by_cases hi : i < ps.length
  ·rw [List.getElem?_append_left hi] at e
   rw [List.take_append_of_le_length (by lia)]
   exact ih e
  ·have hi2 : i = ps.length:=by
    have:=(List.getElem?_eq_some_iff.mp e).1
    simp at this; lia
   subst hi2
   simp at e
   subst e
   simpa using ok
theorem ForkOk.pre {ps ps' : List Pc} {a b : Nat} (F : ForkOk ps a b) (h : ps <+: ps') : ForkOk ps' a b:=by
 obtain ⟨ma,mb,la,fb,h1,h2,h3,h4,h5⟩:=F.ex
 exact ⟨F.pa,F.pb,ma,mb,la,fb,zal h h1,zal h h2,zal h h3,zal h h4,h5⟩
structure Ky (ps : List Pc) (m : Ms) (x : Str) (f l : Ms) : Prop where
 fl : (meas ps)[m.fl]? = some f
 ll : (meas ps)[m.ll]? = some l
 sg : m.sg = x.length
 en : m.en = ycX x
 f1 : 1 <= f.sg
 f8 : f.sg <= 8
 l1 : 1 <= l.sg
 l8 : l.sg <= 8
 lv : 1 <= m.lv
 ht : 0 <= m.ht
 most : m.sg <= 1000000000000000000
 cnt : ∃ k,(m.lv = 2 * k + 1 /\ 9 * k + f.sg <= m.sg /\ 9 * k + l.sg <= m.sg) \/ (m.lv = 2 * k + 2 /\ 9 * k + 9 <= m.sg /\ 9 * k + f.sg + l.sg <= m.sg)
 pl : yaF x = true
structure Tx (ps : List Pc) (n : Nat) (m : Ms) (x : Str) (f l : Ms) : Prop where
 n1 : 1 <= n
 ms : (meas ps)[n]? = some m
 rd : (reads ps)[n]? = some x
 ky : Ky ps m x f l
theorem Ky.pre {ps ps' : List Pc} {m : Ms} {x : Str} {f l : Ms} (k : Ky ps m x f l) (h : ps <+: ps') : Ky ps' m x f l :=
 { k with fl:=zal h k.fl,ll:=zal h k.ll }
theorem Tx.pre {ps ps' : List Pc} {n : Nat} {m : Ms} {x : Str} {f l : Ms} (k : Tx ps n m x f l) (h : ps <+: ps') : Tx ps' n m x f l :=
 ⟨k.n1,zal h k.ms,zbk h k.rd,k.ky.pre h⟩
theorem Tx.le {ps : List Pc} {n : Nat} {m : Ms} {x : Str} {f l : Ms} (k : Tx ps n m x f l) : n <= ps.length:=by
 have:=(List.getElem?_eq_some_iff.mp k.ms).1
 rw [zag] at this; lia
def yc9 (ma mb : Ms) : Ms:=⟨ma.sg + mb.sg,ma.en + mb.en,ma.lv + mb.lv,max ma.ht mb.ht + 1,ma.fl,mb.ll⟩
theorem zgO (x y : Str) : yaF (x++y) = (yaF x && yaF y):=by unfold yaF; rw [zaq,List.all_append]
theorem kf1 {n n' s s' f l f' l' : Nat} (a : ∃ k,(n = 2 * k + 1 /\ 9 * k + f <= s /\ 9 * k + l <= s) \/ (n = 2 * k + 2 /\ 9 * k + 9 <= s /\ 9 * k + f + l <= s)) (b : ∃ k,(n' = 2 * k + 1 /\ 9 * k + f' <= s' /\ 9 * k + l' <= s') \/ (n' = 2 * k + 2 /\ 9 * k + 9 <= s' /\ 9 * k + f' + l' <= s')) (hs : 8 < l + f') :
  ∃ k,(n + n' = 2 * k + 1 /\ 9 * k + f <= s + s' /\ 9 * k + l' <= s + s') \/ (n + n' = 2 * k + 2 /\ 9 * k + 9 <= s + s' /\ 9 * k + f + l' <= s + s'):=by
 obtain ⟨k,⟨rfl,a1,a2⟩ | ⟨rfl,a1,a2⟩⟩:=a<;>obtain ⟨k',⟨rfl,b1,b2⟩ | ⟨rfl,b1,b2⟩⟩:=b
 ·exact ⟨k + k',.inr ⟨by lia,by lia,by lia⟩⟩
 ·exact ⟨k + k' + 1,.inl ⟨by lia,by lia,by lia⟩⟩
 ·exact ⟨k + k' + 1,.inl ⟨by lia,by lia,by lia⟩⟩
 ·exact ⟨k + k' + 1,.inr ⟨by lia,by lia,by lia⟩⟩
theorem Ky.sg1 {ps : List Pc} {m : Ms} {x : Str} {f l : Ms} (k : Ky ps m x f l) : 1 <= m.sg:=by
 have f1:=k.f1
 obtain ⟨k,⟨_,a,_⟩ | ⟨_,a,_⟩⟩:=k.cnt
 ·exact Nat.le_trans f1 (Nat.le_trans (Nat.le_add_left _ _) a)
 ·exact Nat.le_trans (Nat.le_add_left 1 (9 * k + 8)) a
theorem Ky.fork {ps : List Pc} {ma mb fa la fb lb : Ms} {x y : Str} (A : Ky ps ma x fa la) (B : Ky ps mb y fb lb) (hs : 8 < la.sg + fb.sg) (hm : ma.sg + mb.sg <= 1000000000000000000) : Ky ps (yc9 ma mb) (x++y) fa lb:=by
 have k:=kf1 A.cnt B.cnt hs
 refine ⟨A.fl,B.ll,?_,?_,A.f1,A.f8,B.l1,B.l8,Nat.le_trans A.lv (Nat.le_add_right _ _),?_,hm,k,?_⟩
 ·show ma.sg + mb.sg = _; rw [zb8,A.sg,B.sg]
 ·show ma.en + mb.en = _; rw [zhN,A.en,B.en]
 ·have a4:=A.ht
  show 0 <= max ma.ht mb.ht + 1
  clear k hs hm; lia
 ·rw [zgO,A.pl,B.pl]; rfl
theorem zaP {x : Str} (h : ya6 x = true) : 1 <= x.length /\ x.length <= 8 /\ yaF x = true:=by
 simp [ya6] at h; exact ⟨h.2.1,h.2.2,h.1⟩
theorem zaz {α : Type} {l : List α} {i : Nat} {d x : α} (e : l[i]? = some x) : l.getD i d = x:=by simp [List.getD,e]
def lfMs (x : Str) (n : Nat) : Ms:=⟨x.length,ycX x,1,0,n,n⟩
theorem zaV {ps : List Pc} (g : Good ps) {i : Nat} {x : Str} (e : ps[i]? = some (.leaf x)) : Tx ps (i + 1) (lfMs x (i + 1)) x (lfMs x (i + 1)) (lfMs x (i + 1)):=by
 have hi:=(List.getElem?_eq_some_iff.mp e).1
 have ok : ya6 x = true:=g.get e
 obtain ⟨s1,s2,s3⟩:=zaP ok
 have li : (ps.take i).length = i:=by simp; lia
 have ml : (meas (ps.take i)).length = i + 1:=by rw [zag,li]
 have e1' : (meas ps)[i + 1]? = some (lfMs x (i + 1)):=by rw [zde e]; simp only [ycJ,lfMs]; rw [ml]
 exact ⟨by lia,e1',zep e,⟨e1',e1',rfl,rfl,s1,s2,s1,s2,Nat.le_refl 1,Int.le_refl 0,by show x.length <= _; lia,⟨0,.inl ⟨rfl,Nat.le_of_eq (Nat.zero_add _),Nat.le_of_eq (Nat.zero_add _)⟩⟩,s3⟩⟩
theorem zaW {ps : List Pc} (g : Good ps) {i a b : Nat} {ma mb fa la fb lb : Ms} {x y : Str} (e : ps[i]? = some (.fork a b)) (A : Tx ps a ma x fa la) (B : Tx ps b mb y fb lb) : Tx ps (i + 1) (yc9 ma mb) (x++y) fa lb:=by
 have hi:=(List.getElem?_eq_some_iff.mp e).1
 have ok' : ForkOk (ps.take i) a b:=g.get e
 have li : (ps.take i).length = i:=by simp; lia
 have tp:=zcx ps i
 obtain ⟨ma',mb',la',fb',q1,q2,q3,q4,q5,q6,q7⟩:=ok'.ex
 have ba:=(List.getElem?_eq_some_iff.mp q1).1
 have bb:=(List.getElem?_eq_some_iff.mp q2).1
 rw [zag,li] at ba bb
 have z1:=A.ms.symm.trans (zal tp q1); cases z1
 have z2:=B.ms.symm.trans (zal tp q2); cases z2
 have z3:=A.ky.ll.symm.trans (zal tp q3); cases z3
 have z4:=B.ky.fl.symm.trans (zal tp q4); cases z4
 have r1 : (reads (ps.take i))[a]? = some x:=by
  obtain ⟨w,ew⟩ : ∃ w,(reads (ps.take i))[a]? = some w:=⟨(reads (ps.take i))[a]'(by rw [zbj,li]; lia),by simp⟩
  have:=(zbk tp ew).symm.trans A.rd; cases this; exact ew
 have r2 : (reads (ps.take i))[b]? = some y:=by
  obtain ⟨w,ew⟩ : ∃ w,(reads (ps.take i))[b]? = some w:=⟨(reads (ps.take i))[b]'(by rw [zbj,li]; lia),by simp⟩
  have:=(zbk tp ew).symm.trans B.rd; cases this; exact ew
 refine ⟨by lia,?_,?_,A.ky.fork B.ky q5 q7⟩
 ·rw [zde e]; simp only [ycJ,zaz q1,zaz q2]; rfl
 ·rw [zep e]; simp only [ydD,zaz r1,zaz r2]
theorem Good.tx {ps : List Pc} (g : Good ps) : ∀ n,1 <= n -> n <= ps.length -> ∃ m x f l,Tx ps n m x f l:=by
 intro n
 induction n using Nat.strongRecOn with
 | ind n ih =>
  intro h1 h2
  obtain ⟨i,rfl⟩ : ∃ i,n = i + 1:=⟨n - 1,(Nat.sub_add_cancel h1).symm⟩
  obtain ⟨q,eq⟩ : ∃ q,ps[i]? = some q:=⟨ps[i],by simp⟩
  have ok:=g.get eq
  have li : (ps.take i).length = i:=(zcy eq).2
  cases q with
  | leaf x=>exact ⟨_,_,_,_,zaV g eq⟩
  | fork a b =>
   have ok' : ForkOk (ps.take i) a b:=ok
   obtain ⟨ma,mb,la,fb,q1,q2,_⟩:=ok'.ex
   have ba:=(List.getElem?_eq_some_iff.mp q1).1
   have bb:=(List.getElem?_eq_some_iff.mp q2).1
   rw [zag,li] at ba bb
   obtain ⟨_,_,_,_,A⟩:=ih a ba ok'.pa (Nat.le_trans (Nat.le_of_lt ba) h2)
   obtain ⟨_,_,_,_,B⟩:=ih b bb ok'.pb (Nat.le_trans (Nat.le_of_lt bb) h2)
   exact ⟨_,_,_,_,zaW g eq A B⟩
structure Dd (p : Nat) (h h' : AH) (ps ps' : List Pc) (k : Nat) : Prop where
 sh : ShelfAt h' p ps'
 gd : Good ps'
 pre : ps <+: ps'
 len : ps'.length <= ps.length + k
 fr : ∀ i,i <= p \/ p + 8 < i -> h'[i]? = h[i]?
 hl : h'.length = h.length
theorem zbS {h : AH} {p : Nat} {ps : List Pc} {x : Str} (S : ShelfAt h p ps) (g : Good ps) (hx : ya6 x = true) (hz : ps.length < 16000000) :
  ∃ (n : Nat) (ps' : List Pc) (h' : AH),yat [.ref p,.str x] h = .ok (.int n) h' /\ Dd p h h' ps ps' 1 /\ Tx ps' n (lfMs x n) x (lfMs x n) (lfMs x n):=by
 obtain ⟨s1,s2,s3⟩:=zaP hx
 have hs : x.length <= sizeLine:=Nat.le_trans s2 (by decide)
 by_cases hq : Pc.leaf x ∈ ps
 ·obtain ⟨i,hi,e⟩:=List.getElem_of_mem hq
  have e' : ps[i]? = some (.leaf x):=by rw [List.getElem?_eq_getElem hi,e]
  exact ⟨i + 1,ps,h,zaR S g.nodup hx hs e',⟨S,g,List.prefix_refl _,by lia,fun _ _=>rfl,rfl⟩,zaV g e'⟩
 ·have g' : Good (ps++[.leaf x]):=.snoc g hq hx
  have e' : (ps++[Pc.leaf x])[ps.length]? = some (.leaf x):=by simp
  exact ⟨ps.length + 1,_,_,zbB S hx hs hq hz,⟨zaL S,g',List.prefix_append _ _,by simp,fun i hi=>zbc hi,zbi _ _ _⟩,zaV g' e'⟩
theorem zdH {h : AH} {p : Nat} {ps : List Pc} {a b : Nat} {ma mb fa la fb lb : Ms} {x y : Str} (S : ShelfAt h p ps) (g : Good ps) (A : Tx ps a ma x fa la) (B : Tx ps b mb y fb lb) (hc : 8 < la.sg + fb.sg) (hv : (ma.ht - mb.ht).natAbs <= 1) (hm : ma.sg + mb.sg <= 1000000000000000000) (hz : ps.length < 16000000) :
  ∃ (n : Nat) (ps' : List Pc) (h' : AH),yaC [.ref p,.int a,.int b] h = .ok (.int n) h' /\ Dd p h h' ps ps' 1 /\ Tx ps' n (yc9 ma mb) (x++y) fa lb:=by
 have F : ForkOk ps a b:=⟨A.n1,B.n1,ma,mb,la,fb,A.ms,B.ms,A.ky.ll,B.ky.fl,hc,hv,hm⟩
 by_cases hq : Pc.fork a b ∈ ps
 ·obtain ⟨i,hi,e⟩:=List.getElem_of_mem hq
  have e' : ps[i]? = some (.fork a b):=by rw [List.getElem?_eq_getElem hi,e]
  exact ⟨i + 1,ps,h,zaS S g.nodup F e',⟨S,g,List.prefix_refl _,by lia,fun _ _=>rfl,rfl⟩,zaW g e' A B⟩
 ·have g' : Good (ps++[.fork a b]):=.snoc g hq F
  have e' : (ps++[Pc.fork a b])[ps.length]? = some (.fork a b):=by simp
  have pr : ps <+: ps++[Pc.fork a b]:=List.prefix_append _ _
  exact ⟨ps.length + 1,_,_,zbC S F hq hz,⟨zaL S,g',pr,by simp,fun i hi=>zbc hi,zbi _ _ _⟩,zaW g' e' (A.pre pr) (B.pre pr)⟩
theorem ShelfAt.keep {h h' : AH} {p : Nat} {ps : List Pc} (S : ShelfAt h p ps) (e : ∀ i,p <= i -> i <= p + 8 -> h'[i]? = h[i]?) : ShelfAt h' p ps:=by
 have k : ∀ j,j <= 8 -> h'[p + j]? = h[p + j]? := fun j hj=>e _ (Nat.le_add_right p j) (Nat.add_le_add_left hj p)
 exact ⟨(k 0 (by decide)).trans S.ob,(k 1 (by decide)).trans S.h1,(k 2 (by decide)).trans S.h2,(k 3 (by decide)).trans S.h3,(k 4 (by decide)).trans S.h4,(k 5 (by decide)).trans S.h5,(k 6 (by decide)).trans S.h6,(k 7 (by decide)).trans S.h7,(k 8 (by decide)).trans S.h8⟩
theorem ShelfAt.app {h : AH} {p : Nat} {ps : List Pc} (S : ShelfAt h p ps) (r : AH) : ShelfAt (h++r) p ps:=by
 have:=ybm S.h8
 exact S.keep fun i _ b=>List.getElem?_append_left (Nat.lt_of_le_of_lt b this)
theorem ziV {h : AH} {st : Nat} {n m : Int} (e : h[st]? = some (.lst [.int n])) (hm : 0 < m) (hm2 : m.natAbs < 2 ^ 200) : yah [.ref st,.int m] h = .ok (.int (n % m)) (h.set st (.lst [.int (n / m)])):=by
 have a0 : atI [AV.int n] 0 = some (.int n):=rfl
 have i0 : ixN 1 0 = some 0:=rfl
 have hm3 : m.natAbs < 1606938044258990275541962092341162602522202993782792835301376:=by simpa using hm2
 simp [yah,e,a0,hm,hm3,i0]
structure Wk (p r : Nat) (h h' : AH) (ps ps' : List Pc) (k : Nat) : Prop where
 sh : ShelfAt h' p ps'
 gd : Good ps'
 pre : ps <+: ps'
 len : ps'.length <= ps.length + k
 row : ∃ N : Int,h'[r]? = some (.lst [.int N])
 fr : ∀ i,i <= p \/ p + 8 < i -> i ≠ r -> h'[i]? = h[i]?
 hl : h'.length = h.length
theorem Wk.refl {p r : Nat} {h : AH} {ps : List Pc} (S : ShelfAt h p ps) (g : Good ps) (e : ∃ N : Int,h[r]? = some (.lst [.int N])) : Wk p r h h ps ps 0 :=
 ⟨S,g,List.prefix_refl _,by lia,e,fun _ _ _=>rfl,rfl⟩
theorem Wk.trans {p r : Nat} {h h' h'' : AH} {ps ps' ps'' : List Pc} {k k' k2 : Nat} (a : Wk p r h h' ps ps' k) (b : Wk p r h' h'' ps' ps'' k') (hk : k + k' <= k2) : Wk p r h h'' ps ps'' k2 :=
 ⟨b.sh,b.gd,a.pre.trans b.pre,by have:=a.len; have:=b.len; lia,b.row,fun i hi hr=>(b.fr i hi hr).trans (a.fr i hi hr),b.hl.trans a.hl⟩
theorem Wk.deed {p r : Nat} {h h' h'' : AH} {ps ps' ps'' : List Pc} {k k' k2 : Nat} (a : Wk p r h h' ps ps' k) (b : Dd p h' h'' ps' ps'' k') (hr : r < p \/ p + 8 < r) (hk : k + k' <= k2) : Wk p r h h'' ps ps'' k2 :=
 a.trans ⟨b.sh,b.gd,b.pre,b.len,by rw [b.fr r (by lia)]; exact a.row,fun i hi _=>b.fr i hi,b.hl⟩ hk
theorem Wk.set {p r : Nat} {h : AH} {ps : List Pc} (S : ShelfAt h p ps) (g : Good ps) {n : Int} (hl : r < h.length) (hr : r < p \/ p + 8 < r) : Wk p r h (h.set r (.lst [.int n])) ps ps 0 :=
 ⟨S.keep fun i h1 h2=>List.getElem?_set_ne (by lia),g,List.prefix_refl _,by lia,⟨n,List.getElem?_set_self hl⟩,fun i _ hi=>List.getElem?_set_ne (by lia),by simp⟩
theorem zas {p r : Nat} {h : AH} {ps : List Pc} (S : ShelfAt h p ps) (g : Good ps) (e : ∃ N : Int,h[r]? = some (.lst [.int N])) (hr : r < p \/ p + 8 < r) (m : Nat) (hm : 0 < m) (hm2 : m <= 10 ^ 50) :
  ∃ (v : Nat) (h' : AH),v < m /\ yah [.ref r,.int m] h = .ok (.int v) h' /\ Wk p r h h' ps ps 0:=by
 obtain ⟨N,e⟩:=e
 refine ⟨(N % m).toNat,_,?_,?_,Wk.set (n:=N / m) S g (ybm e) hr⟩
 ·have:=Int.emod_lt_of_pos N (show (0 : Int) < m by lia); have:=Int.emod_nonneg N (show (m : Int) ≠ 0 by lia); lia
 ·rw [ziV e (by lia) (by lia)]
  have:=Int.emod_nonneg N (show (m : Int) ≠ 0 by lia)
  rw [Int.toNat_of_nonneg this]
theorem zeq : ∀ cs : List Nat,ycM (cs.map fun c=>AV.str ⟨#[c]⟩) = some (cs.map fun c=>(⟨#[c]⟩ : Str))
 | []=>rfl
 | c :: cs=>by simp [zeq cs]
theorem yf9 : ∀ cs : List Nat,((cs.map fun c=>(⟨#[c]⟩ : Str)).map fun x : Str=>x.cps.toList).flatten = cs
 | []=>rfl
 | c :: cs=>by simpa using yf9 cs
theorem ziW {h : AH} {cs : List Nat} (hl : cs.length <= 1000000) : ybD (.str "") [.fl (cs.map fun c=>AV.str ⟨#[c]⟩)] h = .ok (.str ⟨cs.toArray⟩) h:=by
 have e : (Str.ofString "") = Str.empty:=by decide +kernel
 unfold ybD
 simp only [e,if_true,ybi,zeq,yf9]
 rw [if_pos hl]
theorem ziX (c k : Int) (h : AH) : ∃ m,ycI [.int c,.int k] h = .ok (.int m) h:=by
 have b1 : 0 <= (c % 1000000007 + 7919 * k + 1) * 48271 % 2147483647:=Int.emod_nonneg _ (by decide)
 have b2 : (c % 1000000007 + 7919 * k + 1) * 48271 % 2147483647 < 2147483647:=Int.emod_lt_of_pos _ (by decide)
 refine ⟨(c % 1000000007 + 7919 * k + 1) * 48271 % 2147483647 * ((c % 1000000007 + 7919 * k + 1) * 48271 % 2147483647) % 2147483629 * 69621 % 2147483647,?_⟩
 generalize he : (c % 1000000007 + 7919 * k + 1) * 48271 % 2147483647 = v at *
 have c1 : v.natAbs < 18446744073709551616:=by lia
 simp [ycI,he,c1]
theorem yhk {i j : Int} {h : AH} (hi : i.natAbs < 2 ^ 4000) (hj : j.natAbs < 2 ^ 4000) : fMul (.int i) (.int j) h = .ok (.int (i * j)) h:=if_pos (.inr ⟨hi,hj⟩)
theorem zfV (ns : List Int) : ydP (ns.map AV.int) = some ns:=by
 induction ns with
 | nil=>rfl
 | cons n r ih=>simp [ih]
abbrev T60 : Int:=1000000000000000000000000000000000000000000000000000000000000
theorem yhl : (10 : Nat) ^ 780 < 2 ^ 4000:=by decide +kernel
theorem yij : T60.natAbs < 2 ^ 4000:=by decide +kernel
theorem zeL (ns : List Int) (k : Nat) (i : Nat) (c : Nat) (o : Option AV) (h : AH) (hi : i < 13) (hc : c < 10 ^ (60 * i)) (hj : k + i * 5 < ns.length) :
  ∃ c' : Nat,c' < 10 ^ (60 * (i + 1)) /\ ybt [some (.fl (ns.map AV.int)),some (.int k),some (.int c),some (.int ((k : Int) + i * 5)),o] h = .nx [some (.fl (ns.map AV.int)),some (.int k),some (.int c'),some (.int ((k : Int) + i * 5)),o] h:=by
 obtain ⟨s,es⟩ : ∃ s,ns[k + i * 5]? = some s:=⟨ns[k + i * 5],by simp [hj]⟩
 have ix : fIx (.fl (ns.map AV.int)) (.int ((k : Int) + i * 5)) h = .ok (.int s) h:=by
  rw [show ((k : Int) + i * 5) = ((k + i * 5 : Nat) : Int) by simp]
  simp only [fIx,zhL es]
 have p1 : (10 : Nat) ^ (60 * i) <= 10 ^ 780:=Nat.pow_le_pow_right (by decide) (by lia)
 have m1 : ((c : Int)).natAbs < 2 ^ 4000:=by
  have:=yhl
  exact Nat.lt_trans (show c < 10 ^ 780 by lia) this
 have mu : fMul (.int c) (.int T60) h = .ok (.int (c * T60)) h:=yhk m1 yij
 have r0 : 0 <= s % T60:=Int.emod_nonneg _ (by decide)
 have r1 : s % T60 < T60:=Int.emod_lt_of_pos _ (by decide)
 obtain ⟨r,er⟩ : ∃ r : Nat,s % T60 = (r : Int):=⟨(s % T60).toNat,(Int.toNat_of_nonneg r0).symm⟩
 have rl : r < 10 ^ 60:=by
  have : (r : Int) < T60:=er ▸ r1
  have e : T60 = ((10 ^ 60 : Nat) : Int):=by decide +kernel
  rw [e] at this; exact Int.ofNat_lt.mp this
 obtain ⟨c',ec,lc⟩ : ∃ c' : Nat,(c : Int) * T60 + r = (c' : Int) /\ c' < 10 ^ (60 * (i + 1)):=by
  refine ⟨c * 10 ^ 60 + r,?_,?_⟩
  ·have e : T60 = ((10 ^ 60 : Nat) : Int):=by decide +kernel
   rw [e,Int.natCast_add,Int.natCast_mul]
  ·rw [show 60 * (i + 1) = 60 * i + 60 by lia,Nat.pow_add]
   have : (c + 1) * 10 ^ 60 <= 10 ^ (60 * i) * 10 ^ 60:=Nat.mul_le_mul_right _ hc
   have e2 : (c + 1) * 10 ^ 60 = c * 10 ^ 60 + 10 ^ 60:=Nat.succ_mul _ _
   lia
 refine ⟨c',lc,?_⟩
 have pw : fPow (.int 10) (.int 60) h = .ok (.int T60) h:=by simp
 have md : fMod (.int s) (.int T60) h = .ok (.int r) h:=by simp only [fMod]; rw [if_pos (by decide),er]
 clear p1 m1 r0 r1 er rl hc lc hi
 generalize T60 = t60 at *
 simp [ybt,pw,mu,ix,md,ec,-fMul,-fPow,-fIx,-fMod]
theorem zer (en0 : Option AV) (ns : List Int) (k c f j : Int) (h : AH) : ∃ f',ybu [some (.fl (ns.map AV.int)),some (.int k),some (.int c),some (.int j),some (.int f)] h = .nx [some (.fl (ns.map AV.int)),some (.int k),some (.int c),some (.int j),some (.int f')] h:=by
 obtain ⟨m,hm⟩:=ziX (c + 1009 * k + ns.length) j h
 refine ⟨f * 2147483647 + m,?_⟩
 have m1 : fMul (.int f) (.int 2147483647) h = .ok (.int (f * 2147483647)) h:=yeI (by decide)
 have m2 : fMul (.int 1009) (.int k) h = .ok (.int (1009 * k)) h:=yef (by decide)
 simp [ybu,hm,m1,m2,-fMul]
theorem zcz (ns : List Int) (hl : ns.length <= 63) (k : Nat) (hk : k <= 10) (h : AH) : ∃ N : Int,yaQ [.fl (ns.map AV.int),.int k] h = .ok (.ref h.length) (h++[.lst [.int N]]):=by
 obtain ⟨M,eM⟩ : ∃ M : Nat,M = (if (k : Int) < (ns.length : Int) then ((ns.length : Int) - k - 1) / 5 + 1 else 0).toNat:=⟨_,rfl⟩
 have hM : M <= 13 /\ ∀ i,i < M -> k + i * 5 < ns.length:=by
  rw [eM]
  split
  ·refine ⟨by lia,fun i hi=>by lia⟩
  ·refine ⟨by lia,fun i hi=>by simp at hi⟩
 obtain ⟨e1,h1,r1,r2⟩:=ych (w:=none) (all:=(List.range M).map (fun m : Nat=>AV.int ((k : Int) + m * 5))) (t:=.nm 3) (b:=ybt) (xs:=(List.range M).map (fun m : Nat=>AV.int ((k : Int) + m * 5))) (en:=[some (.fl (ns.map AV.int)),some (.int k),some (.int 0),none,none]) (h:=h)
  (fun i en h' => h' = h /\ ∃ (c : Nat) (o : Option AV),c < 10 ^ (60 * i) /\ en = [some (.fl (ns.map AV.int)),some (.int k),some (.int c),o,none]) ⟨rfl,0,none,by decide,rfl⟩ (fun _ _ _ _=>rfl) (by
   rintro j x en h' hx ⟨rfl,c,o,hc,rfl⟩
   rw [List.getElem?_map] at hx
   obtain ⟨m,em,rfl⟩:=Option.map_eq_some_iff.mp hx
   have hj : j < M:=by
    have:=(List.getElem?_eq_some_iff.mp em).1; simpa using this
   rw [List.getElem?_range hj] at em
   cases em
   obtain ⟨c',l',e⟩:=zeL ns k j c none h' (by have:=hM.1; lia) hc (hM.2 j hj)
   show thn (ybt [some (.fl (ns.map AV.int)),some (.int k),some (.int c),some (.int ((k : Int) + j * 5)),none] h') _
   rw [e]
   exact ⟨rfl,c',_,l',rfl⟩)
 obtain ⟨rfl,c,o,hc,rfl⟩:=r2
 have z1 : (k : Int).natAbs < 1099511627776:=by lia
 have z2 : ((ns.length : Nat) : Int).natAbs < 1099511627776:=by lia
 have it3 : yb8 (sVar 1) (yae fLen (yab (sVar 0) sNil)) (sLit (.int 5)) [some (.fl (ns.map AV.int)),some (.int k),some (.int 0),none,none] h1 = .ok ((List.range M).map (fun m : Nat=>AV.int ((k : Int) + m * 5)),none) h1:=by
  simp only [yb8,sVar,yae,yab,sNil,sLit,Out.bind,fLen,List.getElem?_cons_zero,List.getElem?_cons_succ,lenA]
  rw [if_pos ⟨z1,z2,by decide,by decide⟩,<- eM]
 have f1:=(ybO (t:=.nm 3) (b:=ybt) it3).trans r1
 clear r1 it3
 by_cases hb : (1000000000000000000 : Int) <= c
 ·exact ⟨c,by simp [yaQ,f1,hb,-sFor]⟩
 ·have cm:=zcu (js:=[]) (en:=[some (.fl (ns.map AV.int)),some (.int k),some (.int c),o,none]) (w:=none) (all:=ns.map AV.int) (e:=sOp2 fMod (sVar 0) (sOp2 fPow (sLit (.int 10)) (sLit (.int 18)))) (g:=AV.int) (f:=fun i=>AV.int (i % 1000000000000000000)) (h:=h1) rfl ns [] (by intro i _; simp) (by
    simp only [List.length_nil]; exact Nat.le_trans (show 0 + ns.length <= 63 by lia) (by decide))
  have im : (ns.map fun i=>AV.int (i % 1000000000000000000)) = (ns.map fun i=>i % 1000000000000000000).map AV.int:=by simp
  obtain ⟨S,eS⟩ : ∃ S : Int,S = (ns.map fun i=>i % 1000000000000000000).sum:=⟨_,rfl⟩
  have sm : fSum [.fl (ns.map fun i=>AV.int (i % 1000000000000000000))] h1 = .ok (.int S) h1:=by
   rw [im,eS]; simp only [fSum,zfV]
  obtain ⟨e2,h2,s1,s2⟩:=ych (w:=none) (all:=yau 0 30) (t:=.nm 3) (b:=ybu) (xs:=yau 0 30) (en:=[some (.fl (ns.map AV.int)),some (.int k),some (.int (c + S)),o,some (.int 0)]) (h:=h1)
   (fun i en h' => h' = h1 /\ ∃ (f : Int) (o : Option AV),en = [some (.fl (ns.map AV.int)),some (.int k),some (.int (c + S)),o,some (.int f)]) ⟨rfl,0,o,rfl⟩ (fun _ _ _ _=>rfl) (by
    rintro j x en h' hx ⟨rfl,f,o,rfl⟩
    rw [zar] at hx
    by_cases q : j < 30
    ·rw [if_pos q] at hx
     cases hx
     obtain ⟨f',e⟩:=zer none ns k (c + S) f (0 + (j : Int)) h'
     show thn (ybu [some (.fl (ns.map AV.int)),some (.int k),some (.int (c + S)),some (.int (0 + (j : Int))),some (.int f)] h') _
     rw [e]
     exact ⟨rfl,f',_,rfl⟩
    ·rw [if_neg q] at hx; cases hx)
  obtain ⟨rfl,f,o',rfl⟩:=s2
  have f2:=(ybO (t:=.nm 3) (b:=ybu) (za2 (a:=sLit (.int 30)) (en:=[some (.fl (ns.map AV.int)),some (.int k),some (.int (c + S)),o,some (.int 0)]) (h:=h2) (n:=30) rfl (by decide))).trans s1
  refine ⟨f / 64,?_⟩
  simp at cm
  simp [yaQ,f1,hb,cm,sm,f2,-sFor,-fSum]
def yfA : Str:=(Str.ofString "abcdefghijklmnopqrstuvwxyzABCDEFGHIJKLMNOPQRSTUVWXYZ0123456789")++(Str.ofString " !\"#$&'()*+,-./:;<=>?\x40[\\]^_`{|}~\n")
def lettersL : List Str:=["ab", "aab\n", "a\n",yfA, "n\\\n"]
theorem zfW : ∀ x ∈ lettersL,yaF x = true /\ 1 <= x.length /\ x.length <= 100:=by decide +kernel
theorem zdI {p r : Nat} {h : AH} {ps : List Pc} (S : ShelfAt h p ps) (g : Good ps) (e : ∃ N : Int,h[r]? = some (.lst [.int N])) (hr : r < p \/ p + 8 < r) :
  ∃ (x : Str) (h' : AH),(yaF x = true /\ 1 <= x.length /\ x.length <= 100) /\ ybU [.ref r] h = .ok (.str x) h' /\ Wk p r h h' ps ps 0:=by
 obtain ⟨v,h',hv,e1,W⟩:=zas S g e hr 5 (by decide) (by decide)
 have : v = 0 \/ v = 1 \/ v = 2 \/ v = 3 \/ v = 4:=by lia
 have e1' : yah [.ref r,.int 5] h = .ok (.int v) h' := e1
 refine ⟨lettersL.getD v "",h',zfW _ ?_,?_,W⟩
 ·rcases this with rfl | rfl | rfl | rfl | rfl<;>simp [lettersL]
 ·have l1 : (Str.ofString "abcdefghijklmnopqrstuvwxyzABCDEFGHIJKLMNOPQRSTUVWXYZ0123456789").length + (Str.ofString " !\"#$&'()*+,-./:;<=>?\x40[\\]^_`{|}~\n").length <= sizeLine:=by decide +kernel
  have ad : fAdd (.str (Str.ofString "abcdefghijklmnopqrstuvwxyzABCDEFGHIJKLMNOPQRSTUVWXYZ0123456789")) (.str (Str.ofString " !\"#$&'()*+,-./:;<=>?\x40[\\]^_`{|}~\n")) h = .ok (.str yfA) h:=by simp only [fAdd,l1,if_true]; rfl
  rcases this with rfl | rfl | rfl | rfl | rfl<;>simp [ybU,ad,e1',-fAdd]<;>rfl
theorem ziY {x : Str} {v : Nat} (hv : v < x.length) (hx : yaF x = true) (h : AH) : ∃ c,ybV c = true /\ fIx (.str x) (.int v) h = .ok (.str ⟨#[c]⟩) h:=by
 have hv' : v < x.cps.toList.length:=by rw [<- zac]; exact hv
 refine ⟨x.cps.toList[v],?_,?_⟩
 ·exact List.all_eq_true.mp hx _ (List.getElem_mem hv')
 ·have e : x.cps.toList[v]? = some x.cps.toList[v]:=List.getElem?_eq_getElem hv'
  simp only [fIx,zcY e]
theorem zgP {p r : Nat} {h : AH} {ps : List Pc} (S : ShelfAt h p ps) (g : Good ps) (e : ∃ N : Int,h[r]? = some (.lst [.int N])) (hr : r < p \/ p + 8 < r) (x : Str) (hx : yaF x = true /\ 1 <= x.length /\ x.length <= 100) (many : Nat) (hm : many <= 8) (o0 o3 o4 o5 o6 o7 o8 o9 o10 o11 : Option AV) :
  ∃ (y : Str) (h' : AH),yaF y = true /\ y.length = many /\ sBM ybj ybD (sLit (.str "")) (yab (ya1 [2,1] (yaW (sVar 6)) sYes (sOp2 fIx (sVar 1) (yae yah (yab (sVar 2) (yab (yae fLen (yab (sVar 1) sNil)) sNil))))) sNil) [o0,some (.ref r),some (.str x),o3,o4,o5,some (.int many),o7,o8,o9,o10,o11] h = .ok (.str y) h' /\ Wk p r h h' ps ps 0:=by
 obtain ⟨zs,h',c1,⟨cs,c2,c3,W⟩,c4⟩:=yhg (js:=[2,1]) (en:=[o0,some (.ref r),some (.str x),o3,o4,o5,some (.int many),o7,o8,o9,o10,o11]) (all:=yau 0 many) (e:=sOp2 fIx (sVar 1) (yae yah (yab (sVar 2) (yab (yae fLen (yab (sVar 1) sNil)) sNil)))) (xs:=yau 0 many) (h:=h)
  (fun ys h' => ∃ cs : List Nat,ys = cs.map (fun c=>AV.str ⟨#[c]⟩) /\ (∀ c ∈ cs,ybV c = true) /\ Wk p r h h' ps ps 0) ⟨[],rfl,by simp,Wk.refl S g e⟩ (by
   rintro v hv ys h1 ⟨cs,rfl,hc,W⟩
   obtain ⟨d,h2,hd,e1,W2⟩:=zas W.sh W.gd W.row hr x.length hx.2.1 (Nat.le_trans hx.2.2 (by decide))
   obtain ⟨c,pc,ec⟩:=ziY hd hx.1 h2
   have ln : fLen [.str x] h1 = .ok (.int (x.length : Nat)) h1:=by simp
   simp [e1,ec,-fIx]
   refine ⟨cs++[c],by simp,?_,W.trans W2 (by lia)⟩
   intro c' hc'
   rcases List.mem_append.mp hc' with q | q
   ·exact hc _ q
   ·simp at q; subst q; exact pc) (by rw [zaC]; exact Nat.le_trans hm (by decide))
 have lc : cs.length = many:=by
  have:=congrArg List.length c2
  rw [c4,zaC] at this; simpa using this.symm
 refine ⟨⟨cs.toArray⟩,h',?_,?_,?_,W⟩
 ·simp only [yaF,List.all_eq_true]; intro c hc; exact c3 c (by simpa using hc)
 ·simp [Str.length,lc]
 ·have jn:=ziW (h:=h') (cs:=cs) (by lia)
  have r1:=za2 (a:=sVar 6) (en:=[o0,some (.ref r),some (.str x),o3,o4,o5,some (.int many),o7,o8,o9,o10,o11]) (h:=h) (n:=many) rfl (by lia)
  have cc : ya1 [2,1] (yaW (sVar 6)) sYes (sOp2 fIx (sVar 1) (yae yah (yab (sVar 2) (yab (yae fLen (yab (sVar 1) sNil)) sNil)))) [o0,some (.ref r),some (.str x),o3,o4,o5,some (.int many),o7,o8,o9,o10,o11] h = .ok (.fl zs) h' := by
   simp only [ya1,r1,c1]
  rw [c2] at cc
  simp only [sBM,sLit,Out.bind,yab,sNil,cc,ybj,if_true,jn]
theorem ta1 {n A B N : Nat} (h : n + 2 * B < N) (q : A <= B) : n + A < N:=by lia
theorem ta2 {n n1 A B C N : Nat} (h : n + 2 * C < N) (q : A <= C) (r : B <= C) (v : n1 <= n + (A - 1)) : n1 + B < N:=by lia
theorem ta3 {l m f : Nat} (h : 9 <= m + f) (e : l = m) : 8 < l + f:=by lia
theorem ta4 {a b : Int} {x y : Nat} (ea : a = x) (eb : b = y) (h1 : x <= y + 1) (h2 : y <= x + 1) : (a - b).natAbs <= 1:=by lia
theorem ta5 {x y A B C : Nat} (hx : x <= 8 * A) (hy : y <= 8 * B) (ha : A <= C) (hb : B <= C) : x + y <= 16 * C:=by lia
theorem ta6 {n n1 n2 A B C : Nat} (v1 : n1 <= n + (A - 1)) (v2 : n2 <= n1 + (B - 1)) (a : A <= C) (b : B <= C) (h : n + 2 * C < 15000000) : n2 < 16000000:=by lia
theorem ta7 {A B C : Nat} (a : A <= C) (b : B <= C) (a1 : 1 <= A) (b1 : 1 <= B) : A - 1 + (B - 1) + 1 <= 2 * C - 1:=by lia
theorem ta8 {a b : Int} {x y H : Nat} (ea : a = x) (eb : b = y) (hx : x <= H) (hy : y <= H) (o : x = H \/ y = H) : max a b + 1 = ((H + 1 : Nat) : Int):=by lia
theorem ta9 (H lo t : Nat) (h1 : lo <= 1) (h2 : lo = 1 -> 1 <= H) (h3 : t < 2) : ∃ ha hb : Nat,((H + 1 : Nat) : Int) - 1 - (lo : Int) * (t : Int) = (ha : Int) /\ ((H + 1 : Nat) : Int) - 1 - (lo : Int) * (1 - (t : Int)) = (hb : Int) /\ ha <= H /\ hb <= H /\ (ha = H \/ hb = H) /\ ha <= hb + 1 /\ hb <= ha + 1:=by
 match lo,t,h1,h2,h3 with
 | 0,0,_,_,_=>exact ⟨H,H,by simp,by simp,Nat.le_refl _,Nat.le_refl _,.inl rfl,Nat.le_succ _,Nat.le_succ _⟩
 | 0,1,_,_,_=>exact ⟨H,H,by simp,by simp,Nat.le_refl _,Nat.le_refl _,.inl rfl,Nat.le_succ _,Nat.le_succ _⟩
 | 1,0,_,h2,_ =>
  obtain ⟨k,rfl⟩ : ∃ k,H = k + 1:=⟨H - 1,by have:=h2 rfl; lia⟩
  exact ⟨k + 1,k,by simp,by simp,Nat.le_refl _,Nat.le_succ _,.inl rfl,Nat.le_refl _,Nat.le_succ_of_le (Nat.le_succ _)⟩
 | 1,1,_,h2,_ =>
  obtain ⟨k,rfl⟩ : ∃ k,H = k + 1:=⟨H - 1,by have:=h2 rfl; lia⟩
  exact ⟨k,k + 1,by simp,by simp,Nat.le_succ _,Nat.le_refl _,.inr rfl,Nat.le_succ_of_le (Nat.le_succ _),Nat.le_refl _⟩
theorem tp2 (H : Nat) : 2 ^ (H + 2) = 2 * 2 ^ (H + 1):=by rw [Nat.pow_succ,Nat.mul_comm]
theorem tpm {a b : Nat} (h : a <= b) : 2 ^ a <= 2 ^ b:=Nat.pow_le_pow_right (by decide) h
theorem tl1 {last v : Nat} (h8 : last <= 8) (hv : v < last) : ∃ many : Nat,(9 : Int) - (last : Int) + v = (many : Int) /\ 9 <= last + many /\ many <= 8 /\ 1 <= many:=⟨9 - last + v,by lia,by lia,by lia,by lia⟩
theorem tl2 (last : Nat) : (9 : Int) - (9 - (last : Int)) = (last : Int):=Int.sub_sub_self _ _
theorem tl3 {last : Nat} (h8 : last <= 8) (h : AH) : ydY [.int 1,.int (9 - (last : Int))] h = .ok (.int (9 - (last : Int))) h:=by
 simp
 lia
theorem zgQ {p r : Nat} {h : AH} {ps : List Pc} (G : Fn) (S : ShelfAt h p ps) (g : Good ps) (e : ∃ N : Int,h[r]? = some (.lst [.int N])) (hr : r < p \/ p + 8 < r) (x : Str) (hx : yaF x = true /\ 1 <= x.length /\ x.length <= 100) (last : Nat) (h1 : 1 <= last) (h8 : last <= 8) (hz : ps.length < 15000000) :
  ∃ (n : Nat) (y : Str) (many : Nat) (ps' : List Pc) (h' : AH),ycy G [.ref p,.ref r,.str x,.int 0,.int last] h = .ok (.tup [.int n,.str y,.int many]) h' /\ Wk p r h h' ps ps' 1 /\ Tx ps' n (lfMs y n) y (lfMs y n) (lfMs y n) /\ y.length = many /\ 9 <= last + many /\ many <= 8 /\ 1 <= many:=by
 obtain ⟨v,h2,hv,e1,W⟩:=zas S g e hr last h1 (Nat.le_trans h8 (by decide))
 obtain ⟨many,b3,m9,m8,m1⟩:=tl1 h8 hv
 have b2:=tl2 last
 have mx:=tl3 h8 h
 obtain ⟨y,h3,py,ly,jw,W2⟩:=zgP W.sh W.gd W.row hr x hx many m8 (some (.ref p)) (some (.int 0)) (some (.int last)) (some (.int (9 - (last : Int)))) none none none none none none
 have sy : ya6 y = true:=by
  simp only [ya6,py,ly,Bool.true_and,Bool.and_eq_true,decide_eq_true_eq]; exact ⟨m1,m8⟩
 obtain ⟨n,ps',h4,e4,D,tx⟩:=zbS W2.sh W2.gd sy (Nat.lt_trans hz (by decide))
 refine ⟨n,y,many,ps',h4,?_,(W.trans W2 (Nat.le_refl _)).deed D hr (Nat.le_refl _),tx,ly,m9,m8,m1⟩
 unfold ycy
 generalize hJ : sBM ybj ybD (sLit (.str "")) (yab (ya1 [2,1] (yaW (sVar 6)) sYes (sOp2 fIx (sVar 1) (yae yah (yab (sVar 2) (yab (yae fLen (yab (sVar 1) sNil)) sNil))))) sNil) = J at jw ⊢
 have ob:=W2.sh.ob
 simp [mx,b2,b3,e1,jw,ob,e4,-ydY]
theorem zgR {p r : Nat} {h : AH} {ps : List Pc} (G : Fn) (S : ShelfAt h p ps) (g : Good ps) (e : ∃ N : Int,h[r]? = some (.lst [.int N])) (hr : r < p \/ p + 8 < r) (x : Str) (H last : Nat) (hH : H <= 10) (h1 : 1 <= last) (h8 : last <= 8) (hz : ps.length + 2 ^ (H + 2) < 15000000)
  (ih : ∀ (H' last : Nat) (h : AH) (ps : List Pc),H' <= H -> ShelfAt h p ps -> Good ps -> (∃ N : Int,h[r]? = some (.lst [.int N])) -> 1 <= last -> last <= 8 -> ps.length + 2 ^ (H' + 1) < 15000000 ->
   ∃ (n : Nat) (y : Str) (many : Nat) (ps' : List Pc) (h' : AH) (m f l : Ms),G [.ref p,.ref r,.str x,.int H',.int last] h = .ok (.tup [.int n,.str y,.int many]) h' /\ Wk p r h h' ps ps' (2 ^ (H' + 1) - 1) /\ Tx ps' n m y f l /\ m.ht = H' /\ l.sg = many /\ 9 <= last + f.sg /\ y.length <= 8 * 2 ^ H' /\ 1 <= many /\ many <= 8) :
  ∃ (n : Nat) (y : Str) (many : Nat) (ps' : List Pc) (h' : AH) (m f l : Ms),ycy G [.ref p,.ref r,.str x,.int ((H + 1 : Nat) : Int),.int last] h = .ok (.tup [.int n,.str y,.int many]) h' /\ Wk p r h h' ps ps' (2 ^ (H + 2) - 1) /\ Tx ps' n m y f l /\ m.ht = ((H + 1 : Nat) : Int) /\ l.sg = many /\ 9 <= last + f.sg /\ y.length <= 8 * 2 ^ (H + 1) /\ 1 <= many /\ many <= 8:=by
 obtain ⟨v,h2,hv,e1,W1⟩:=zas S g e hr 3 (by decide) (by decide)
 obtain ⟨t,h3,ht,e2,W2⟩:=zas W1.sh W1.gd W1.row hr 2 (by decide) (by decide)
 obtain ⟨lo,hlo,e3⟩ : ∃ lo : Nat,(lo <= 1 /\ (lo = 1 -> 1 <= H)) /\ (sOp2 fMul (sOp2 fIx (sLst (yab (sLit (.int 0)) (yab (sLit (.int 0)) (yab (sLit (.int 1)) sNil)))) (yae yah (yab (sVar 1) (yab (sLit (.int 3)) sNil)))) (yae fInt (yab (sOp2 fGt (sVar 3) (sLit (.int 1))) sNil))) [some (.ref p),some (.ref r),some (.str x),some (.int ((H + 1 : Nat) : Int)),some (.int last),none,none,none,none,none,none,none] h = .ok (.int lo) h2:=by
  have e1' : yah [.ref r,.int 3] h = .ok (.int v) h2:=e1
  have : v = 0 \/ v = 1 \/ v = 2:=by lia
  by_cases q : 1 <= H
  ·have q' : (1 : Int) < (H : Int) + 1:=by lia
   rcases this with rfl | rfl | rfl
   ·exact ⟨0,by lia,by simp [e1',q']; rfl⟩
   ·exact ⟨0,by lia,by simp [e1',q']; rfl⟩
   ·exact ⟨1,by lia,by simp [e1',q']; rfl⟩
  ·have q' : ¬ (1 : Int) < (H : Int) + 1:=by lia
   rcases this with rfl | rfl | rfl
   ·exact ⟨0,by lia,by simp [e1',q']; rfl⟩
   ·exact ⟨0,by lia,by simp [e1',q']; rfl⟩
   ·exact ⟨0,by lia,by simp [e1',q']; rfl⟩
 obtain ⟨ha,hb,k1,k2,k3,k4,k5,k6,k7⟩:=ta9 H lo t hlo.1 hlo.2 ht
 have pa : 2 ^ (ha + 1) <= 2 ^ (H + 1):=tpm (Nat.succ_le_succ k3)
 have pb : 2 ^ (hb + 1) <= 2 ^ (H + 1):=tpm (Nat.succ_le_succ k4)
 have hz' : ps.length + 2 * 2 ^ (H + 1) < 15000000:=tp2 H ▸ hz
 obtain ⟨n1,y1,many1,ps1,h4,m1,f1,l1,g1,V1,x1,t1,c1,d1,s1,a1,b1⟩:=ih ha last h3 ps k3 W2.sh W2.gd W2.row h1 h8 (ta1 hz' pa)
 obtain ⟨n2,y2,many2,ps2,h5,m2,f2,l2,g2,V2,x2,t2,c2,d2,s2,a2,b2⟩:=ih hb many1 h4 ps1 k4 V1.sh V1.gd V1.row a1 b1 (ta2 hz' pa pb V1.len)
 have sy : y1.length + y2.length <= 16 * 2 ^ H:=ta5 s1 s2 (tpm k3) (tpm k4)
 have pH : 16 * 2 ^ H <= 16 * 2 ^ 10:=Nat.mul_le_mul_left 16 (tpm hH)
 obtain ⟨n,ps',h6,e6,D,tx⟩:=zdH V2.sh V2.gd (x1.pre V2.pre) x2 (ta3 d2 c1) (ta4 t1 t2 k6 k7) (by rw [x1.ky.sg,x2.ky.sg]; exact Nat.le_trans (Nat.le_trans sy pH) (by decide)) (ta6 V1.len V2.len pa pb hz')
 refine ⟨n,y1++y2,many2,ps',h6,_,_,_,?_,(((W1.trans W2 (Nat.le_refl _)).trans V1 (Nat.le_refl _)).trans V2 (Nat.le_refl _)).deed D hr (by rw [tp2 H]; simpa using ta7 pa pb Nat.one_le_two_pow Nat.one_le_two_pow),tx,ta8 t1 t2 k3 k4 k5,c2,d1,?_,a2,b2⟩
 ·unfold ycy
  generalize hJ : (sOp2 fMul (sOp2 fIx (sLst (yab (sLit (.int 0)) (yab (sLit (.int 0)) (yab (sLit (.int 1)) sNil)))) (yae yah (yab (sVar 1) (yab (sLit (.int 3)) sNil)))) (yae fInt (yab (sOp2 fGt (sVar 3) (sLit (.int 1))) sNil))) = J at e3 ⊢
  have e2' : yah [.ref r,.int 2] h2 = .ok (.int t) h3:=e2
  have z0 : ¬ ((H : Int) + 1 = 0):=by lia
  have mu1 : fMul (.int lo) (.int t) h3 = .ok (.int ((lo : Int) * t)) h3:=yef (by lia)
  have mu2 : fMul (.int lo) (.int (1 - (t : Int))) h4 = .ok (.int ((lo : Int) * (1 - (t : Int)))) h4:=yef (by lia)
  have c0 : ((H + 1 : Nat) : Int) = (H : Int) + 1:=by lia
  have i2 : fIx (.tup [.int n1,.str y1,.int many1]) (.int 2) = fun h=>.ok (.int many1) h:=by funext h; rfl
  have i0 : fIx (.tup [.int n1,.str y1,.int many1]) (.int 0) = fun h=>.ok (.int n1) h:=by funext h; rfl
  have i1 : fIx (.tup [.int n1,.str y1,.int many1]) (.int 1) = fun h=>.ok (.str y1) h:=by funext h; rfl
  have j2 : fIx (.tup [.int n2,.str y2,.int many2]) (.int 2) = fun h=>.ok (.int many2) h:=by funext h; rfl
  have j0 : fIx (.tup [.int n2,.str y2,.int many2]) (.int 0) = fun h=>.ok (.int n2) h:=by funext h; rfl
  have j1 : fIx (.tup [.int n2,.str y2,.int many2]) (.int 1) = fun h=>.ok (.str y2) h:=by funext h; rfl
  have sl : y1.length + y2.length <= sizeLine:=Nat.le_trans (Nat.le_trans sy pH) (by decide)
  have ob:=V2.sh.ob
  rw [c0] at e3 k1 k2 ⊢
  simp at k1 k2
  simp [e3,z0,e2',mu1,mu2,k1,k2,g1,g2,i0,i1,i2,j0,j1,j2,sl,e6,ob,-fMul,-fIx]
 ·rw [zb8,Nat.pow_succ]; exact Nat.le_trans sy (by rw [Nat.mul_comm (2 ^ H) 2,<- Nat.mul_assoc]; exact Nat.le_refl _)
theorem yeK {p r : Nat} (hr : r < p \/ p + 8 < r) (x : Str) (hx : yaF x = true /\ 1 <= x.length /\ x.length <= 100) : ∀ (d H last : Nat) (h : AH) (ps : List Pc),H < d -> H <= 10 -> ShelfAt h p ps -> Good ps -> (∃ N : Int,h[r]? = some (.lst [.int N])) -> 1 <= last -> last <= 8 -> ps.length + 2 ^ (H + 1) < 15000000 ->
   ∃ (n : Nat) (y : Str) (many : Nat) (ps' : List Pc) (h' : AH) (m f l : Ms),ybs d [.ref p,.ref r,.str x,.int H,.int last] h = .ok (.tup [.int n,.str y,.int many]) h' /\ Wk p r h h' ps ps' (2 ^ (H + 1) - 1) /\ Tx ps' n m y f l /\ m.ht = H /\ l.sg = many /\ 9 <= last + f.sg /\ y.length <= 8 * 2 ^ H /\ 1 <= many /\ many <= 8
 | 0,H,_,_,_,hd,_,_,_,_,_,_,_=>absurd hd (Nat.not_lt_zero _)
 | d + 1,0,last,h,ps,_,_,S,g,e,h1,h8,hz=>by
  obtain ⟨n,y,many,ps',h',q1,q2,q3,q4,q5,q6,q7⟩:=zgQ (ybs d) S g e hr x hx last h1 h8 (by lia)
  exact ⟨n,y,many,ps',h',_,_,_,q1,q2,q3,rfl,q4,by show 9 <= last + y.length; lia,by lia,q7,q6⟩
 | d + 1,H + 1,last,h,ps,hd,hH,S,g,e,h1,h8,hz=>by
  exact zgR (ybs d) S g e hr x H last (by lia) h1 h8 (by simpa using hz) fun H' last' h' ps' l S' g' e' a b z=>yeK hr x hx d H' last' h' ps' (by lia) (by lia) S' g' e' a b z
theorem zaX {h : AH} {p : Nat} {ps : List Pc} {i : Nat} (S : ShelfAt h p ps) (hi : i <= ps.length) : yaI [.ref p,.int i] h = .ok .non h:=by
 by_cases z : i = 0
 ·subst z; simp [yaI]
 ·have c:=zbA S (i:=(i : Int)) ⟨by lia,by lia⟩
  simp [yaI,z,S.ob,c]
theorem zft {h : AH} {p : Nat} {ps : List Pc} {i : Nat} {m : Ms} (S : ShelfAt h p ps) (e : (meas ps)[i]? = some m) : ybE [.ref p,.int i] h = .ok (.int m.sg) h:=by
 have hi:=(List.getElem?_eq_some_iff.mp e).1
 rw [zag] at hi
 simp [ybE,zaX S (show i <= ps.length by lia),S.ob,S.h3,zae e]
theorem zfu {h : AH} {p : Nat} {ps : List Pc} {i : Nat} {m : Ms} (S : ShelfAt h p ps) (e : (meas ps)[i]? = some m) : ybN [.ref p,.int i] h = .ok (.int m.en) h:=by
 have hi:=(List.getElem?_eq_some_iff.mp e).1
 rw [zag] at hi
 simp [ybN,zaX S (show i <= ps.length by lia),S.ob,S.h4,zae e]
theorem zes {h : AH} {p : Nat} {ps : List Pc} {i : Nat} {m : Ms} (S : ShelfAt h p ps) (e : (meas ps)[i]? = some m) : ybv [.ref p,.int i] h = .ok (.int m.lv) h:=by
 have hi:=(List.getElem?_eq_some_iff.mp e).1
 rw [zag] at hi
 simp [ybv,zaX S (show i <= ps.length by lia),S.ob,S.h5,zae e]
theorem zet {h : AH} {p : Nat} {ps : List Pc} {i : Nat} {m : Ms} (S : ShelfAt h p ps) (e : (meas ps)[i]? = some m) : ybw [.ref p,.int i] h = .ok (.int m.ht) h:=by
 have hi:=(List.getElem?_eq_some_iff.mp e).1
 rw [zag] at hi
 simp [ybw,zaX S (show i <= ps.length by lia),S.ob,S.h6,zae e]
theorem zfv {h : AH} {p : Nat} {ps : List Pc} {i : Nat} {m : Ms} (S : ShelfAt h p ps) (e : (meas ps)[i]? = some m) : ya5 [.ref p,.int i] h = .ok (.int m.fl) h:=by
 have hi:=(List.getElem?_eq_some_iff.mp e).1
 rw [zag] at hi
 simp [ya5,zaX S (show i <= ps.length by lia),S.ob,S.h7,zae e]
theorem yfB {h : AH} {p : Nat} {ps : List Pc} {i : Nat} {m : Ms} (S : ShelfAt h p ps) (e : (meas ps)[i]? = some m) : ybd [.ref p,.int i] h = .ok (.int m.ll) h:=by
 have hi:=(List.getElem?_eq_some_iff.mp e).1
 rw [zag] at hi
 simp [ybd,zaX S (show i <= ps.length by lia),S.ob,S.h8,zae e]
def lp : Nat -> Nat × Nat
 | 0=>(1,2)
 | n + 1=>((lp n).2,(lp n).1 + (lp n).2)
def ll (n : Nat) : Nat:=(lp n).1
def ls (n : Nat) : Nat:=9 * (ll n / 2) + ll n % 2
end Sk
namespace Sk
open PySem PySem.Spec L2 Sm
def TxZ (ps : List Pc) (n : Nat) (y : Str) : Prop:=(n = 0 /\ y = "") \/ ∃ m f l,Tx ps n m y f l
theorem TxZ.pre {ps ps' : List Pc} {n : Nat} {y : Str} (t : TxZ ps n y) (h : ps <+: ps') : TxZ ps' n y:=by
 rcases t with t | ⟨m,f,l,t⟩
 ·exact .inl t
 ·exact .inr ⟨m,f,l,t.pre h⟩
theorem yhm {p r : Nat} {h : AH} {ps : List Pc} (S : ShelfAt h p ps) (g : Good ps) (e : ∃ N : Int,h[r]? = some (.lst [.int N])) (hr : r < p \/ p + 8 < r) (most : Nat) (hm : most <= 8) (hz : ps.length < 14000000) :
  ∃ (n : Nat) (y : Str) (ps' : List Pc) (h' : AH),ybR [.ref p,.ref r,.int most] h = .ok (.tup [.int n,.str y]) h' /\ Wk p r h h' ps ps' (2 ^ (most + 1)) /\ TxZ ps' n y /\ y.length <= 8 * 2 ^ most:=by
 obtain ⟨x,h2,hx,el,W1⟩:=zdI S g e hr
 obtain ⟨v,h3,hv,ed,W2⟩:=zas W1.sh W1.gd W1.row hr 8 (by decide) (by decide)
 have ed' : yah [.ref r,.int 8] h2 = .ok (.int v) h3:=ed
 by_cases q : v = 7
 ·subst q
  refine ⟨0, "",ps,h3,?_,W1.trans W2 (Nat.zero_le _),.inl ⟨rfl,rfl⟩,Nat.zero_le _⟩
  simp [ybR,el,ed']
 ·obtain ⟨H,h4,hH,eh,W3⟩:=zas W2.sh W2.gd W2.row hr (most + 1) (Nat.succ_pos _) (Nat.le_trans (Nat.succ_le_succ hm) (by decide))
  have pw : 2 ^ (H + 1) <= 2 ^ (most + 1):=tpm hH
  have pw2 : 2 ^ (most + 1) <= 2 ^ 9:=tpm (Nat.succ_le_succ hm)
  have hH8 : H <= 8:=Nat.le_trans (Nat.le_of_lt_succ hH) hm
  have pw3 : 8 * 2 ^ H <= 8 * 2 ^ most:=Nat.mul_le_mul_left 8 (tpm (Nat.le_of_lt_succ hH))
  obtain ⟨n,y,many,ps',h5,m,f,l,et,V,T,q1,q2,q3,q4,q5,q6⟩:=yeK hr x hx 10 H 8 h4 ps (Nat.lt_of_le_of_lt hH8 (by decide)) (Nat.le_trans hH8 (by decide)) W3.sh W3.gd W3.row (by decide) (by decide) (Nat.lt_of_lt_of_le (Nat.add_lt_add_of_lt_of_le hz (Nat.le_trans pw pw2)) (by decide))
  refine ⟨n,y,ps',h5,?_,((W1.trans W2 (Nat.le_refl _)).trans W3 (Nat.le_refl _)).trans V (by simpa using Nat.le_trans (Nat.sub_le _ 1) pw),.inr ⟨m,f,l,T⟩,Nat.le_trans q4 pw3⟩
  have q' : ¬ (v : Int) = 7:=fun z=>q (Int.ofNat.inj z)
  have et' : ybs 10 [.ref p,.ref r,.str x,.int H,.int 8] h4 = .ok (.tup [.int n,.str y,.int many]) h5:=et
  have eh' : yah [.ref r,.int ((most : Int) + 1)] h3 = .ok (.int H) h4:=by
   have:=eh; rw [Int.natCast_succ] at this; exact this
  have i0 : fIx (.tup [.int n,.str y,.int many]) (.int 0) = fun h=>.ok (.int n) h:=by funext h; rfl
  have i1 : fIx (.tup [.int n,.str y,.int many]) (.int 1) = fun h=>.ok (.str y) h:=by funext h; rfl
  simp [ybR,el,ed',q',eh',et',i0,i1,-fIx]
def Per (x y : Str) (k : Nat) : Prop:=x.length = y.length * k /\ ∀ i,i < x.length -> x.cps.toList[i]? = y.cps.toList[i % y.length]?
theorem Per.one (y : Str) : Per y y 1:=⟨by lia,fun i hi=>by rw [Nat.mod_eq_of_lt hi]⟩
theorem Per.two {x y : Str} {k : Nat} (P : Per x y k) : Per (x++x) y (k * 2):=by
 refine ⟨by rw [zb8,P.1]; rw [<- Nat.mul_assoc,Nat.mul_two],fun i hi=>?_⟩
 rw [zaq]
 rw [zb8] at hi
 have lx : x.cps.toList.length = x.length:=(zac x).symm
 by_cases q : i < x.length
 ·rw [List.getElem?_append_left (by lia)]
  exact P.2 i q
 ·rw [List.getElem?_append_right (by lia),lx,P.2 (i - x.length) (by lia),P.1]
  congr 1
  have : i = (i - y.length * k) + y.length * k:=by have:=P.1; lia
  conv=>rhs; rw [this]
  rw [Nat.add_mul_mod_self_left]
theorem lg1 {l f : Nat} (q : 9 <= 1 + f) (h : 1 <= l) : 8 < l + f:=by lia
theorem lg2 {a c j v : Nat} (h1 : a <= c + (16 + j)) (h3 : c < 14000000) (h4 : j < v) (h5 : v < 60) : a < 16000000:=by lia
theorem yhn {p r : Nat} {h : AH} {ps : List Pc} (S : ShelfAt h p ps) (g : Good ps) (e : ∃ N : Int,h[r]? = some (.lst [.int N])) (hr : r < p \/ p + 8 < r) (hz : ps.length < 14000000) :
  ∃ (n : Nat) (y : Str) (k : Nat) (ps' : List Pc) (h' : AH) (m f l : Ms) (x : Str),ycz [.ref p,.ref r] h = .ok (.tup [.int n,.str y,.int k]) h' /\ Wk p r h h' ps ps' 100 /\ Tx ps' n m x f l /\ Per x y k /\ 1 <= y.length /\ y.length <= 64 /\ 1 <= k /\ yaF y = true /\ 8 < l.sg + f.sg:=by
 obtain ⟨w,h2,hx,el,W1⟩:=zdI S g e hr
 obtain ⟨H,h3,hH,ed,W2⟩:=zas W1.sh W1.gd W1.row hr 4 (by decide) (by decide)
 have ed' : yah [.ref r,.int 4] h2 = .ok (.int H) h3:=ed
 have pw : 2 ^ (H + 1) <= 2 ^ 4:=tpm hH
 have pw3 : 8 * 2 ^ H <= 64:=Nat.mul_le_mul_left 8 (tpm (Nat.le_of_lt_succ hH))
 obtain ⟨n,y,many,ps',h4,m,f,l,et,V,T,q1,q2,q3,q4,q5,q6⟩:=yeK hr w hx 10 H 1 h3 ps (Nat.lt_trans hH (by decide)) (Nat.le_trans (Nat.le_of_lt hH) (by decide)) W2.sh W2.gd W2.row (by decide) (by decide) (Nat.lt_of_lt_of_le (Nat.add_lt_add_of_lt_of_le hz pw) (by decide))
 obtain ⟨v,h5,hv,ev,W3⟩:=zas V.sh V.gd V.row hr 60 (by decide) (by decide)
 have v1 : ps'.length <= ps.length + 16:=Nat.le_trans V.len (Nat.add_le_add_left (Nat.le_trans (Nat.sub_le _ _) pw) _)
 have ly : 1 <= y.length:=T.ky.sg ▸ T.ky.sg1
 have W:=((W1.trans W2 (Nat.le_refl _)).trans V (Nat.le_refl _)).trans W3 (Nat.le_refl _)
 obtain ⟨e',h6,t1,t2⟩:=ych (w:=none) (all:=yau 0 v) (t:=.nm 7) (b:=ya9) (xs:=yau 0 v) (en:=[some (.ref p),some (.ref r),some (.str w),some (.int n),some (.str y),some (.int many),some (.int 1),none]) (h:=h5)
  (fun i en h' => i <= v -> ∃ (o7 : Option AV) (n k : Nat) (ps2 : List Pc) (m : Ms) (z : Str),en = [some (.ref p),some (.ref r),some (.str w),some (.int n),some (.str y),some (.int many),some (.int k),o7] /\ Wk p r h h' ps ps2 (16 + i) /\ Tx ps2 n m z f l /\ Per z y k /\ 1 <= k) (fun _=>⟨none,n,1,ps',m,y,rfl,by
   exact ⟨W.sh,W.gd,W.pre,v1,W.row,W.fr,W.hl⟩,T,Per.one y,Nat.le_refl _⟩) (fun _ _ _ _=>rfl) (by
   intro j u en h' hx' hp
   rw [zar] at hx'
   by_cases q : j < v
   ·rw [if_pos q] at hx'
    cases hx'
    obtain ⟨o7,n,k,ps2,m,z,rfl,Wj,Tj,Pj,kj⟩:=hp (Nat.le_of_lt q)
    have sz : m.sg = y.length * k:=Tj.ky.sg.trans Pj.1
    have yk : (y.length : Int) * k = ((y.length * k : Nat) : Int):=(Int.natCast_mul _ _).symm
    have y64 : ((y.length : Nat) : Int).natAbs < 2 ^ 64:=Nat.lt_of_le_of_lt (Nat.le_trans q4 pw3) (by decide)
    have ob:=Wj.sh.ob
    have mu1 : fMul (.int (y.length : Nat)) (.int (k : Int)) h' = .ok (.int ((y.length : Int) * k)) h' := yef y64
    have mu2 : fMul (.int ((y.length : Int) * k)) (.int 2) h' = .ok (.int ((y.length : Int) * k * 2)) h' := yeI (by decide)
    have mu3 : ∀ h'' : AH,fMul (.int (k : Int)) (.int 2) h'' = .ok (.int ((k : Int) * 2)) h'' := fun _=>yeI (by decide)
    by_cases q2 : y.length * k * 2 <= 1000000000000000000
    ·have q2' : (y.length : Int) * k * 2 <= 1000000000000000000:=by
      rw [yk]; exact Int.ofNat_le.mpr q2
     obtain ⟨n',ps3,h7,e7,D,T7⟩:=zdH Wj.sh Wj.gd Tj Tj (lg1 q3 Tj.ky.l1) (by rw [Int.sub_self]; decide) (by rw [sz,<- Nat.mul_two]; exact q2) (lg2 Wj.len hz q hv)
     have eB : ya9 [some (.ref p),some (.ref r),some (.str w),some (.int n),some (.str y),some (.int many),some (.int k),some (.int (0 + (j : Int)))] h' = .nx [some (.ref p),some (.ref r),some (.str w),some (.int n'),some (.str y),some (.int many),some (.int ((k * 2 : Nat) : Int)),some (.int (0 + (j : Int)))] h7:=by
      simp [ya9,mu1,mu2,mu3,q2',ob,e7,-fMul]
     show thn (ya9 [some (.ref p),some (.ref r),some (.str w),some (.int n),some (.str y),some (.int many),some (.int k),some (.int (0 + (j : Int)))] h') _
     rw [eB]
     exact fun _=>⟨_,n',k * 2,ps3,yc9 m m,z++z,rfl,Wj.deed D hr (Nat.le_refl _),T7,Pj.two,Nat.le_trans kj (Nat.le_mul_of_pos_right k (by decide))⟩
    ·have q2' : ¬ (y.length : Int) * k * 2 <= 1000000000000000000:=by
      rw [yk]; exact fun z=>q2 (Int.ofNat_le.mp z)
     have eB : ya9 [some (.ref p),some (.ref r),some (.str w),some (.int n),some (.str y),some (.int many),some (.int k),some (.int (0 + (j : Int)))] h' = .nx [some (.ref p),some (.ref r),some (.str w),some (.int n),some (.str y),some (.int many),some (.int k),some (.int (0 + (j : Int)))] h' := by
      simp [ya9,mu1,mu2,mu3,q2',ob,-fMul]
     show thn (ya9 [some (.ref p),some (.ref r),some (.str w),some (.int n),some (.str y),some (.int many),some (.int k),some (.int (0 + (j : Int)))] h') _
     rw [eB]
     exact fun _=>⟨_,n,k,ps2,m,z,rfl,⟨Wj.sh,Wj.gd,Wj.pre,Nat.le_succ_of_le Wj.len,Wj.row,Wj.fr,Wj.hl⟩,Tj,Pj,kj⟩
   ·rw [if_neg q] at hx'; cases hx')
 rw [zaC] at t2
 obtain ⟨o7,n',k,ps2,m',z,rfl,W6,T6,P6,k6⟩:=t2 (Nat.le_refl _)
 refine ⟨n',y,k,ps2,h6,m',f,l,z,?_,⟨W6.sh,W6.gd,W6.pre,Nat.le_trans W6.len (Nat.add_le_add_left (Nat.le_trans (Nat.add_le_add_left (Nat.le_of_lt hv) 16) (by decide)) _),W6.row,W6.fr,W6.hl⟩,T6,P6,ly,Nat.le_trans q4 pw3,k6,T.ky.pl,lg1 q3 T6.ky.l1⟩
 have ev' : yah [.ref r,.int 60] h4 = .ok (.int v) h5:=ev
 have et' : ybs 10 [.ref p,.ref r,.str w,.int H,.int 1] h3 = .ok (.tup [.int n,.str y,.int many]) h4:=et
 have f1:=(ybO (t:=.nm 7) (b:=ya9) (za2 (a:=yae yah (yab (sVar 1) (yab (sLit (.int 60)) sNil))) (en:=[some (.ref p),some (.ref r),some (.str w),some (.int n),some (.str y),some (.int many),some (.int 1),none]) (h:=h4) (h1:=h5) (n:=v) (by simp [ev']) (Nat.le_trans (Nat.le_of_lt hv) (by decide)))).trans t1
 simp [ycz,el,ed',et',f1,-sFor]
theorem zbd {h : AH} {p : Nat} {ps : List Pc} {n : Nat} {q : Pc} (S : ShelfAt h p ps) (n1 : 1 <= n) (e : ps[n - 1]? = some q) : yap [.ref p,.int n] h = .ok q.av h:=by
 have:=zdc S e
 rw [show ((n - 1 : Nat) : Int) + 1 = (n : Int) by lia] at this
 exact this
theorem hs1 {m a b : Int} (e : m = max a b + 1) (ha : 0 <= a) (hb : 0 <= b) : ∃ j : Nat,m.toNat = j + 1 /\ a.toNat <= j /\ b.toNat <= j /\ 0 < m:=by
 obtain ⟨x,rfl⟩:=Int.eq_ofNat_of_zero_le ha
 obtain ⟨y,rfl⟩:=Int.eq_ofNat_of_zero_le hb
 subst e
 exact ⟨max x y,by lia,Nat.le_max_left _ _,Nat.le_max_right _ _,by lia⟩
end Sk
namespace Sk
open PySem PySem.Spec L2 Sm
theorem zbq {x y : Str} (e : x.cps.toList = y.cps.toList) : x = y:=by
 cases x; cases y
 simpa using e
theorem zbT (x y z : Str) : (x++y)++z = x++(y++z):=zbq (by simp only [zaq,List.append_assoc])
structure Dn (F : AH -> Out AV) (p : Nat) (h h' : AH) (ps ps' : List Pc) (k n : Nat) : Prop where
 ev : F h = .ok (.int n) h'
 dd : Dd p h h' ps ps' k
 re : ∀ h2 ps2,ShelfAt h2 p ps2 -> Good ps2 -> ps' <+: ps2 -> F h2 = .ok (.int n) h2
theorem Dd.trans {p : Nat} {h h' h'' : AH} {ps ps' ps'' : List Pc} {k k' k2 : Nat} (a : Dd p h h' ps ps' k) (b : Dd p h' h'' ps' ps'' k') (hk : k + k' <= k2) : Dd p h h'' ps ps'' k2 :=
 ⟨b.sh,b.gd,a.pre.trans b.pre,by have:=a.len; have:=b.len; lia,fun i hi=>(b.fr i hi).trans (a.fr i hi),b.hl.trans a.hl⟩
theorem Dd.refl {p : Nat} {h : AH} {ps : List Pc} (S : ShelfAt h p ps) (g : Good ps) : Dd p h h ps ps 0:=⟨S,g,List.prefix_refl _,by lia,fun _ _=>rfl,rfl⟩
theorem Dn.val {F : AH -> Out AV} {p n : Nat} {h : AH} {ps : List Pc} (S : ShelfAt h p ps) (g : Good ps) (eq : ∀ hh pp,ShelfAt hh p pp -> Good pp -> ps <+: pp -> F hh = .ok (.int n) hh) : Dn F p h h ps ps 0 n :=
 ⟨eq h ps S g (List.prefix_refl _),Dd.refl S g,fun h3 ps3 S3 g3 p3=>eq h3 ps3 S3 g3 p3⟩
theorem yeh {ps ps' : List Pc} (h : ps <+: ps') {i : Nat} {q : Pc} (e : ps[i]? = some q) : ps'[i]? = some q:=by
 obtain ⟨r,rfl⟩:=h
 rw [List.getElem?_append_left (List.getElem?_eq_some_iff.mp e).1]; exact e
theorem ziZ {h : AH} {p : Nat} {ps : List Pc} {x : Str} (S : ShelfAt h p ps) (g : Good ps) (hx : ya6 x = true) (hz : ps.length < 16000000) :
  ∃ (n : Nat) (ps' : List Pc) (h' : AH),Dn (yat [.ref p,.str x]) p h h' ps ps' 1 n /\ Tx ps' n (lfMs x n) x (lfMs x n) (lfMs x n):=by
 obtain ⟨s1,s2,s3⟩:=zaP hx
 have hs : x.length <= sizeLine:=Nat.le_trans s2 (by decide)
 by_cases hq : Pc.leaf x ∈ ps
 ·obtain ⟨i,hi,e⟩:=List.getElem_of_mem hq
  have e' : ps[i]? = some (.leaf x):=by rw [List.getElem?_eq_getElem hi,e]
  exact ⟨i + 1,ps,h,⟨zaR S g.nodup hx hs e',⟨S,g,List.prefix_refl _,by lia,fun _ _=>rfl,rfl⟩,fun h2 ps2 S2 g2 p2=>zaR S2 g2.nodup hx hs (yeh p2 e')⟩,zaV g e'⟩
 ·have g' : Good (ps++[.leaf x]):=.snoc g hq hx
  have e' : (ps++[Pc.leaf x])[ps.length]? = some (.leaf x):=by simp
  exact ⟨ps.length + 1,_,_,⟨zbB S hx hs hq hz,⟨zaL S,g',List.prefix_append _ _,by simp,fun i hi=>zbc hi,zbi _ _ _⟩,fun h2 ps2 S2 g2 p2=>zaR S2 g2.nodup hx hs (yeh p2 e')⟩,zaV g' e'⟩
theorem zi0 {h : AH} {p : Nat} {ps : List Pc} {a b : Nat} {ma mb fa la fb lb : Ms} {x y : Str} (S : ShelfAt h p ps) (g : Good ps) (A : Tx ps a ma x fa la) (B : Tx ps b mb y fb lb) (hc : 8 < la.sg + fb.sg) (v1 : -1 <= ma.ht - mb.ht) (v2 : ma.ht - mb.ht <= 1) (hm : ma.sg + mb.sg <= 1000000000000000000) (hz : ps.length < 16000000) :
  ∃ (n : Nat) (ps' : List Pc) (h' : AH),Dn (yaC [.ref p,.int a,.int b]) p h h' ps ps' 1 n /\ Tx ps' n (yc9 ma mb) (x++y) fa lb:=by
 have F : ForkOk ps a b:=⟨A.n1,B.n1,ma,mb,la,fb,A.ms,B.ms,A.ky.ll,B.ky.fl,hc,by lia,hm⟩
 by_cases hq : Pc.fork a b ∈ ps
 ·obtain ⟨i,hi,e⟩:=List.getElem_of_mem hq
  have e' : ps[i]? = some (.fork a b):=by rw [List.getElem?_eq_getElem hi,e]
  exact ⟨i + 1,ps,h,⟨zaS S g.nodup F e',⟨S,g,List.prefix_refl _,by lia,fun _ _=>rfl,rfl⟩,fun h2 ps2 S2 g2 p2=>zaS S2 g2.nodup (F.pre p2) (yeh p2 e')⟩,zaW g e' A B⟩
 ·have g' : Good (ps++[.fork a b]):=.snoc g hq F
  have e' : (ps++[Pc.fork a b])[ps.length]? = some (.fork a b):=by simp
  have pr : ps <+: ps++[Pc.fork a b]:=List.prefix_append _ _
  exact ⟨ps.length + 1,_,_,⟨zbC S F hq hz,⟨zaL S,g',pr,by simp,fun i hi=>zbc hi,zbi _ _ _⟩,fun h2 ps2 S2 g2 p2=>zaS S2 g2.nodup (F.pre (pr.trans p2)) (yeh p2 e')⟩,zaW g' e' (A.pre pr) (B.pre pr)⟩
theorem fmS (ma mb : Ms) : (yc9 ma mb).sg = ma.sg + mb.sg:=rfl
theorem fmH (ma mb : Ms) : (yc9 ma mb).ht = max ma.ht mb.ht + 1:=rfl
theorem i1 (s : Str) (a b : Int) (h : AH) : fIx (.tup [.str s,.int a,.int b]) (.int 1) h = .ok (.int a) h:=rfl
theorem i2 (s : Str) (a b : Int) (h : AH) : fIx (.tup [.str s,.int a,.int b]) (.int 2) h = .ok (.int b) h:=rfl
def onSh (p : Nat) (F : AH -> Out AV) (h : AH) : Out AV:=match h[p]? with
 | some (.ins c' _)=>if c' = 0 then F h else .bad
 | _=>.bad
theorem zi1 {b e : Nat} {y : Str} (be : b <= e) : (cutS y (some (b : Int)) (some (e : Int))).cps.toList = (y.cps.toList.drop b).take (e - b):=by
 unfold cutS
 rw [HT.sIx_nat,HT.sIx_nat]
 generalize y.cps.toList = l
 show (l.drop (min b l.length)).take (min e l.length - min b l.length) = _
 apply List.ext_getElem?
 intro i
 rw [List.getElem?_take,List.getElem?_take,List.getElem?_drop,List.getElem?_drop]
 by_cases q : b <= l.length
 ·rw [Nat.min_eq_left q]
  by_cases c1 : i < e - b
  ·rw [if_pos c1]
   by_cases c2 : i < min e l.length - b
   ·rw [if_pos c2]
   ·rw [if_neg c2,List.getElem?_eq_none (by lia)]
  ·rw [if_neg c1,if_neg (by lia)]
 ·rw [if_neg (by lia),List.getElem?_eq_none (l:=l) (i:=b + i) (by lia)]
  split<;>rfl
def cat : List Str -> Str
 | [] => ""
 | w :: ws=>w++cat ws
theorem zdf : ∀ as bs : List Str,cat (as++bs) = cat as++cat bs
 | [],bs=>(zbq (by rw [zaq]; rfl) : cat bs = ("" : Str)++cat bs)
 | w :: as,bs=>by
  show w++cat (as++bs) = (w++cat as)++cat bs
  rw [zdf as bs,zbT]
theorem zfw (w : Str) : cat [w] = w:=zbq (by show (w++("" : Str)).cps.toList = _; rw [zaq]; simp; rfl)
def LS (ps : List Pc) (ns : List Nat) (ws : List Str) : Prop:=ns.length = ws.length /\ ∀ (i n : Nat) (w : Str),ns[i]? = some n -> ws[i]? = some w -> Tx ps n (lfMs w n) w (lfMs w n) (lfMs w n)
theorem LS.pre {ps ps' : List Pc} {ns : List Nat} {ws : List Str} (s : LS ps ns ws) (h : ps <+: ps') : LS ps' ns ws:=⟨s.1,fun i n w a b=>(s.2 i n w a b).pre h⟩
theorem LS.take {ps : List Pc} {ns : List Nat} {ws : List Str} (s : LS ps ns ws) (k : Nat) : LS ps (ns.take k) (ws.take k):=by
 refine ⟨by simp [s.1],fun i n w a b=>?_⟩
 rw [List.getElem?_take] at a b
 by_cases q : i < k
 ·rw [if_pos q] at a b; exact s.2 i n w a b
 ·rw [if_neg q] at a; cases a
theorem LS.drop {ps : List Pc} {ns : List Nat} {ws : List Str} (s : LS ps ns ws) (k : Nat) : LS ps (ns.drop k) (ws.drop k):=by
 refine ⟨by simp [s.1],fun i n w a b=>?_⟩
 rw [List.getElem?_drop] at a b
 exact s.2 _ n w a b
abbrev ivs (ns : List Nat) : List AV:=ns.map fun n : Nat=>AV.int (n : Int)
theorem hv_1 {h : AH} {p d n : Nat} : ybA (d + 1) [.ref p,.fl (ivs [n])] h = .ok (.int n) h:=by
 have ix : fIx (.fl [.int (n : Int)]) (.int 0) h = .ok (.int n) h:=rfl
 simp [ybA,yd1,ix,-fIx]
theorem zgS {α : Type} (l : List α) {k : Nat} (hk : k <= l.length) : cutA l none (some (k : Int)) = l.take k:=by
 unfold cutA
 rw [HT.sIx_nat,HT.sIx_none,Nat.min_eq_left hk]; simp
theorem zgT {α : Type} (l : List α) {k : Nat} (hk : k <= l.length) : cutA l (some (k : Int)) none = l.drop k:=by
 unfold cutA
 rw [HT.sIx_nat,HT.sIx_none,Nat.min_eq_left hk,List.take_of_length_le (by simp)]
theorem hv_2 {h h1 h2 : AH} {p d : Nat} {ps : List Pc} {ns : List Nat} {v1 v2 : Int} (S : ShelfAt h p ps) (hl : 2 <= ns.length) (e1 : ybA d [.ref p,.fl (ivs (ns.take (ns.length / 2)))] h = .ok (.int v1) h1) (e2 : ybA d [.ref p,.fl (ivs (ns.drop (ns.length / 2)))] h1 = .ok (.int v2) h2) :
  ybA (d + 1) [.ref p,.fl (ivs ns)] h = yaC [.ref p,.int v1,.int v2] h2:=by
 have hh : ns.length / 2 <= ns.length:=Nat.div_le_self _ _
 have ln : fLen [.fl (ivs ns)] h = .ok (.int ns.length) h:=by simp [fLen]
 have q : fEq (.int ns.length) (.int 1) h = .ok (.bl false) h:=by
  have : ¬ (ns.length : Int) = 1:=by lia
  simp [this]
 have dv : fDiv (.int ns.length) (.int 2) h = .ok (.int (ns.length / 2 : Nat)) h:=rfl
 have c1 : ycg (.fl (ivs ns)) none (some (ns.length / 2 : Nat)) h = .ok (.fl (ivs (ns.take (ns.length / 2)))) h:=by
  have:=zgS (ivs ns) (k:=ns.length / 2) (by simpa using hh)
  simp only [ycg,this,ivs,List.map_take]
 have c2 : ∀ h,ycg (.fl (ivs ns)) (some (ns.length / 2 : Nat)) none h = .ok (.fl (ivs (ns.drop (ns.length / 2)))) h:=fun h=>by
  have:=zgT (ivs ns) (k:=ns.length / 2) (by simpa using hh)
  simp only [ycg,this,ivs,List.map_drop]
 generalize hF : yaC [.ref p,.int v1,.int v2] h2 = R
 unfold ybA yd1
 generalize ivs ns = Z at *
 generalize ivs (ns.take (ns.length / 2)) = Z1 at *
 generalize ivs (ns.drop (ns.length / 2)) = Z2 at *
 generalize ((ns.length / 2 : Nat) : Int) = M at *
 generalize (ns.length : Int) = K at *
 simp [S.ob,ln,q,dv,c1,c2,e1,e2,hF,-fLen,-fEq,-fDiv,-ycg]
 cases R<;>rfl
theorem pw1 {a b ha hb : Nat} (ab : b <= a + 1) (h1 : a <= 2 ^ ha) (h2 : hb = 0 \/ 2 ^ (hb - 1) < b) : hb <= ha + 1:=by
 rcases h2 with h2 | h2
 ·lia
 ·have : 2 ^ (hb - 1) <= 2 ^ ha:=by lia
  have:=(Nat.pow_le_pow_iff_right (a:=2) (by decide)).mp this
  lia
theorem pw2 {a b ha hb : Nat} (ab : a <= b) (h1 : b <= 2 ^ hb) (h2 : ha = 0 \/ 2 ^ (ha - 1) < a) : ha <= hb:=by
 rcases h2 with h2 | h2
 ·lia
 ·have : 2 ^ (ha - 1) < 2 ^ hb:=by lia
  have:=(Nat.pow_lt_pow_iff_right (a:=2) (by decide)).mp this
  lia
theorem pw3 {k b hb : Nat} (h1 : k <= 2 * b) (h2 : 2 * b <= k + 1) (h3 : 2 <= k) (h4 : b <= 2 ^ hb) (h5 : hb = 0 \/ 2 ^ (hb - 1) < b) : k <= 2 ^ (hb + 1) /\ 2 ^ (hb + 1 - 1) < k:=by
 rw [Nat.pow_succ,Nat.add_sub_cancel]
 refine ⟨by lia,?_⟩
 rcases h5 with h5 | h5
 ·subst h5; simp; lia
 ·cases hb with
  | zero=>simp; lia
  | succ n =>
   rw [Nat.add_sub_cancel] at h5
   rw [Nat.pow_succ]; lia
theorem pw4 {k e : Nat} (h : k <= 2 ^ (e + 1)) : k / 2 <= 2 ^ e /\ k - k / 2 <= 2 ^ e:=by rw [Nat.pow_succ] at h; lia
theorem zcA {p : Nat} : ∀ (d e : Nat) {h : AH} {ps : List Pc} {ns : List Nat} {ws : List Str},ShelfAt h p ps -> Good ps -> LS ps ns ws -> 1 <= ns.length -> ns.length <= 2 ^ e -> e < d -> (∀ (i : Nat) (w : Str),ws[i]? = some w -> i + 1 < ws.length -> w.length = 8) -> ps.length + ns.length < 16000000 -> ns.length <= 10000 ->
  ∃ (n : Nat) (ps' : List Pc) (h' : AH) (m f l : Ms) (H : Nat),ybA d [.ref p,.fl (ivs ns)] h = .ok (.int n) h' /\ Dd p h h' ps ps' (ns.length - 1) /\ Tx ps' n m (cat ws) f l /\ m.ht = H /\ ns.length <= 2 ^ H /\ (H = 0 \/ 2 ^ (H - 1) < ns.length) /\ ((∀ w ∈ ws,w.length = 8) -> l.sg = 8) /\ m.sg <= 8 * ns.length
 | 0,e,h,ps,ns,ws,S,g,LL,h1,h2,h3,h4,h5,h6=>absurd h3 (Nat.not_lt_zero _)
 | d + 1,e,h,ps,ns,ws,S,g,LL,h1,h2,h3,h4,h5,h6=>by
  by_cases q : ns.length = 1
  ·obtain ⟨n,rfl⟩ : ∃ n,ns = [n]:=List.length_eq_one_iff.mp q
   obtain ⟨w,rfl⟩ : ∃ w,ws = [w]:=List.length_eq_one_iff.mp (LL.1.symm.trans q)
   have T:=LL.2 0 n w rfl rfl
   refine ⟨n,ps,h,_,_,_,0,hv_1,{ Dd.refl S g with len:=by lia },by rw [zfw]; exact T,rfl,by simp,.inl rfl,fun hw=>hw w (by simp),?_⟩
   have:=T.ky.f8
   simpa using this
  ·have hh : 2 <= ns.length:=by lia
   obtain ⟨e',rfl⟩ : ∃ e',e = e' + 1:=by
    cases e with
    | zero=>simp at h2; lia
    | succ e' => exact ⟨e',rfl⟩
   obtain ⟨w1,w2⟩:=pw4 h2
   have lt : (ns.take (ns.length / 2)).length = ns.length / 2:=by rw [List.length_take]; lia
   have ld : (ns.drop (ns.length / 2)).length = ns.length - ns.length / 2:=List.length_drop ..
   have lw:=LL.1
   obtain ⟨n1,ps1,hh1,m1,f1,l1,H1,a1,a2,a3,a4,a5,a6,a7,a8⟩:=zcA d e' S g (LL.take (ns.length / 2)) (by lia) (by lia) (by lia) (fun i w ew hi=>by
    rw [List.getElem?_take] at ew
    split at ew
    ·rw [List.length_take] at hi; exact h4 i w ew (by lia)
    ·cases ew) (by lia) (by lia)
   have z1:=a2.len
   obtain ⟨n2,ps2,hh2,m2,f2,l2,H2,b1,b2,b3,b4,b5,b6,b7,b8⟩:=zcA d e' a2.sh a2.gd ((LL.drop (ns.length / 2)).pre a2.pre) (by lia) (by lia) (by lia) (fun i w ew hi=>by
    rw [List.getElem?_drop] at ew
    rw [List.length_drop] at hi
    exact h4 _ w ew (by lia)) (by lia) (by lia)
   have z2:=b2.len
   rw [lt] at a5 a6 a8
   rw [ld] at b5 b6 b8
   have g1:=pw1 (a:=ns.length / 2) (b:=ns.length - ns.length / 2) (by lia) a5 b6
   have g2:=pw2 (a:=ns.length / 2) (b:=ns.length - ns.length / 2) (by lia) b5 a6
   have l8 : l1.sg = 8:=a7 fun w hw=>by
    obtain ⟨i,hi,ei⟩:=List.getElem_of_mem hw
    have hi' := hi
    rw [List.length_take] at hi'
    have : (ws.take (ns.length / 2))[i]? = some w:=by rw [List.getElem?_eq_getElem hi,ei]
    rw [List.getElem?_take] at this
    split at this
    ·exact h4 i w this (by lia)
    ·cases this
   have f1' := b3.ky.f1
   obtain ⟨n3,ps3,hh3,d3,T3⟩:=zi0 b2.sh b2.gd (a3.pre b2.pre) b3 (by lia) (by lia) (by lia) (by lia) (by lia)
   have rd : cat (ws.take (ns.length / 2))++cat (ws.drop (ns.length / 2)) = cat ws:=by rw [<- zdf,List.take_append_drop]
   rw [rd] at T3
   have hv:=hv_2 S hh a1 b1
   obtain ⟨y1,y2⟩:=pw3 (k:=ns.length) (b:=ns.length - ns.length / 2) (by lia) (by lia) hh b5 b6
   refine ⟨n3,ps3,hh3,_,f1,l2,H2 + 1,hv.trans d3.ev,(a2.trans b2 (Nat.le_refl _)).trans d3.dd (by lia),T3,by rw [fmH,a4,b4]; lia,y1,.inr y2,fun hw=>b7 fun w hm=>hw w (List.mem_of_mem_drop hm),by rw [fmS]; lia⟩
end Sk
namespace Sk
open PySem PySem.Spec L2 Sm
def ycA (x : Str) (k : Nat) : Str:=cutS x (some ((8 * k : Nat) : Int)) (some ((8 * k + 8 : Nat) : Int))
theorem zbU (x : Str) (k : Nat) : (ycA x k).cps.toList = (x.cps.toList.drop (8 * k)).take 8:=by
 unfold ycA
 rw [zi1 (by lia),show 8 * k + 8 - 8 * k = 8 by lia]
theorem zdJ (x : Str) (k : Nat) : (ycA x k).length = min 8 (x.length - 8 * k):=by
 rw [zac,zbU,List.length_take,List.length_drop,<- zac]
theorem zeM {x : Str} (px : yaF x = true) (k : Nat) : yaF (ycA x k) = true:=by
 unfold yaF at *
 rw [zbU,List.all_eq_true]
 rw [List.all_eq_true] at px
 exact fun c hc=>px c (List.mem_of_mem_drop (List.mem_of_mem_take hc))
theorem zcQ (x : Str) : ∀ j,(cat ((List.range j).map (ycA x))).cps.toList = x.cps.toList.take (8 * j)
 | 0=>rfl
 | j + 1=>by
  rw [List.range_succ,List.map_append,zdf,zaq,zcQ x j]
  show _++(cat [ycA x j]).cps.toList = _
  rw [zfw,zbU,show 8 * (j + 1) = 8 * j + 8 by lia,List.take_add]
theorem zdK {α : Type} {f : Nat -> α} {N i : Nat} {w : α} (e : ((List.range N).map f)[i]? = some w) : i < N /\ w = f i:=by
 rw [List.getElem?_map] at e
 obtain ⟨j,ej,ew⟩:=Option.map_eq_some_iff.mp e
 have h1:=(List.getElem?_eq_some_iff.mp ej).1
 rw [List.length_range] at h1
 rw [List.getElem?_range h1] at ej
 cases ej
 exact ⟨h1,ew.symm⟩
theorem LS.snoc {ps ps' : List Pc} {ns : List Nat} {ws : List Str} {n : Nat} {w : Str} (s : LS ps ns ws) (h : ps <+: ps') (T : Tx ps' n (lfMs w n) w (lfMs w n) (lfMs w n)) : LS ps' (ns++[n]) (ws++[w]):=by
 have l:=s.1
 refine ⟨by simp [s.1],fun i a b ea eb=>?_⟩
 by_cases q : i < ns.length
 ·rw [List.getElem?_append_left q] at ea
  rw [List.getElem?_append_left (by lia)] at eb
  exact (s.2 i a b ea eb).pre h
 ·have h1:=(List.getElem?_eq_some_iff.mp ea).1
  have hi : i = ns.length:=by simp at h1; lia
  subst hi
  rw [List.getElem?_append_right (by lia)] at ea eb
  simp at ea
  rw [show ns.length - ws.length = 0 by lia] at eb
  simp at eb
  subst ea eb
  exact T
theorem zeN {h : AH} {p : Nat} {ps : List Pc} {x : Str} (S : ShelfAt h p ps) (g : Good ps) (px : yaF x = true) (N : Nat) (hN : 8 * N < x.length + 8) (hx : x.length <= 10000) (hz : ps.length + N < 16000000) (all : List AV) (js : List Nat) (en : En) (hj : js.map (fun j=>(en[j]?).join) = [some (.ref p),some (.str x)]) :
  ∃ (ns : List Nat) (ps' : List Pc) (h' : AH),yaM js en none all sYes (yaj 0 yat (sVar 1) (yab (sCut (sVar 2) (some (sVar 0)) (some (sOp2 fAdd (sVar 0) (sLit (.int 8))))) sNil)) ((List.range N).map fun m : Nat=>AV.int (0 + (m : Int) * 8)) [] h = .ok (ivs ns) h' /\ Dd p h h' ps ps' N /\ LS ps' ns ((List.range N).map (ycA x)):=by
 obtain ⟨zs,h',c1,ns,ps',e1,D,LL⟩:=yhh (js:=js) (en:=en) (all:=all) (e:=yaj 0 yat (sVar 1) (yab (sCut (sVar 2) (some (sVar 0)) (some (sOp2 fAdd (sVar 0) (sLit (.int 8))))) sNil)) (xs:=(List.range N).map fun m : Nat=>AV.int (0 + (m : Int) * 8)) (h:=h)
  (fun j ys h' => ∃ (ns : List Nat) (ps' : List Pc),ys = ivs ns /\ Dd p h h' ps ps' j /\ LS ps' ns ((List.range j).map (ycA x))) ⟨[],ps,rfl,Dd.refl S g,rfl,fun i n w a _=>by simp at a⟩ (by
   rintro j v ys h' hv ⟨ns,ps',rfl,D,LL⟩
   obtain ⟨jN,rfl⟩:=zdK hv
   have z:=D.len
   have lc:=zdJ x j
   have sc : ya6 (ycA x j) = true:=by
    unfold ya6
    rw [zeM px j,lc]
    simp; lia
   obtain ⟨n,ps2,h2,d2,T⟩:=ziZ D.sh D.gd sc (by lia)
   have i1 : (0 : Int) + (j : Int) * 8 = ((8 * j : Nat) : Int):=by lia
   have i2 : ((8 * j : Nat) : Int) + 8 = ((8 * j + 8 : Nat) : Int):=by lia
   have ct : ycg (.str x) (some ((8 * j : Nat) : Int)) (some ((8 * j + 8 : Nat) : Int)) h' = .ok (.str (ycA x j)) h' := rfl
   have ev:=d2.ev
   rw [hj]
   have e : yaj 0 yat (sVar 1) (yab (sCut (sVar 2) (some (sVar 0)) (some (sOp2 fAdd (sVar 0) (sLit (.int 8))))) sNil) [some (.int (0 + (j : Int) * 8)),some (.ref p),some (.str x)] h' = .ok (.int n) h2:=by
    rw [i1]
    have ad : fAdd (.int ((8 * j : Nat) : Int)) (.int 8) h' = .ok (.int ((8 * j + 8 : Nat) : Int)) h' := by rw [<- i2]; rfl
    generalize ((8 * j : Nat) : Int) = B1 at *
    generalize ((8 * j + 8 : Nat) : Int) = B2 at *
    simp [D.sh.ob,ad,ct,ev,-fAdd,-ycg]
   rw [e]
   refine ⟨ns++[n],ps2,by simp [ivs],D.trans d2.dd (by lia),?_⟩
   rw [List.range_succ,List.map_append]
   exact LL.snoc d2.dd.pre T) (by simp; exact Nat.le_trans (show N <= 10000 by lia) (by decide))
 rw [List.length_map,List.length_range] at D LL
 exact ⟨ns,ps',h',by rw [c1,e1],D,LL⟩
theorem zi2 {h : AH} {p : Nat} {ps : List Pc} {x : Str} (S : ShelfAt h p ps) (g : Good ps) (px : yaF x = true) (hx : x.length <= 10000) (hz : ps.length + 2 * x.length < 16000000) :
  ∃ (n : Nat) (ps' : List Pc) (h' : AH),yco [.ref p,.str x] h = .ok (.int n) h' /\ Dd p h h' ps ps' (2 * x.length) /\ TxZ ps' n x:=by
 have sl : x.length <= sizeLine:=Nat.le_trans hx (by decide)
 have fp:=zfp x h sl
 rw [px] at fp
 have c1 : ¬ (10000 : Int) < x.length:=by lia
 by_cases q : x.length = 0
 ·have xe : x = "" := zbq (by rw [zac] at q; rw [List.length_eq_zero_iff.mp q]; rfl)
  subst xe
  refine ⟨0,ps,h,?_,{ Dd.refl S g with len:=by lia },.inl ⟨rfl,rfl⟩⟩
  simp [yco,fp,c1]
 ·obtain ⟨N,eN⟩ : ∃ N,N = (x.length - 1) / 8 + 1:=⟨_,rfl⟩
  obtain ⟨ns,ps1,h1,e1,D1,LL⟩:=zeN S g px N (by lia) hx (by lia) ((List.range N).map fun m : Nat=>AV.int (0 + (m : Int) * 8)) [0,1] [some (.ref p),some (.str x),none] rfl
  have z1:=D1.len
  have ln : ns.length = N:=by rw [LL.1]; simp
  obtain ⟨n,ps2,h2,m,f,l,H,b1,b2,b3,_⟩:=zcA (p:=p) 20 11 D1.sh D1.gd LL (by lia) (by rw [ln]; have : (2 : Nat) ^ 11 = 2048:=rfl; lia) (by decide) (fun i w ew hi=>by
   obtain ⟨iN,rfl⟩:=zdK ew
   rw [List.length_map,List.length_range] at hi
   rw [zdJ]; lia) (by lia) (by lia)
  have rd : cat ((List.range N).map (ycA x)) = x:=zbq (by rw [zcQ,List.take_of_length_le (by rw [<- zac]; lia)])
  rw [rd] at b3
  have ir : yb8 (sLit (.int 0)) (yae fLen (yab (sVar 1) sNil)) (sLit (.int 8)) [some (.ref p),some (.str x),none] h = .ok ((List.range N).map (fun m : Nat=>AV.int (0 + (m : Int) * 8)),none) h:=by
   have r1 : ((if (0 : Int) < x.length then ((x.length : Int) - 0 - 1) / 8 + 1 else 0 : Int)).toNat = N:=by
    rw [if_pos (by lia)]; lia
   have r2 : (0 : Int).natAbs < 2 ^ 40 /\ (x.length : Int).natAbs < 2 ^ 40 /\ (0 : Int) < 8 /\ (8 : Int) < 2 ^ 20:=⟨by decide,by lia,by decide,by decide⟩
   show (if _ then _ else _) = _
   rw [if_pos r2,r1]
  have cp : ya1 [0,1] (yb8 (sLit (.int 0)) (yae fLen (yab (sVar 1) sNil)) (sLit (.int 8))) sYes (yaj 0 yat (sVar 1) (yab (sCut (sVar 2) (some (sVar 0)) (some (sOp2 fAdd (sVar 0) (sLit (.int 8))))) sNil)) [some (.ref p),some (.str x),none] h = .ok (.fl (ivs ns)) h1:=by
   simp only [ya1,ir,e1]
  have ne : fEq (.str x) (.str "") h = .ok (.bl false) h:=by
   have : ¬ x = Str.ofString "" := fun z=>q (by rw [z]; rfl)
   simp [this]
  refine ⟨n,ps2,h2,?_,D1.trans b2 (by lia),.inr ⟨_,_,_,b3⟩⟩
  unfold yco
  generalize ya1 [0,1] (yb8 (sLit (.int 0)) (yae fLen (yab (sVar 1) sNil)) (sLit (.int 8))) sYes (yaj 0 yat (sVar 1) (yab (sCut (sVar 2) (some (sVar 0)) (some (sOp2 fAdd (sVar 0) (sLit (.int 8))))) sNil)) = CP at *
  generalize ybA 20 = HV at *
  simp [fp,c1,ne,cp,b1,-fEq]
end Sk
namespace Sk
open PySem PySem.Spec L2 Sm
theorem zdL (c : Nat) (z : Str) : ∀ parts : List Str,(∀ p ∈ parts,c ∉ p.cps.toList) -> (Str.join ⟨#[c]⟩ parts).cps.toList.flatMap (fun d=>if d = c then z.cps.toList else [d]) = (Str.join z parts).cps.toList
 | [],_=>rfl
 | [p],h=>by
  show p.cps.toList.flatMap _ = p.cps.toList
  have : ∀ l : List Nat,c ∉ l -> l.flatMap (fun d=>if d = c then z.cps.toList else [d]) = l:=by
   intro l; induction l with
   | nil=>intro _; rfl
   | cons a l ih =>
    intro q
    rw [List.flatMap_cons,ih fun m=>q (List.mem_cons_of_mem _ m),if_neg (show ¬ a = c from fun e=>q (e ▸ List.mem_cons_self ..))]; rfl
  exact this _ (h p (List.mem_singleton.mpr rfl))
 | p :: q :: r,h=>by
  have ih:=zdL c z (q :: r) fun a ha=>h a (List.mem_cons_of_mem _ ha)
  have : ∀ l : List Nat,c ∉ l -> l.flatMap (fun d=>if d = c then z.cps.toList else [d]) = l:=by
   intro l; induction l with
   | nil=>intro _; rfl
   | cons a l ih =>
    intro q
    rw [List.flatMap_cons,ih fun m=>q (List.mem_cons_of_mem _ m),if_neg (show ¬ a = c from fun e=>q (e ▸ List.mem_cons_self ..))]; rfl
  show (p++⟨#[c]⟩++Str.join ⟨#[c]⟩ (q :: r)).cps.toList.flatMap _ = (p++z++Str.join z (q :: r)).cps.toList
  simp only [Str.cps_append,Array.toList_append,List.flatMap_append]
  rw [ih,this _ (h p (List.mem_cons_self ..))]
  simp
theorem zdM (x z : Str) (c : Nat) : (Txt.replace x ⟨#[c]⟩ z).cps.toList = x.cps.toList.flatMap fun d=>if d = c then z.cps.toList else [d]:=by
 rw [StrLaws.replace_one,<- zdL c z _ (StrLaws.split_free x c),StrLaws.join_split]
theorem yei : (Str.ofString "\\") = ⟨#[92]⟩:=by decide +kernel
theorem yfC : (Str.ofString "\\\\") = ⟨#[92,92]⟩:=by decide +kernel
theorem yfD : (Str.ofString "\\n") = ⟨#[92,110]⟩:=by decide +kernel
def esc1 (c : Nat) : List Nat:=if c = 92 then [92,92] else if c = 10 then [92,110] else [c]
def escS (x : Str) : Str:=⟨(x.cps.toList.flatMap esc1).toArray⟩
theorem ydv {x y : Str} (h : x.cps.toList = y.cps.toList) : x = y:=by
 cases x; cases y; simp only at h; rw [Array.toList_inj.mp h]
theorem zb9 (f : Nat -> List Nat) (k : Nat) (hf : ∀ c,(f c).length <= k) : ∀ l : List Nat,(l.flatMap f).length <= l.length * k
 | []=>by simp
 | c :: l=>by
  rw [List.flatMap_cons,List.length_append,List.length_cons,Nat.add_mul,Nat.one_mul]
  have:=hf c; have:=zb9 f k hf l; lia
theorem zdg (x : Str) : (escS x).length <= x.length * 2:=by
 show (x.cps.toList.flatMap esc1).toArray.size <= _
 rw [List.size_toArray,zac]
 exact zb9 esc1 2 (fun c=>by unfold esc1; split<;>(try split)<;>simp) _
theorem ydQ {x : Str} (h : ∀ c ∈ x.cps.toList,c < 200) : x.cps.all (· < 0x110000) = true:=by
 rw [<- Array.all_toList,List.all_eq_true]
 exact fun c hc=>decide_eq_true (Nat.lt_trans (h c hc) (by decide))
theorem zcB {x : Str} (h : yaF x = true) : ∀ c ∈ x.cps.toList,c < 200:=fun c hc=>by
 have:=List.all_eq_true.mp h c hc
 simp only [ybV,Bool.or_eq_true,Bool.and_eq_true,decide_eq_true_eq] at this
 lia
theorem yfE {x : Str} (h : ∀ c ∈ x.cps.toList,c < 200) : ∀ c ∈ (escS x).cps.toList,c < 200:=fun c hc=>by
 have hc' : c ∈ x.cps.toList.flatMap esc1:=by simpa [escS] using hc
 obtain ⟨d,hd,hc2⟩:=List.mem_flatMap.mp hc'
 have:=h d hd
 unfold esc1 at hc2
 split at hc2
 ·simp at hc2; lia
 ·split at hc2
  ·simp at hc2; lia
  ·simp at hc2; lia
theorem zgU {x : Str} (hx : yaF x = true) (hl : x.length <= 8) (h : AH) : ycO [.str x] h = .ok (.str (escS x)) h:=by
 obtain ⟨y,ey⟩ : ∃ y,y = Txt.replace x ⟨#[92]⟩ ⟨#[92,92]⟩:=⟨_,rfl⟩
 have ly:=zdM x ⟨#[92,92]⟩ 92
 rw [<- ey] at ly
 obtain ⟨z,ez⟩ : ∃ z,z = Txt.replace y ⟨#[10]⟩ ⟨#[92,110]⟩:=⟨_,rfl⟩
 have lz:=zdM y ⟨#[92,110]⟩ 10
 rw [<- ez,ly] at lz
 have zz : z = escS x:=ydv (by
  rw [lz]
  show _ = (x.cps.toList.flatMap esc1).toArray.toList
  rw [List.toList_toArray,List.flatMap_assoc]
  refine congrArg (fun f=>x.cps.toList.flatMap f) (funext fun c=>?_)
  unfold esc1
  by_cases h1 : c = 92
  ·subst h1; rfl
  ·by_cases h2 : c = 10
   ·subst h2; rfl
   ·simp [h1,h2])
 have y1 : y.length <= 16:=by
  rw [zac,ly]
  refine Nat.le_trans (zb9 _ 2 (fun c=>by split<;>simp) _) ?_
  rw [<- zac]; lia
 have y2 : ∀ c ∈ y.cps.toList,c < 200:=fun c hc=>by
  rw [ly] at hc
  obtain ⟨d,hd,hc2⟩:=List.mem_flatMap.mp hc
  have:=zcB hx d hd
  split at hc2<;>simp at hc2<;>lia
 have z1 : z.length <= 16:=by rw [zz]; have:=zdg x; lia
 have z2 : ∀ c ∈ z.cps.toList,c < 200:=by rw [zz]; exact yfE (zcB hx)
 have r1 : ycH "\\" "\\\\" (sVar 0) [some (.str x)] h = .ok (.str y) h:=by
  show (if ((Str.ofString "\\") == (Str.ofString "\\\\")) = false /\ x.length <= 1048576 /\ (Str.ofString "\\\\").length <= 14 /\ (Txt.replace x (Str.ofString "\\") (Str.ofString "\\\\")).length <= sizeLine /\ (Txt.replace x (Str.ofString "\\") (Str.ofString "\\\\")).cps.all (· < 0x110000) = true then Out.ok (AV.str (Txt.replace x (Str.ofString "\\") (Str.ofString "\\\\"))) h else .bad) = _
  rw [yei,yfC,<- ey,if_pos ⟨by decide,by lia,by decide,Nat.le_trans y1 (by decide),ydQ y2⟩]
 have r2 : ycH "\n" "\\n" (ycH "\\" "\\\\" (sVar 0)) [some (.str x)] h = .ok (.str z) h:=by
  generalize ycH "\\" "\\\\" (sVar 0) = I1 at r1 ⊢
  unfold ycH
  rw [r1]
  show (if ((Str.ofString "\n") == (Str.ofString "\\n")) = false /\ y.length <= 1048576 /\ (Str.ofString "\\n").length <= 14 /\ (Txt.replace y (Str.ofString "\n") (Str.ofString "\\n")).length <= sizeLine /\ (Txt.replace y (Str.ofString "\n") (Str.ofString "\\n")).cps.all (· < 0x110000) = true then Out.ok (AV.str (Txt.replace y (Str.ofString "\n") (Str.ofString "\\n"))) h else .bad) = _
  rw [ycP,yfD,<- ez,if_pos ⟨by decide,by lia,by decide,Nat.le_trans z1 (by decide),ydQ z2⟩]
 unfold ycO
 generalize ycH "\n" "\\n" (ycH "\\" "\\\\" (sVar 0)) = R at r2 ⊢
 rw [<- zz]
 simp [r2]
def dc86 : AO:=.dct false [(.str "\n",.str "\\n"),(.str "\\",.str "\\\\")]
theorem yik (c : Nat) (o0 o1 : Option AV) (h : AH) : sGet (yc7 "\n" "\\n" "\\" "\\\\") (sVar 2) (sVar 2) [o0,o1,some (.str ⟨#[c]⟩)] h = .ok (.str ⟨(esc1 c).toArray⟩) (h++[dc86]):=by
 have d1 : ∀ en,yc7 "\n" "\\n" "\\" "\\\\" en h = .ok (.ref h.length) (h++[dc86]):=fun en=>by
  unfold yc7
  rw [if_pos (by decide +kernel)]; rfl
 have g2 : (h++[dc86])[h.length]? = some (.dct false [(.str "\n",.str "\\n"),(.str "\\",.str "\\\\")]):=by simp [dc86]
 unfold sGet
 rw [d1]
 simp only [Out.bind,g2]
 show fGet h.length (.str ⟨#[c]⟩) (.str ⟨#[c]⟩) (h++[dc86]) = _
 unfold fGet
 rw [g2]
 dsimp only
 rw [if_pos (show ybX false (AV.str ⟨#[c]⟩) = true from rfl),ycP,yfD,yei,yfC]
 unfold esc1
 by_cases h1 : c = 92
 ·subst h1
  have n0 : ¬ ((⟨#[10]⟩ : Str) = ⟨#[92]⟩):=by decide
  simp [valA,n0]
 ·by_cases h2 : c = 10
  ·subst h2; simp [valA]
  ·have n1 : ¬ ((⟨#[10]⟩ : Str) = ⟨#[c]⟩):=fun e=>h2 (by injection e with e; injection e with e; injection e with e; exact e.symm)
   have n2 : ¬ ((⟨#[92]⟩ : Str) = ⟨#[c]⟩):=fun e=>h1 (by injection e with e; injection e with e; injection e with e; exact e.symm)
   simp [valA,n1,n2,h1,h2]
theorem zcR {x : Str} (hl : x.length <= 8) (h : AH) : ∃ r : AH,ybp [.str x] h = .ok (.str (escS x)) (h++r):=by
 obtain ⟨e',H',r1,f,r,o,q1,rfl,rfl⟩:=ych (w:=none) (all:=x.cps.toList.map fun c=>AV.str ⟨#[c]⟩) (t:=.nm 2) (b:=yba) (xs:=x.cps.toList.map fun c=>AV.str ⟨#[c]⟩) (en:=[some (.str x),some (.str ""),none]) (h:=h)
  (fun i en h' => ∃ (f : Str) (r : AH) (o : Option AV),f.cps.toList = (x.cps.toList.take i).flatMap esc1 /\ h' = h++r /\ en = [some (.str x),some (.str f),o])
  ⟨"",[],none,by simp; rfl,by simp,rfl⟩ (fun _ _ _ _=>rfl) (by
   rintro j y en h' hx ⟨f,r,o,q1,rfl,rfl⟩
   rw [List.getElem?_map] at hx
   obtain ⟨c,hc,rfl⟩:=Option.map_eq_some_iff.mp hx
   have hj:=(List.getElem?_eq_some_iff.mp hc).1
   have g:=yik c (some (.str x)) (some (.str f)) (h++r)
   have lf : f.length <= 16:=by
    rw [zac,q1]
    refine Nat.le_trans (zb9 esc1 2 (fun c=>by unfold esc1; split<;>(try split)<;>simp) _) ?_
    have : (x.cps.toList.take j).length <= x.cps.toList.length:=by simp; lia
    rw [<- zac] at this; lia
   have le : (⟨(esc1 c).toArray⟩ : Str).length <= 2:=by
    show (esc1 c).toArray.size <= 2
    unfold esc1; split<;>(try split)<;>simp
   have sl : f.length + (⟨(esc1 c).toArray⟩ : Str).length <= sizeLine:=Nat.le_trans (m:=20) (by lia) (by decide)
   have fa : fAdd (.str f) (.str ⟨(esc1 c).toArray⟩) (h++r++[dc86]) = .ok (.str (f++⟨(esc1 c).toArray⟩)) (h++r++[dc86]):=by simp only [fAdd,sl,if_true]
   have e : yba [some (.str x),some (.str f),some (.str ⟨#[c]⟩)] (h++r) = .nx [some (.str x),some (.str (f++⟨(esc1 c).toArray⟩)),some (.str ⟨#[c]⟩)] (h++r++[dc86]):=by
    unfold yba
    generalize sGet (yc7 "\n" "\\n" "\\" "\\\\") (sVar 2) (sVar 2) = G at g ⊢
    generalize h++r = HA at *
    generalize HA++[dc86] = HB at *
    simp [g,fa,-fAdd]
   show thn (yba [some (.str x),some (.str f),some (.str ⟨#[c]⟩)] (h++r)) _
   rw [e]
   refine ⟨_,r++[dc86],_,?_,by rw [List.append_assoc],rfl⟩
   rw [Str.cps_append,Array.toList_append,q1,List.take_succ,hc,List.flatMap_append]
   simp)
 have ef : f = escS x:=ydv (by
  rw [q1,List.length_map,List.take_length]; simp [escS])
 have f1:=(ybO (t:=.nm 2) (b:=yba) (it:=iVal (sVar 0)) (en:=[some (.str x),some (.str ""),none]) (h:=h) (h1:=h) (xs:=x.cps.toList.map fun c=>AV.str ⟨#[c]⟩) (w:=none) rfl).trans r1
 refine ⟨r,?_⟩
 rw [<- ef]
 generalize hF : sFor (iVal (sVar 0)) (.nm 2) yba = F1 at f1
 unfold ybp
 rw [hF]
 simp [f1]
end Sk
namespace Sk
open PySem PySem.Spec L2 Sm
def strI (a : Nat) : Str:=Str.ofString (toString (a : Int))
theorem ycB (a : Nat) (ha : a < 10 ^ 31) : (∀ c ∈ (strI a).cps.toList,c < 200) /\ (strI a).length <= 40 /\ ∀ h,ybk [.int a] h = .ok (.str (strI a)) h:=by
 unfold strI
 obtain ⟨i,hi0⟩ : ∃ i : Int,i = (a : Int):=⟨_,rfl⟩
 rw [<- hi0]
 have hi : i.natAbs < 10 ^ 31:=by lia
 have cs : ∀ c ∈ (Str.ofString (toString i)).cps.toList,c < 200:=by
  intro c hc
  have : ∃ ch ∈ (toString i).toList,ch.toNat = c:=by
   rw [Str.ofString_eq_toList] at hc
   simpa using hc
  obtain ⟨ch,h1,h2⟩:=this
  rcases PyProof.Rows.int_sign i ch h1 with q | q
  ·have:=PyProof.Rows.digit_range q; lia
  ·subst q; have : ('-' : Char).toNat = 45:=rfl; lia
 have ln : (Str.ofString (toString i)).length <= 40:=by
  have nl : ∀ n : Nat,n < 10 ^ 31 -> (Nat.toDigits 10 n).length <= 31:=fun n hn=>PySem.toDigits_len_pow (by decide) (by decide) hn
  have e : (Str.ofString (toString i)).length = (toString i).toList.length:=by
   rw [Str.ofString_eq_toList]; simp [Str.length]
  rw [e,Int.toString_eq_repr,Int.repr_eq_if]
  split
  ·rw [Nat.toList_repr]; have:=nl i.toNat (by lia); lia
  ·rw [String.toList_append,List.length_append,Nat.toList_repr]
   have:=nl (-i).toNat (by lia)
   have : ("-" : String).toList.length = 1:=rfl
   lia
 have lg : i.natAbs.log2 < 1920:=by
  by_cases z : i.natAbs = 0
  ·rw [z]; decide
  ·exact (Nat.log2_lt z).mpr (Nat.lt_of_lt_of_le hi (Nat.le_trans (show 10 ^ 31 <= 2 ^ 103 by decide) (Nat.pow_le_pow_right (by decide) (by decide))))
 refine ⟨cs,ln,fun h=>?_⟩
 show (if i.natAbs.log2 < 1920 /\ (Str.ofString (toString i)).length <= sizeLine /\ (Str.ofString (toString i)).cps.all (· < 0x110000) = true then Out.ok (AV.str (Str.ofString (toString i))) h else .bad) = _
 rw [if_pos ⟨lg,Nat.le_trans ln (by decide),ydQ cs⟩]
def rowS : Pc -> Str
 | .leaf x=>(Str.ofString "leaf ")++escS x
 | .fork a b=>(((Str.ofString "fork ")++strI a)++(Str.ofString " "))++strI b
theorem zav (x y : Str) : (x++y).length = x.length + y.length:=by simp [Str.length,Str.cps_append]
theorem yej {x y : Str} (hx : ∀ c ∈ x.cps.toList,c < 200) (hy : ∀ c ∈ y.cps.toList,c < 200) : ∀ c ∈ (x++y).cps.toList,c < 200:=fun c hc=>by
 rw [Str.cps_append,Array.toList_append] at hc
 exact (List.mem_append.mp hc).elim (hx c) (hy c)
def ydE : Pc -> Prop
 | .leaf x=>yaF x = true /\ x.length <= 8
 | .fork a b=>a < 10 ^ 31 /\ b < 10 ^ 31
theorem yda : ∀ {q : Pc},ydE q -> (rowS q).length <= 100 /\ ∀ c ∈ (rowS q).cps.toList,c < 200
 | .leaf x,⟨h1,h2⟩=>by
  have l5 : (Str.ofString "leaf ").length = 5:=by decide +kernel
  have c5 : ∀ c ∈ (Str.ofString "leaf ").cps.toList,c < 200:=by decide +kernel
  have:=zdg x
  exact ⟨by show ((Str.ofString "leaf ")++escS x).length <= 100; rw [zav]; lia,yej c5 (yfE (zcB h1))⟩
 | .fork a b,⟨h1,h2⟩=>by
  have l5 : (Str.ofString "fork ").length = 5:=by decide +kernel
  have l1 : (Str.ofString " ").length = 1:=by decide +kernel
  have c5 : ∀ c ∈ (Str.ofString "fork ").cps.toList,c < 200:=by decide +kernel
  have c1 : ∀ c ∈ (Str.ofString " ").cps.toList,c < 200:=by decide +kernel
  obtain ⟨a1,a2,_⟩:=ycB a h1
  obtain ⟨b1,b2,_⟩:=ycB b h2
  exact ⟨by show ((((Str.ofString "fork ")++strI a)++(Str.ofString " "))++strI b).length <= 100; rw [zav,zav,zav]; lia,yej (yej (yej c5 a1) c1) b1⟩
theorem yew (x : Str) (h : AH) : yam (sOp2 fEq (sOp2 fIx (sVar 0) (sLit (.int 0))) (sLit (.str "leaf"))) [some (Pc.av (.leaf x))] h = .ok true h:=by
 simp [Pc.av,atI,ixN,toD,PyData.eqv]
theorem yex (a b : Nat) (h : AH) : yam (sOp2 fEq (sOp2 fIx (sVar 0) (sLit (.int 0))) (sLit (.str "leaf"))) [some (Pc.av (.fork a b))] h = .ok false h:=by
 have n : ¬ ((Str.ofString "fork") = (Str.ofString "leaf")):=by decide +kernel
 simp [Pc.av,atI,ixN,toD,PyData.eqv,n]
theorem zcC {a b : Nat} (ha : a < 10 ^ 31) (hb : b < 10 ^ 31) (h : AH) : fAdd (.str (Str.ofString "fork ")) (.str (strI a)) h = .ok (.str ((Str.ofString "fork ")++strI a)) h /\ fAdd (.str ((Str.ofString "fork ")++strI a)) (.str (Str.ofString " ")) h = .ok (.str (((Str.ofString "fork ")++strI a)++(Str.ofString " "))) h /\
  fAdd (.str (((Str.ofString "fork ")++strI a)++(Str.ofString " "))) (.str (strI b)) h = .ok (.str (rowS (.fork a b))) h:=by
 have l5 : (Str.ofString "fork ").length = 5:=by decide +kernel
 have l1 : (Str.ofString " ").length = 1:=by decide +kernel
 obtain ⟨_,a2,_⟩:=ycB a ha
 obtain ⟨_,b2,_⟩:=ycB b hb
 have s1 : (Str.ofString "fork ").length + (strI a).length <= sizeLine:=Nat.le_trans (m:=100) (by lia) (by decide)
 have s2 : ((Str.ofString "fork ")++strI a).length + (Str.ofString " ").length <= sizeLine:=Nat.le_trans (m:=100) (by rw [zav]; lia) (by decide)
 have s3 : (((Str.ofString "fork ")++strI a)++(Str.ofString " ")).length + (strI b).length <= sizeLine:=Nat.le_trans (m:=100) (by rw [zav,zav]; lia) (by decide)
 exact ⟨by simp only [fAdd,s1,if_true],by simp only [fAdd,s2,if_true],by simp only [fAdd,s3,if_true]; rfl⟩
theorem zcD {x : Str} (hl : x.length <= 8) (h : AH) : fAdd (.str (Str.ofString "leaf ")) (.str (escS x)) h = .ok (.str (rowS (.leaf x))) h:=by
 have l5 : (Str.ofString "leaf ").length = 5:=by decide +kernel
 have:=zdg x
 have s1 : (Str.ofString "leaf ").length + (escS x).length <= sizeLine:=Nat.le_trans (m:=100) (by lia) (by decide)
 simp only [fAdd,s1,if_true]; rfl
theorem yho : ∀ {q : Pc},ydE q -> ∀ h : AH,ybl [q.av] h = .ok (.str (rowS q)) h
 | .leaf x,⟨h1,h2⟩,h=>by
  have e1:=yew x h
  have e2:=zgU h1 h2 h
  have e3:=zcD h2 h
  have ix : fIx (Pc.av (.leaf x)) (.int 1) h = .ok (.str x) h:=rfl
  unfold ybl
  generalize yam (sOp2 fEq (sOp2 fIx (sVar 0) (sLit (.int 0))) (sLit (.str "leaf"))) = T1 at e1 ⊢
  generalize ycO = G at e2 ⊢
  generalize Pc.av (.leaf x) = Z at *
  simp [e1,e2,e3,ix,-fIx,-fAdd]
 | .fork a b,⟨h1,h2⟩,h=>by
  have e1:=yex a b h
  obtain ⟨_,_,a3⟩:=ycB a h1
  obtain ⟨_,_,b3⟩:=ycB b h2
  obtain ⟨f1,f2,f3⟩:=zcC h1 h2 h
  have i1 : fIx (Pc.av (.fork a b)) (.int 1) h = .ok (.int a) h:=rfl
  have i2 : fIx (Pc.av (.fork a b)) (.int 2) h = .ok (.int b) h:=rfl
  unfold ybl
  generalize yam (sOp2 fEq (sOp2 fIx (sVar 0) (sLit (.int 0))) (sLit (.str "leaf"))) = T1 at e1 ⊢
  generalize ybk = G at *
  generalize Pc.av (.fork a b) = Z at *
  simp [e1,a3,b3,f1,f2,f3,i1,i2,-fIx,-fAdd]
theorem fold_len (k : Nat) : ∀ (l : List Str) (n : Nat),l.foldl (fun a p=>a + p.length + k) n = n + (l.map (·.length)).sum + l.length * k
 | [],n=>by simp
 | p :: l,n=>by
  rw [List.foldl_cons,fold_len k l]
  simp only [List.map_cons,List.sum_cons,List.length_cons,Nat.add_mul,Nat.one_mul]
  lia
theorem yeL : ∀ l : List Str,(∀ x ∈ l,x.length <= 100) -> (l.map (·.length)).sum <= l.length * 100
 | [],_=>by simp
 | p :: l,h=>by
  have:=h p (List.mem_cons_self ..)
  have:=yeL l fun x hx=>h x (List.mem_cons_of_mem _ hx)
  simp only [List.map_cons,List.sum_cons,List.length_cons]
  lia
theorem zeu {z : Str} (hz : ∀ c ∈ z.cps.toList,c < 200) (zs : List Str) (h : ∀ x ∈ zs,∀ c ∈ x.cps.toList,c < 200) : ∀ c ∈ (Builtin.Str.glued z zs).cps.toList,c < 200:=by
 have go : ∀ (l : List Str) (acc : Array Nat),(∀ c ∈ acc.toList,c < 200) -> (∀ x ∈ l,∀ c ∈ x.cps.toList,c < 200) -> ∀ c ∈ (l.foldl (fun acc p=>acc++z.cps++p.cps) acc).toList,c < 200:=by
  intro l
  induction l with
  | nil=>intro acc ha _; exact ha
  | cons p l ih =>
   intro acc ha hl
   rw [List.foldl_cons]
   refine ih _ (fun c hc=>?_) fun x hx=>hl x (List.mem_cons_of_mem _ hx)
   simp only [Array.toList_append,List.mem_append] at hc
   rcases hc with (hc | hc) | hc
   ·exact ha c hc
   ·exact hz c hc
   ·exact hl p (List.mem_cons_self ..) c hc
 unfold Builtin.Str.glued
 refine go _ _ ?_ fun x hx=>h x (List.mem_of_mem_drop hx)
 cases zs with
 | nil=>intro c hc; cases hc
 | cons p l=>exact h p (List.mem_cons_self ..)
theorem yeM (zs : List Str) (hn : zs.length <= 30000) (h : ∀ x ∈ zs,x.length <= 100 /\ ∀ c ∈ x.cps.toList,c < 200) (u : AV) (hh : AH) (hu : ybi u hh = some (zs.map AV.str)) : yc6 (.str "\n") [u] hh = .ok (.str (Builtin.Str.glued (Str.ofString "\n") zs)) hh:=by
 have ln : Str.length (Str.ofString "\n") = 1:=by decide +kernel
 have sm:=yeL zs fun x hx=>(h x hx).1
 have sz:=size_glued (Str.ofString "\n") zs
 rw [ln,Nat.mul_one] at sz
 have ss : ycM (zs.map AV.str) = some zs:=by
  clear sz sm hu hn h
  induction zs with
  | nil=>rfl
  | cons x l ih=>simp [ih]
 have ok : JoinOk (Str.ofString "\n") zs = true:=by
  unfold JoinOk
  rw [Bool.not_eq_true',List.foldl_toArray,ln,fold_len]
  unfold Builtin.Str.tooLong
  exact decide_eq_false (Nat.not_lt.mpr (Nat.le_trans (m:=4000000) (by lia) (by decide)))
 have al:=ydQ (zeu (z:=Str.ofString "\n") (by decide +kernel) zs fun x hx=>(h x hx).2)
 unfold yc6
 simp only [hu,ss]
 exact if_pos ⟨ok,Nat.le_trans (m:=4000000) (by lia) (by decide),al⟩
end Sk
namespace Sk
open PySem PySem.Spec L2 Sm
theorem zaM {ps : List Pc} (g : Good ps) (hz : ps.length <= 30000) {i : Nat} {q : Pc} (e : ps[i]? = some q) : ydE q:=by
 have hi:=(List.getElem?_eq_some_iff.mp e).1
 have ok:=g.get e
 cases q with
 | leaf x =>
  obtain ⟨s1,s2,s3⟩:=zaP (show ya6 x = true from ok)
  have px : yaF x = true:=by
   have : ya6 x = true:=ok
   simp only [ya6,Bool.and_eq_true] at this; exact this.1
  exact ⟨px,s2⟩
 | fork a b =>
  obtain ⟨_,_,ma,mb,_,_,e1,e2,_⟩:=(show ForkOk (ps.take i) a b from ok)
  have l1:=(List.getElem?_eq_some_iff.mp e1).1
  have l2:=(List.getElem?_eq_some_iff.mp e2).1
  rw [zag,List.length_take] at l1 l2
  have : (30002 : Nat) < 10 ^ 31:=by decide
  exact ⟨by lia,by lia⟩
theorem zbr {h : AH} {p : Nat} {ps : List Pc} (S : ShelfAt h p ps) (g : Good ps) (hz : ps.length <= 30000) : yaN [.ref p] h = .ok (.str (Builtin.Str.glued (Str.ofString "\n") (ps.map rowS))) h:=by
 have r2 : yaX (sLit (.int 1)) (sOp2 fAdd (yaj 0 yai (sVar 0) sNil) (sLit (.int 1))) [some (.ref p)] h = .ok (yau 1 ps.length,none) h:=by
  refine za3 (i:=1) (j:=(ps.length : Int) + 1) (h1:=h) rfl ?_ (by lia) (by decide) (by lia)
  have:=ybC S
  generalize yai = G at this ⊢
  simp [this,S.ob]
 have rg : yau 1 ps.length = (List.range ps.length).map fun j : Nat=>AV.int ((j : Int) + 1):=by
  apply List.ext_getElem?
  intro i
  by_cases hi : i < ps.length
  ·rw [zar,if_pos hi,List.getElem?_map,List.getElem?_range hi]; simp; lia
  ·rw [zar,if_neg hi,List.getElem?_map,List.getElem?_eq_none (by simp; lia)]; rfl
 have cm : yaM [0] [some (.ref p)] none (yau 1 ps.length) sYes (yae ybl (yab (yaj 0 yap (sVar 1) (yab (sVar 0) sNil)) sNil)) (yau 1 ps.length) [] h = .ok ((ps.map rowS).map AV.str) h:=by
  have e:=zcu (js:=[0]) (en:=[some (.ref p)]) (w:=none) (all:=yau 1 ps.length) (e:=yae ybl (yab (yaj 0 yap (sVar 1) (yab (sVar 0) sNil)) sNil)) (g:=fun j : Nat=>AV.int ((j : Int) + 1)) (f:=fun j : Nat=>AV.str (rowS (ps.getD j (.leaf "")))) (h:=h) rfl (List.range ps.length) [] (by
   intro j hj
   have hj' : j < ps.length:=List.mem_range.mp hj
   have ej : ps[j]? = some (ps.getD j (.leaf "")):=by rw [List.getD_eq_getElem?_getD,List.getElem?_eq_getElem hj']; rfl
   have e1:=zdc S ej
   have e2:=yho (zaM g hz ej) h
   generalize yap = G1 at *
   generalize ybl = G2 at *
   generalize (ps.getD j (.leaf "")) = Q at *
   generalize Q.av = A at *
   simp [e1,e2,S.ob]) (by rw [List.length_range]; exact Nat.le_trans (m:=30000) (by simpa using hz) (by decide))
  rw [List.nil_append,<- rg] at e
  rw [e]
  congr 1
  apply List.ext_getElem?
  intro i
  by_cases hi : i < ps.length
  ·rw [List.getElem?_map,List.getElem?_map,List.getElem?_map,List.getElem?_range hi]; simp [hi]
  ·rw [List.getElem?_eq_none (by simp; lia),List.getElem?_eq_none (by simp; lia)]
 have jn:=yeM (ps.map rowS) (by simpa using hz) (fun x hx=>by
  obtain ⟨q,hq,rfl⟩:=List.mem_map.mp hx
  obtain ⟨i,hi⟩:=List.getElem?_of_mem hq
  exact yda (zaM g hz hi)) (.fl ((ps.map rowS).map AV.str)) h rfl
 unfold yaN
 generalize yae ybl (yab (yaj 0 yap (sVar 1) (yab (sVar 0) sNil)) sNil) = EL at cm ⊢
 generalize yaX (sLit (.int 1)) (sOp2 fAdd (yaj 0 yai (sVar 0) sNil) (sLit (.int 1))) = IT at r2 ⊢
 generalize Builtin.Str.glued (Str.ofString "\n") (ps.map rowS) = GL at jn ⊢
 generalize (ps.map rowS).map AV.str = RS at *
 simp [r2,cm,jn]
theorem yhp {h : AH} {p L : Nat} {ps : List Pc} {q : Pc} {j : Nat} (rws : List AV) (S : ShelfAt h p ps) (e : ps[j]? = some q) (ok : ydE q) (eL : h[L]? = some (.lst rws)) (hr : rws.length <= 30000) (o3 : Option AV) :
  ∃ (r : AH) (o3' : Option AV),yaS [some (.ref p),some (.ref L),some (.int ((j : Int) + 1)),o3] h = .nx [some (.ref p),some (.ref L),some (.int ((j : Int) + 1)),o3'] ((h++r).set L (.lst (rws++[.str (rowS q)]))):=by
 have e1:=zdc S e
 have lL : L < h.length:=(List.getElem?_eq_some_iff.mp eL).1
 have ap : ∀ (hh : AH),hh[L]? = some (.lst rws) -> yaD (.ref L) [.str (rowS q)] hh = .ok .non (hh.set L (.lst (rws++[.str (rowS q)]))):=fun hh ee=>by
  have : rws.length < sizeLine:=Nat.lt_of_le_of_lt hr (by decide)
  simp [ee,this]
 cases q with
 | leaf x =>
  obtain ⟨h1,h2⟩:=ok
  obtain ⟨r,ew⟩:=zcR h2 h
  have e3:=zcD h2 (h++r)
  have eL2 : (h++r)[L]? = some (.lst rws):=by rw [List.getElem?_append_left lL]; exact eL
  have a1:=ap _ eL2
  have ix : fIx (Pc.av (.leaf x)) (.int 1) h = .ok (.str x) h:=rfl
  have e0 : yam (sOp2 fEq (sOp2 fIx (sVar 3) (sLit (.int 0))) (sLit (.str "leaf"))) [some (.ref p),some (.ref L),some (.int ((j : Int) + 1)),some (Pc.av (.leaf x))] h = .ok true h:=yew x h
  refine ⟨r,some (Pc.av (.leaf x)),?_⟩
  unfold yaS
  generalize yam (sOp2 fEq (sOp2 fIx (sVar 3) (sLit (.int 0))) (sLit (.str "leaf"))) = T1 at e0 ⊢
  generalize ybp = G at ew ⊢
  generalize yap = G2 at e1 ⊢
  generalize Pc.av (.leaf x) = Z at *
  generalize rowS (.leaf x) = R at *
  generalize (h++r).set L (.lst (rws++[.str R])) = HZ at *
  simp [e0,e1,ew,e3,ix,a1,S.ob,eL,eL2,-fIx,-fAdd,-yaD]
 | fork a b =>
  obtain ⟨h1,h2⟩:=ok
  obtain ⟨_,_,a3⟩:=ycB a h1
  obtain ⟨_,_,b3⟩:=ycB b h2
  obtain ⟨f1,f2,f3⟩:=zcC h1 h2 h
  have i1 : fIx (Pc.av (.fork a b)) (.int 1) h = .ok (.int a) h:=rfl
  have i2 : fIx (Pc.av (.fork a b)) (.int 2) h = .ok (.int b) h:=rfl
  have a1:=ap _ eL
  have e0 : yam (sOp2 fEq (sOp2 fIx (sVar 3) (sLit (.int 0))) (sLit (.str "leaf"))) [some (.ref p),some (.ref L),some (.int ((j : Int) + 1)),some (Pc.av (.fork a b))] h = .ok false h:=yex a b h
  refine ⟨[],some (Pc.av (.fork a b)),?_⟩
  rw [List.append_nil]
  unfold yaS
  generalize yam (sOp2 fEq (sOp2 fIx (sVar 3) (sLit (.int 0))) (sLit (.str "leaf"))) = T1 at e0 ⊢
  generalize ybk = G at *
  generalize yap = G2 at e1 ⊢
  generalize Pc.av (.fork a b) = Z at *
  generalize rowS (.fork a b) = R at *
  generalize h.set L (.lst (rws++[.str R])) = HZ at *
  simp [e0,e1,a3,b3,f1,f2,f3,i1,i2,a1,S.ob,eL,-fIx,-fAdd,-yaD]
end Sk
namespace Sk
open PySem PySem.Spec L2 Sm
theorem yfF (h r : AH) (x : AO) : (h++r).set h.length x = h++r.set 0 x:=by
 rw [List.set_append_right _ _ (Nat.le_refl _),Nat.sub_self]
theorem zfx {h : AH} {p : Nat} {ps : List Pc} (S : ShelfAt h p ps) (g : Good ps) (hz : ps.length <= 30000) : ∃ r : AH,yaZ [.ref p] h = .ok (.str (Builtin.Str.glued (Str.ofString "\n") (ps.map rowS))) (h++r):=by
 obtain ⟨H1,eH1⟩ : ∃ H1 : AH,H1 = h++[.lst []]:=⟨_,rfl⟩
 have S1 : ShelfAt H1 p ps:=eH1 ▸ S.app _
 obtain ⟨e',H',r1,r,o2,o3,rfl,q2,rfl⟩:=ych (w:=none) (all:=yau 1 ps.length) (t:=.nm 2) (b:=yaS) (xs:=yau 1 ps.length) (en:=[some (.ref p),some (.ref h.length),none,none]) (h:=H1)
  (fun i en h' => ∃ (r : AH) (o2 o3 : Option AV),h' = h++r /\ (h++r)[h.length]? = some (.lst ((ps.take i).map fun q=>.str (rowS q))) /\ en = [some (.ref p),some (.ref h.length),o2,o3])
  ⟨[.lst []],none,none,eH1,by simp,rfl⟩ (fun _ _ _ _=>rfl) (by
   rintro j y en h' hx ⟨r,o2,o3,rfl,q2,rfl⟩
   rw [zar] at hx
   split at hx
   ·rename_i hj
    cases hx
    have ej : ps[j]? = some ps[j]:=List.getElem?_eq_getElem hj
    obtain ⟨r2,o3',e⟩:=yhp ((ps.take j).map fun q=>.str (rowS q)) (S.app r) ej (zaM g hz ej) q2 (by rw [List.length_map,List.length_take]; lia) o3
    rw [show (1 + (j : Int)) = (j : Int) + 1 by lia]
    show thn (yaS [some (.ref p),some (.ref h.length),some (.int ((j : Int) + 1)),o3] (h++r)) _
    rw [e]
    rw [List.append_assoc,yfF]
    refine ⟨_,_,_,rfl,?_,rfl⟩
    rw [<- yfF,List.getElem?_set_self (by
     have:=(List.getElem?_eq_some_iff.mp q2).1
     simp only [List.length_append] at this ⊢; lia),List.take_succ,ej,List.map_append]
    rfl
   ·cases hx)
 rw [zaC,List.take_length] at q2
 have r2 : yaX (sLit (.int 1)) (sOp2 fAdd (yaj 0 yai (sVar 0) sNil) (sLit (.int 1))) [some (.ref p),some (.ref h.length),none,none] H1 = .ok (yau 1 ps.length,none) H1:=by
  refine za3 (i:=1) (j:=(ps.length : Int) + 1) (h1:=H1) rfl ?_ (by lia) (by decide) (by lia)
  have:=ybC S1
  generalize yai = G at this ⊢
  simp [this,S1.ob]
 have f1:=(ybO (t:=.nm 2) (b:=yaS) r2).trans r1
 have jn:=yeM (ps.map rowS) (by simpa using hz) (fun x hx=>by
  obtain ⟨q,hq,rfl⟩:=List.mem_map.mp hx
  obtain ⟨i,hi⟩:=List.getElem?_of_mem hq
  exact yda (zaM g hz hi)) (.ref h.length) (h++r) (by simp [ybi,q2])
 refine ⟨r,?_⟩
 generalize hF : sFor (yaX (sLit (.int 1)) (sOp2 fAdd (yaj 0 yai (sVar 0) sNil) (sLit (.int 1)))) (.nm 2) yaS = F1 at f1
 unfold yaZ
 rw [hF]
 generalize Builtin.Str.glued (Str.ofString "\n") (ps.map rowS) = GL at jn ⊢
 clear hF r1 r2 q2 S1
 subst eH1
 generalize h++r = HR at *
 simp [f1,jn]
theorem ye6 (x : Str) (h : AH) : fNe (.str x) (.str x) h = .ok (.bl false) h /\ fEq (.str x) (.str x) h = .ok (.bl true) h:=⟨by simp [toD,PyData.eqv],by simp [toD,PyData.eqv]⟩
end Sk
namespace Sk
open PySem PySem.Spec L2 Sm
theorem yfG {c : Nat} : ∀ {p p' r r' : List Nat},c ∉ p -> c ∉ p' -> p++c :: r = p' ++ c :: r' -> p = p' /\ r = r'
 | [],[],r,r',_,_,e=>by simp at e; exact ⟨rfl,e⟩
 | [],a :: p',r,r',_,h,e=>by simp at e; exact absurd (by rw [e.1]; exact List.mem_cons_self ..) h
 | a :: p,[],r,r',h,_,e=>by simp at e; exact absurd (by rw [e.1]; exact List.mem_cons_self ..) h
 | a :: p,b :: p',r,r',h,h',e=>by
  simp only [List.cons_append,List.cons.injEq] at e
  obtain ⟨ea,e⟩:=e
  obtain ⟨e1,e2⟩:=yfG (fun z=>h (List.mem_cons_of_mem _ z)) (fun z=>h' (List.mem_cons_of_mem _ z)) e
  exact ⟨by rw [ea,e1],e2⟩
theorem ydF (c : Nat) (p q : Str) (r : List Str) : (Str.join ⟨#[c]⟩ (p :: q :: r)).cps.toList = p.cps.toList++c :: (Str.join ⟨#[c]⟩ (q :: r)).cps.toList:=by
 show (p++⟨#[c]⟩++Str.join ⟨#[c]⟩ (q :: r)).cps.toList = _
 simp only [Str.cps_append,Array.toList_append]
 simp
theorem zev (c : Nat) : ∀ (A B : List Str),A ≠ [] -> B ≠ [] -> (∀ p ∈ A,c ∉ p.cps.toList) -> (∀ p ∈ B,c ∉ p.cps.toList) -> (Str.join ⟨#[c]⟩ A).cps.toList = (Str.join ⟨#[c]⟩ B).cps.toList -> A = B
 | [],_,h,_,_,_,_=>absurd rfl h
 | _,[],_,h,_,_,_=>absurd rfl h
 | [p],[q],_,_,_,_,e=>by rw [ydv (show p.cps.toList = q.cps.toList from e)]
 | [p],q :: q2 :: r,_,_,h,_,e=>by
  rw [ydF] at e
  exact absurd (show c ∈ p.cps.toList by rw [show p.cps.toList = _ from e]; simp) (h p (List.mem_cons_self ..))
 | p :: p2 :: r,[q],_,_,_,h,e=>by
  rw [ydF] at e
  exact absurd (show c ∈ q.cps.toList by rw [show q.cps.toList = _ from e.symm]; simp) (h q (List.mem_cons_self ..))
 | p :: p2 :: r,q :: q2 :: s,_,_,h,h',e=>by
  rw [ydF,ydF] at e
  obtain ⟨e1,e2⟩:=yfG (h p (List.mem_cons_self ..)) (h' q (List.mem_cons_self ..)) e
  rw [ydv e1,zev c (p2 :: r) (q2 :: s) (by simp) (by simp) (fun x hx=>h x (List.mem_cons_of_mem _ hx)) (fun x hx=>h' x (List.mem_cons_of_mem _ hx)) e2]
theorem zhP (x y : Str) : Txt.split x y ≠ []:=by
 unfold Txt.split
 split
 ·simp
 ·split
  ·simp
  ·rw [StrLaws.partsBetween_eq]
   obtain ⟨p,r,e⟩:=StrLaws.partsFrom_ne x y.length 0 (Builtin.Str.occurrences x y 0 x.length (x.length + 1))
   rw [e]; simp
theorem zcS (c : Nat) (A : List Str) (hA : A ≠ []) (hf : ∀ p ∈ A,c ∉ p.cps.toList) : Txt.split (Str.join ⟨#[c]⟩ A) ⟨#[c]⟩ = A :=
 zev c _ _ (zhP _ _) hA (StrLaws.split_free _ c) hf (by rw [StrLaws.join_split])
theorem yfH (x : Str) (w : Nat) : ∀ (cuts : List Nat) (a : Nat),(StrLaws.partsFrom x w a cuts).length = cuts.length + 1
 | [],a=>rfl
 | c :: r,a=>by
  show (StrLaws.partsFrom x w (c + w) r).length + 1 = _
  rw [yfH x w r]; rfl
theorem zew (c : Nat) {p : Str} : ∀ {A : List Str},p ∈ A -> ∃ u v,(Str.join ⟨#[c]⟩ A).cps.toList = u++p.cps.toList++v
 | [],h=>nomatch h
 | [q],h=>by
  rw [List.mem_singleton.mp h]
  exact ⟨[],[],by simp [Str.join]⟩
 | q :: q2 :: r,h=>by
  rw [ydF]
  rcases List.mem_cons.mp h with e | h
  ·rw [e]; exact ⟨[],c :: (Str.join ⟨#[c]⟩ (q2 :: r)).cps.toList,by simp⟩
  ·obtain ⟨u,v,e⟩:=zew c h
   rw [e]
   exact ⟨q.cps.toList++c :: u,v,by simp⟩
theorem zcE (z : Str) (c : Nat) (hl : z.length <= 5000000) (hp : ∀ d ∈ z.cps.toList,d < 200) (h : AH) : ycw (.str z) [.str ⟨#[c]⟩] h = .ok (.fl ((Txt.split z ⟨#[c]⟩).map AV.str)) h:=by
 have hc : z.cps.toList.count c <= z.cps.toList.length:=List.count_le_length
 rw [<- zac] at hc
 unfold ycw
 simp only []
 refine if_pos ⟨rfl,Nat.le_trans hl (by decide),?_,fun p hp' => ?_⟩
 ·rw [StrLaws.partsBetween_eq,yfH,zdG]
  exact Nat.le_trans (Nat.succ_le_succ (Nat.le_trans hc hl)) (by decide)
 ·obtain ⟨u,v,e⟩:=zew c hp'
  rw [StrLaws.join_split] at e
  refine ⟨Nat.le_trans (m:=5000000) ?_ (by decide),ydQ fun d hd=>hp d (by rw [e]; simp [hd])⟩
  have:=congrArg List.length e
  rw [<- zac] at this
  simp only [List.length_append] at this
  rw [zac]; lia
end Sk
namespace Sk
open PySem PySem.Spec L2 Sm
def fnd1 (c : Nat) : List Str:=if c = 92 then ["", "\\"] else if c = 10 then ["", "\n"] else [⟨#[c]⟩]
theorem zfy : ∀ l : List Nat,(((l.flatMap fnd1).map fun x : Str=>x.cps.toList).flatten) = l
 | []=>rfl
 | c :: l=>by
  rw [List.flatMap_cons,List.map_append,List.flatten_append,zfy l]
  have : ((fnd1 c).map fun x : Str=>x.cps.toList).flatten = [c]:=by
   unfold fnd1
   by_cases h1 : c = 92
   ·subst h1; decide +kernel
   ·by_cases h2 : c = 10
    ·subst h2; decide +kernel
    ·rw [if_neg h1,if_neg h2]; rfl
  rw [this]; rfl
theorem ap87 {h : AH} {L : Nat} {zs : List AV} (e : h[L]? = some (.lst zs)) (hz : zs.length <= 100000) (v : AV) : yaD (.ref L) [v] h = .ok .non (h.set L (.lst (zs++[v]))):=by
 have : zs.length < sizeLine:=Nat.lt_of_le_of_lt hz (by decide)
 simp [e,this]
theorem il87 {h : AH} {L : Nat} {zs : List AV} (e : h[L]? = some (.lst zs)) : ya2 (.ref L) h = true:=by simp [ya2,ybi,e]
theorem rp_1 {h : AH} {L c : Nat} {zs : List AV} (e : h[L]? = some (.lst zs)) (hz : zs.length <= 100000) (pc : ybV c = true) (n1 : c ≠ 92) (n2 : c ≠ 10) (o0 o4 : Option AV) : yaJ [o0,some (.ref L),some (.bl false),some (.str ⟨#[c]⟩),o4] h = .nx [o0,some (.ref L),some (.bl false),some (.str ⟨#[c]⟩),some (.str ⟨#[c]⟩)] (h.set L (.lst (zs++[.str ⟨#[c]⟩]))):=by
 have fs:=yfw c h
 rw [pc] at fs
 have a1:=ap87 e hz (.str ⟨#[c]⟩)
 have q1 : fEq (.str ⟨#[c]⟩) (.str "\\") h = .ok (.bl false) h:=by simp [yei,n1]
 have q2 : fNe (.str ⟨#[c]⟩) (.str "\n") h = .ok (.bl true) h:=by simp [ycP,n2]
 have il:=il87 e
 unfold yaJ
 generalize ya8 = G at *
 simp [fs,a1,q1,q2,il,-fEq,-fNe,-yaD,-ya2]
theorem rp_2 {h : AH} {L : Nat} {zs : List AV} (e : h[L]? = some (.lst zs)) (hz : zs.length <= 100000) (o0 o4 : Option AV) : yaJ [o0,some (.ref L),some (.bl false),some (.str ⟨#[92]⟩),o4] h = .nx [o0,some (.ref L),some (.bl true),some (.str ⟨#[92]⟩),some (.str "")] (h.set L (.lst (zs++[.str ""]))):=by
 have a1:=ap87 e hz (.str "")
 have q1 : fEq (.str ⟨#[92]⟩) (.str "\\") h = .ok (.bl true) h:=by simp [yei]
 have il:=il87 e
 unfold yaJ
 simp [a1,q1,il,-fEq,-fNe,-yaD,-ya2]
theorem rp_3 {h : AH} {L c : Nat} {y : Str} {zs : List AV} (e : h[L]? = some (.lst zs)) (hz : zs.length <= 100000) (hc : getG D_MARKED ⟨#[c]⟩ = some y) (o0 o4 : Option AV) : yaJ [o0,some (.ref L),some (.bl true),some (.str ⟨#[c]⟩),o4] h = .nx [o0,some (.ref L),some (.bl false),some (.str ⟨#[c]⟩),some (.str y)] (h.set L (.lst (zs++[.str y]))):=by
 have a1:=ap87 e hz (.str y)
 have il:=il87 e
 unfold yaJ
 simp [ye2,hc,a1,il,-fEq,-fNe,-yaD,-ya2]
theorem yek {all : List AV} {b : SS} {x : AV} {xs : List AV} {en e1 e2 : En} {h h2 : AH} (s : setT (.nm 3) x en = some e1) (e : b e1 h = .nx e2 h2) : ya4 none all (.nm 3) b (x :: xs) en h = ya4 none all (.nm 3) b xs e2 h2:=by
 rw [ya4]
 show (if ybF none all h = true then _ else _) = _
 rw [if_pos (show ybF none all h = true from rfl),s]
 simp only [e]
theorem yey (all : List AV) (L : Nat) (o0 : Option AV) : ∀ (l : List Nat) (zs : List AV) (o3 o4 : Option AV) (h : AH),(∀ c ∈ l,ybV c = true) -> h[L]? = some (.lst zs) -> zs.length + 2 * l.length <= 100000 ->
  ∃ o3' o4',ya4 none all (.nm 3) yaJ ((l.flatMap esc1).map fun c=>AV.str ⟨#[c]⟩) [o0,some (.ref L),some (.bl false),o3,o4] h = .nx [o0,some (.ref L),some (.bl false),o3',o4'] (h.set L (.lst (zs++(l.flatMap fnd1).map AV.str)))
 | [],zs,o3,o4,h,_,e,_=>⟨o3,o4,by
  have : h.set L (.lst zs) = h:=by
   apply List.ext_getElem?
   intro i
   by_cases q : L = i
   ·subst q; rw [List.getElem?_set_self (ybm e),e]
   ·rw [List.getElem?_set_ne q]
  simp [ya4,ybF,this]⟩
 | c :: l,zs,o3,o4,h,hp,e,hz=>by
  rw [List.length_cons] at hz
  have lL:=ybm e
  rw [List.flatMap_cons,List.flatMap_cons,List.map_append,List.map_append]
  have hp' : ∀ d ∈ l,ybV d = true:=fun d hd=>hp d (List.mem_cons_of_mem _ hd)
  by_cases h1 : c = 92
  ·subst h1
   have e1 : esc1 92 = [92,92]:=rfl
   have f1 : fnd1 92 = ([("" : Str),("\\" : Str)] : List Str):=rfl
   rw [e1,f1]
   have es : (h.set L (.lst (zs++[.str ""])))[L]? = some (.lst (zs++[.str ""])):=List.getElem?_set_self lL
   obtain ⟨o3',o4',q⟩:=yey all L o0 l (zs++[.str "",.str "\\"]) (some (.str ⟨#[92]⟩)) (some (.str "\\")) (h.set L (.lst (zs++[.str "",.str "\\"]))) hp' (List.getElem?_set_self lL) (by simp; lia)
   refine ⟨o3',o4',?_⟩
   show ya4 none all (.nm 3) yaJ (AV.str ⟨#[92]⟩ :: AV.str ⟨#[92]⟩ :: (l.flatMap esc1).map fun c=>AV.str ⟨#[c]⟩) _ h = _
   rw [yek rfl (rp_2 e (by lia) o0 o4),yek rfl (rp_3 es (by simp; lia) (show getG D_MARKED ⟨#[92]⟩ = some "\\" by decide +kernel) o0 (some (.str "")))]
   rw [List.set_set,List.append_assoc]
   refine q.trans ?_
   rw [List.set_set,List.append_assoc]
   rfl
  ·by_cases h2 : c = 10
   ·subst h2
    have e1 : esc1 10 = [92,110]:=rfl
    have f1 : fnd1 10 = ([("" : Str),("\n" : Str)] : List Str):=rfl
    rw [e1,f1]
    have es : (h.set L (.lst (zs++[.str ""])))[L]? = some (.lst (zs++[.str ""])):=List.getElem?_set_self lL
    obtain ⟨o3',o4',q⟩:=yey all L o0 l (zs++[.str "",.str "\n"]) (some (.str ⟨#[110]⟩)) (some (.str "\n")) (h.set L (.lst (zs++[.str "",.str "\n"]))) hp' (List.getElem?_set_self lL) (by simp; lia)
    refine ⟨o3',o4',?_⟩
    show ya4 none all (.nm 3) yaJ (AV.str ⟨#[92]⟩ :: AV.str ⟨#[110]⟩ :: (l.flatMap esc1).map fun c=>AV.str ⟨#[c]⟩) _ h = _
    rw [yek rfl (rp_2 e (by lia) o0 o4),yek rfl (rp_3 es (by simp; lia) (show getG D_MARKED ⟨#[110]⟩ = some "\n" by decide +kernel) o0 (some (.str "")))]
    rw [List.set_set,List.append_assoc]
    refine q.trans ?_
    rw [List.set_set,List.append_assoc]
    rfl
   ·have e1 : esc1 c = [c]:=by unfold esc1; rw [if_neg h1,if_neg h2]
    have f1 : fnd1 c = [⟨#[c]⟩]:=by unfold fnd1; rw [if_neg h1,if_neg h2]
    rw [e1,f1]
    obtain ⟨o3',o4',q⟩:=yey all L o0 l (zs++[.str ⟨#[c]⟩]) (some (.str ⟨#[c]⟩)) (some (.str ⟨#[c]⟩)) (h.set L (.lst (zs++[.str ⟨#[c]⟩]))) hp' (List.getElem?_set_self lL) (by simp; lia)
    refine ⟨o3',o4',?_⟩
    show ya4 none all (.nm 3) yaJ (AV.str ⟨#[c]⟩ :: (l.flatMap esc1).map fun c=>AV.str ⟨#[c]⟩) _ h = _
    rw [yek rfl (rp_1 e (by lia) (hp c (List.mem_cons_self ..)) h1 h2 o0 o4)]
    refine q.trans ?_
    rw [List.set_set,List.append_assoc]
    rfl
theorem yeN : ∀ l : List Str,ycM (l.map AV.str) = some l
 | []=>rfl
 | x :: l=>by simp [yeN l]
theorem zhQ {x : Str} (px : yaF x = true) (hl : x.length <= 8) (h : AH) : ∃ o : AO,ybM [.str (escS x)] h = .ok (.str x) (h++[o]):=by
 obtain ⟨all,eall⟩ : ∃ all,all = (x.cps.toList.flatMap esc1).map fun c=>AV.str ⟨#[c]⟩:=⟨_,rfl⟩
 obtain ⟨o3,o4,q⟩:=yey all h.length (some (.str (escS x))) x.cps.toList [] none none (h++[.lst []]) (fun c hc=>List.all_eq_true.mp px c hc) (by simp) (by rw [<- zac,List.length_nil]; lia)
 rw [<- eall] at q
 have it : iVal (sVar 0) [some (.str (escS x)),some (.ref h.length),some (.bl false),none,none] (h++[.lst []]) = .ok (all,none) (h++[.lst []]):=by rw [eall]; simp [escS]
 have f1:=(ybO (t:=.nm 3) (b:=yaJ) it).trans q
 have hs : (h++[AO.lst []]).set h.length (.lst ([]++(x.cps.toList.flatMap fnd1).map AV.str)) = h++[.lst ((x.cps.toList.flatMap fnd1).map AV.str)]:=by
  rw [List.set_append_right _ _ (Nat.le_refl _),Nat.sub_self]; rfl
 rw [hs] at f1
 have jn : ybD (.str "") [.ref h.length] (h++[.lst ((x.cps.toList.flatMap fnd1).map AV.str)]) = .ok (.str x) (h++[.lst ((x.cps.toList.flatMap fnd1).map AV.str)]):=by
  have lo : ybi (.ref h.length) (h++[.lst ((x.cps.toList.flatMap fnd1).map AV.str)]) = some ((x.cps.toList.flatMap fnd1).map AV.str):=by simp [ybi]
  have z : (Str.ofString "") = Str.empty:=by decide +kernel
  simp only [ybD,z,if_true,lo,yeN,zfy]
  rw [if_pos (by rw [<- zac]; lia)]
 refine ⟨.lst ((x.cps.toList.flatMap fnd1).map AV.str),?_⟩
 generalize hF : sFor (iVal (sVar 0)) (.nm 3) yaJ = F1 at f1
 unfold ybM
 rw [hF]
 generalize h++[.lst ((x.cps.toList.flatMap fnd1).map AV.str)] = HR at *
 simp [f1,jn,-ybD]
end Sk
namespace Sk
open PySem PySem.Spec L2 Sm
theorem lead : ∀ m : Nat,1 <= m -> ∀ c r,Nat.toDigits 10 m = c :: r -> c ≠ '0' := by
 intro m
 induction m using Nat.strongRecOn with
 | _ m ih =>
  intro h1 c r e
  by_cases h : m < 10
  ·rw [Nat.toDigits_of_lt_base h] at e
   injection e with e _
   have : m = 1 \/ m = 2 \/ m = 3 \/ m = 4 \/ m = 5 \/ m = 6 \/ m = 7 \/ m = 8 \/ m = 9:=by lia
   rcases this with rfl | rfl | rfl | rfl | rfl | rfl | rfl | rfl | rfl<;>(rw [<- e]; decide)
  ·have t : Nat.toDigits 10 (m / 10)++Nat.toDigits 10 (m % 10) = Nat.toDigits 10 (10 * (m / 10) + m % 10):=Nat.toDigits_append_toDigits (by decide) (by lia) (Nat.mod_lt m (by decide))
   rw [Nat.div_add_mod] at t
   rw [<- t] at e
   cases q : Nat.toDigits 10 (m / 10) with
   | nil=>have:=PySem.toDigits_len_ge 10 (m / 10); rw [q] at this; exact absurd this (by decide)
   | cons d s =>
    rw [q] at e
    injection e with e _
    rw [<- e]
    exact ih (m / 10) (by lia) (by lia) d s q
theorem ydZ {a : Nat} (h1 : 1 <= a) (h2 : a < 10 ^ 10) : (strI a).length <= 30 /\ (∀ c ∈ (strI a).cps.toList,48 <= c /\ c <= 57) /\ (∃ c r,(strI a).cps.toList = c :: r /\ c ≠ 48) /\ PySem.intText? (strI a) = some (a : Int):=by
 have sg : (strI a).cps.toList = (Nat.toDigits 10 a).map Char.toNat:=PySem.W.KIN.signs_num a
 refine ⟨?_,?_,?_,PySem.W.KIN.num_reads (by lia) (by lia)⟩
 ·rw [zac,sg,List.length_map]
  exact Nat.le_trans (PySem.toDigits_len_pow (k:=10) (by decide) (by decide) h2) (by decide)
 ·intro c hc
  rw [sg] at hc
  obtain ⟨ch,hch,e⟩:=List.mem_map.mp hc
  have r:=PyProof.Rows.digit_range (Nat.isDigit_of_mem_toDigits (by decide) (by decide) hch)
  rw [<- e]; exact r
 ·rw [sg]
  cases q : Nat.toDigits 10 a with
  | nil=>have:=PySem.toDigits_len_ge 10 a; rw [q] at this; exact absurd this (by decide)
  | cons d s =>
   refine ⟨d.toNat,s.map Char.toNat,rfl,fun e=>lead a h1 d s q ?_⟩
   exact Char.toNat_inj.mp (e.trans (by decide))
theorem yga : (Str.ofString "0") = ⟨#[48]⟩:=by decide +kernel
theorem yil : (Str.ofString "9") = ⟨#[57]⟩:=by decide +kernel
theorem yfI {a : Nat} (h1 : 1 <= a) (h2 : a < 10 ^ 10) (h : AH) : ybo [.str (strI a)] h = .ok (.int a) h:=by
 obtain ⟨l30,dg,⟨c0,r0,e0,n0⟩,it⟩:=ydZ h1 h2
 obtain ⟨x,ex⟩ : ∃ x,x = strI a:=⟨_,rfl⟩
 rw [<- ex] at l30 dg e0 it ⊢
 have l1 : 1 <= x.length:=by rw [zac,e0]; simp
 have cm:=zcv (js:=[]) (en:=[some (.str x)]) (all:=x.cps.toList.map fun c=>AV.str ⟨#[c]⟩) (e:=ybZ fLe fLe (sLit (.str "0")) (sVar 0) (sLit (.str "9"))) (g:=fun c=>AV.str ⟨#[c]⟩) (f:=fun _=>AV.bl true) (h:=h) x.cps.toList [] (by
  intro c hc
  obtain ⟨a1,a2⟩:=dg c hc
  have n1 : ¬ c < 48:=by lia
  have n2 : ¬ 57 < c:=by lia
  simp [yga,yil,lt1,n1,n2]) (by rw [List.length_nil,<- zac]; exact Nat.le_trans (m:=30) (by lia) (by decide))
 rw [List.nil_append] at cm
 have al : fAll [.fl (x.cps.toList.map fun _=>AV.bl true)] h = .ok (.bl true) h:=by
  have:=zbQ (fun _=>true) x.cps.toList
  simp [this]
 have cp : ya1 [] (iVal (sVar 0)) sYes (ybZ fLe fLe (sLit (.str "0")) (sVar 0) (sLit (.str "9"))) [some (.str x)] h = .ok (.fl (x.cps.toList.map fun _=>AV.bl true)) h:=by
  have iv : iVal (sVar 0) [some (.str x)] h = .ok (x.cps.toList.map fun c=>AV.str ⟨#[c]⟩,none) h:=rfl
  simp only [ya1,iv,cm]
 have st : ybI (.str x) [.str "0"] h = .ok (.bl false) h:=by
  unfold ybI
  have : Txt.startswith x (Str.ofString "0") = false:=by
   unfold Txt.startswith
   rw [yga,zdd x 48 0 (by lia),e0]
   simp [n0]
  simp only [this]
 have nt : yee [.str x] h = .ok (.int a) h:=by
  unfold yee
  simp only [it]
  rw [if_pos (by lia)]
 have c1 : (1 : Int) <= x.length:=by lia
 have c2 : (x.length : Int) <= 30:=by lia
 have ne : fNe (.str x) (.str "0") h = .ok (.bl true) h \/ fNe (.str x) (.str "0") h = .ok (.bl false) h:=by
  by_cases q : x = Str.ofString "0" <;> simp [q]
 unfold ybo
 generalize ya1 [] (iVal (sVar 0)) sYes (ybZ fLe fLe (sLit (.str "0")) (sVar 0) (sLit (.str "9"))) = CP at *
 generalize x.cps.toList.map (fun _=>AV.bl true) = BS at *
 rcases ne with ne | ne<;>simp [c1,c2,cp,al,st,nt,ne,-fAll,-fNe]
theorem zi3 {y z w : Str} (hl : y.length = w.length) : Builtin.Str.subAt (y++z) w 0 = decide (y = w):=by
 unfold Builtin.Str.subAt
 have e : (y++z).cps.extract 0 (0 + w.length) = y.cps:=by
  rw [Str.cps_append,<- hl]
  apply Array.ext'
  simp [Str.length]
 rw [e]
 by_cases q : y = w
 ·subst q; simp
 ·have : y.cps ≠ w.cps:=fun e=>q (by cases y; cases w; simp only at e; rw [e])
  simp [q,this]
theorem zcT {y z w : Str} (hl : y.length = w.length) : Txt.startswith (y++z) w = decide (y = w):=by
 unfold Txt.startswith
 rw [zi3 hl]
 have : 0 + w.length <= (y++z).length:=by rw [zav]; lia
 rw [decide_eq_true this,Bool.true_and]
theorem zi4 (y z : Str) : cutS (y++z) (some (y.length : Int)) none = z:=ydv (by
 unfold cutS
 have e1 : HT.sIx (y++z).cps.toList.length 0 (some (y.length : Int)) = y.length:=by
  simp only [HT.sIx]
  rw [if_neg (by lia),<- zac,zav]; lia
 have e2 : HT.sIx (y++z).cps.toList.length (y++z).cps.toList.length none = (y++z).cps.toList.length:=rfl
 simp only [e1,e2]
 rw [List.toList_toArray,zaq,zac,List.drop_left,List.take_of_length_le (by simp)])
end Sk
namespace Sk
open PySem PySem.Spec L2 Sm
theorem zgV {h : AH} {p : Nat} {ps : List Pc} {x : Str} (S : ShelfAt h p ps) (hx : ya6 x = true) (hq : Pc.leaf x ∉ ps) (hz : ps.length < 16000000) : ∃ o : AO,ybn [.ref p,.str (rowS (.leaf x))] h = .ok (.int ((ps.length + 1 : Nat) : Int)) (ybb (h++[o]) p (ps++[.leaf x])):=by
 obtain ⟨s1,s2,s3⟩:=zaP hx
 obtain ⟨o,er⟩:=zhQ s3 s2 h
 obtain ⟨r1,r2⟩:=yda (q:=.leaf x) ⟨s3,s2⟩
 have sp:=zcE (rowS (.leaf x)) 32 (by lia) r2 h
 rw [<- yeJ] at sp
 have l5 : (Str.ofString "leaf ").length = 5:=by decide +kernel
 have st : ybI (.str (rowS (.leaf x))) [.str "leaf "] h = .ok (.bl true) h:=by
  have : Txt.startswith (rowS (.leaf x)) (Str.ofString "leaf ") = true:=by
   show Txt.startswith ((Str.ofString "leaf ")++escS x) (Str.ofString "leaf ") = true
   rw [zcT rfl]; simp
  unfold ybI
  simp only [this]
 have fl : fLen [.str "leaf "] h = .ok (.int 5) h:=by simp [l5]
 have ct : ycg (.str (rowS (.leaf x))) (some 5) none h = .ok (.str (escS x)) h:=by
  have:=zi4 (Str.ofString "leaf ") (escS x)
  rw [l5] at this
  show Out.ok (AV.str (cutS ((Str.ofString "leaf ")++escS x) (some 5) none)) h = _
  rw [show (5 : Int) = ((5 : Nat) : Int) from rfl,this]
 have nw:=zbB (S.app [o]) hx (Nat.le_trans s2 (by decide)) hq hz
 have ob:=(S.app [o]).ob
 refine ⟨o,?_⟩
 unfold ybn
 generalize ybM = G1 at *
 generalize yat = G2 at *
 generalize ybo = G3 at *
 generalize yaC = G4 at *
 generalize rowS (.leaf x) = R at *
 generalize (Txt.split R (Str.ofString " ")).map AV.str = WS at *
 generalize ybb (h++[o]) p (ps++[.leaf x]) = HZ at *
 generalize ((ps.length + 1 : Nat) : Int) = N at *
 have ob0:=S.ob
 generalize h++[o] = HO at *
 simp [sp,st,fl,ct,er,nw,ob,ob0,-fLen,-ycg]
theorem zhR (a b : Nat) : rowS (.fork a b) = Str.join ⟨#[32]⟩ [Str.ofString "fork",strI a,strI b]:=ydv (by
 have e : (Str.ofString "fork ").cps.toList = (Str.ofString "fork").cps.toList++[32]:=by decide +kernel
 have e2 : (Str.ofString " ").cps.toList = [32]:=by decide +kernel
 rw [ydF,ydF]
 show ((((Str.ofString "fork ")++strI a)++(Str.ofString " "))++strI b).cps.toList = (Str.ofString "fork").cps.toList++32 :: ((strI a).cps.toList++32 :: (strI b).cps.toList)
 rw [zaq,zaq,zaq,e,e2]
 simp)
theorem zgW {h : AH} {p : Nat} {ps : List Pc} {a b : Nat} (S : ShelfAt h p ps) (F : ForkOk ps a b) (ha : a < 10 ^ 10) (hb : b < 10 ^ 10) (hq : Pc.fork a b ∉ ps) (hz : ps.length < 16000000) : ybn [.ref p,.str (rowS (.fork a b))] h = .ok (.int ((ps.length + 1 : Nat) : Int)) (ybb h p (ps++[.fork a b])):=by
 obtain ⟨r1,r2⟩:=yda (q:=.fork a b) ⟨by lia,by lia⟩
 have sp:=zcE (rowS (.fork a b)) 32 (by lia) r2 h
 have na:=(ydZ F.pa ha).2.1
 have nb:=(ydZ F.pb hb).2.1
 have sj:=zcS 32 [Str.ofString "fork",strI a,strI b] (by simp) (fun q hq=>by
  rcases List.mem_cons.mp hq with rfl | hq
  ·decide +kernel
  ·rcases List.mem_cons.mp hq with rfl | hq
   ·exact fun z=>absurd (na 32 z).1 (by decide)
   ·rw [List.mem_singleton.mp hq]; exact fun z=>absurd (nb 32 z).1 (by decide))
 rw [<- zhR] at sj
 rw [sj,<- yeJ] at sp
 have st : ybI (.str (rowS (.fork a b))) [.str "leaf "] h = .ok (.bl false) h:=by
  have : Txt.startswith (rowS (.fork a b)) (Str.ofString "leaf ") = false:=by
   show Txt.startswith ((((Str.ofString "fork ")++strI a)++(Str.ofString " "))++strI b) (Str.ofString "leaf ") = false
   rw [zbT,zbT,zcT (by decide +kernel)]
   exact decide_eq_false (by decide +kernel)
  unfold ybI
  simp only [this]
 have n1:=yfI F.pa ha h
 have n2:=yfI F.pb hb h
 have nw:=zbC S F hq hz
 have i0 : fIx (.fl ([Str.ofString "fork",strI a,strI b].map AV.str)) (.int 0) h = .ok (.str (Str.ofString "fork")) h:=rfl
 have j1 : fIx (.fl ([Str.ofString "fork",strI a,strI b].map AV.str)) (.int 1) h = .ok (.str (strI a)) h:=rfl
 have j2 : fIx (.fl ([Str.ofString "fork",strI a,strI b].map AV.str)) (.int 2) h = .ok (.str (strI b)) h:=rfl
 have ln : fLen [.fl ([Str.ofString "fork",strI a,strI b].map AV.str)] h = .ok (.int 3) h:=rfl
 have ob0:=S.ob
 unfold ybn
 generalize ybM = G1 at *
 generalize yat = G2 at *
 generalize ybo = G3 at *
 generalize yaC = G4 at *
 generalize rowS (.fork a b) = R at *
 generalize [Str.ofString "fork",strI a,strI b].map AV.str = WS at *
 generalize ybb h p (ps++[.fork a b]) = HZ at *
 generalize ((ps.length + 1 : Nat) : Int) = N at *
 simp [sp,st,i0,j1,j2,ln,n1,n2,nw,ob0,-fLen,-ycg,-fIx]
theorem yhq {h : AH} {p : Nat} {ps : List Pc} {q : Pc} (S : ShelfAt h p ps) (ok : PcOk ps q) (hq : q ∉ ps) (hz : ps.length <= 30000) : ∃ r : AH,ycN [.ref p,.str (rowS q)] h = .ok (.bl true) (ybb (h++r) p (ps++[q])):=by
 obtain ⟨r,e⟩ : ∃ r : AH,ybn [.ref p,.str (rowS q)] h = .ok (.int ((ps.length + 1 : Nat) : Int)) (ybb (h++r) p (ps++[q])):=by
  cases q with
  | leaf x =>
   obtain ⟨o,e⟩:=zgV S ok hq (by lia)
   exact ⟨[o],e⟩
  | fork a b =>
   have F : ForkOk ps a b:=ok
   obtain ⟨ma,mb,la,fb,h1,h2,_⟩:=F.ex
   have b1:=(List.getElem?_eq_some_iff.mp h1).1
   have b2:=(List.getElem?_eq_some_iff.mp h2).1
   rw [zag] at b1 b2
   refine ⟨[],?_⟩
   rw [List.append_nil]
   exact zgW S F (by lia) (by lia) hq (by lia)
 have fm:=ybC S
 have ob:=S.ob
 have gt : ∀ hh,fGt (.int ((ps.length + 1 : Nat) : Int)) (.int ps.length) hh = .ok (.bl true) hh:=fun hh=>by simp; lia
 refine ⟨r,?_⟩
 unfold ycN
 generalize ybn = G1 at *
 generalize yai = G2 at *
 generalize rowS q = R at *
 generalize ybb (h++r) p (ps++[q]) = HZ at *
 generalize ((ps.length + 1 : Nat) : Int) = N at *
 generalize (ps.length : Int) = M at *
 simp [e,fm,ob,gt,-fGt]
abbrev tx87 (ps : List Pc) : Str:=Builtin.Str.glued (Str.ofString "\n") (ps.map rowS)
theorem yhr {q : Pc} (ok : ydE q) (h10 : ∀ a b,q = .fork a b -> 1 <= a /\ 1 <= b /\ a < 10 ^ 10 /\ b < 10 ^ 10) : 10 ∉ (rowS q).cps.toList:=by
 cases q with
 | leaf x =>
  show 10 ∉ ((Str.ofString "leaf ")++escS x).cps.toList
  rw [zaq,List.mem_append]
  rintro (z | z)
  ·exact absurd z (by decide +kernel)
  ·have : 10 ∈ x.cps.toList.flatMap esc1:=by simpa [escS] using z
   obtain ⟨c,hc,q⟩:=List.mem_flatMap.mp this
   unfold esc1 at q
   split at q
   ·simp at q
   ·split at q
    ·simp at q
    ·rename_i n; simp at q; exact n q.symm
 | fork a b =>
  obtain ⟨a1,b1,a2,b2⟩:=h10 a b rfl
  have na:=(ydZ a1 a2).2.1
  have nb:=(ydZ b1 b2).2.1
  show 10 ∉ ((((Str.ofString "fork ")++strI a)++(Str.ofString " "))++strI b).cps.toList
  rw [zaq,zaq,zaq,List.mem_append,List.mem_append,List.mem_append]
  rintro (((z | z) | z) | z)
  ·exact absurd z (by decide +kernel)
  ·exact absurd (na 10 z).1 (by decide)
  ·exact absurd z (by decide +kernel)
  ·exact absurd (nb 10 z).1 (by decide)
theorem zbs {ps : List Pc} (g : Good ps) {i a b : Nat} (e : ps[i]? = some (.fork a b)) : 1 <= a /\ a <= i /\ 1 <= b /\ b <= i:=by
 have ok : ForkOk (ps.take i) a b:=g.get e
 have hi:=(List.getElem?_eq_some_iff.mp e).1
 have li : (ps.take i).length = i:=by simp; lia
 obtain ⟨ma,mb,la,fb,h1,h2,_⟩:=ok.ex
 have b1:=(List.getElem?_eq_some_iff.mp h1).1
 have b2:=(List.getElem?_eq_some_iff.mp h2).1
 rw [zag,li] at b1 b2
 exact ⟨ok.pa,by lia,ok.pb,by lia⟩
theorem zfX {ps : List Pc} (g : Good ps) (hz : ps.length <= 30000) (hn : ps ≠ []) (h : AH) : ycw (.str (tx87 ps)) [.str "\n"] h = .ok (.fl ((ps.map rowS).map AV.str)) h /\ tx87 ps ≠ Str.ofString "" := by
 have rk : ∀ q ∈ ps,ydE q /\ 10 ∉ (rowS q).cps.toList:=fun q hq=>by
  obtain ⟨i,hi⟩:=List.getElem?_of_mem hq
  have r:=zaM g hz hi
  refine ⟨r,yhr r fun a b e=>?_⟩
  subst e
  have:=zbs g hi
  have:=(List.getElem?_eq_some_iff.mp hi).1
  lia
 have ej : tx87 ps = Str.join ⟨#[10]⟩ (ps.map rowS):=by
  show Builtin.Str.glued (Str.ofString "\n") (ps.map rowS) = _
  rw [ycP,StrLaws.glued_eq_join]
 have sj:=zcS 10 (ps.map rowS) (by simpa using hn) (fun x hx=>by
  obtain ⟨q,hq,rfl⟩:=List.mem_map.mp hx
  exact (rk q hq).2)
 have lt : ∀ d ∈ (tx87 ps).cps.toList,d < 200:=zeu (by decide +kernel) _ fun x hx=>by
  obtain ⟨q,hq,rfl⟩:=List.mem_map.mp hx
  exact (yda (rk q hq).1).2
 have ln : (tx87 ps).length <= 5000000:=by
  have sm:=yeL (ps.map rowS) fun x hx=>by
   obtain ⟨q,hq,rfl⟩:=List.mem_map.mp hx
   exact (yda (rk q hq).1).1
  have sz:=size_glued (Str.ofString "\n") (ps.map rowS)
  have l1 : Str.length (Str.ofString "\n") = 1:=by decide +kernel
  rw [l1,Nat.mul_one] at sz
  rw [List.length_map] at sm sz
  show (Builtin.Str.glued (Str.ofString "\n") (ps.map rowS)).length <= _
  lia
 have sp:=zcE (tx87 ps) 10 ln lt h
 constructor
 ·rw [<- ycP] at sp
  rw [sp]
  have : Txt.split (tx87 ps) (Str.ofString "\n") = ps.map rowS:=by rw [ej,ycP]; exact sj
  rw [this]
 ·intro e
  have : Txt.split (tx87 ps) ⟨#[10]⟩ = [Str.ofString ""]:=by rw [e]; decide +kernel
  rw [ej,sj] at this
  cases ps with
  | nil=>exact hn rfl
  | cons q r =>
   simp only [List.map_cons,List.cons.injEq] at this
   have:=congrArg Str.length this.1
   have l0 : (Str.ofString "").length = 0:=by decide +kernel
   rw [l0] at this
   have lf : (Str.ofString "leaf ").length = 5:=by decide +kernel
   have lk : (Str.ofString "fork ").length = 5:=by decide +kernel
   cases q with
   | leaf x=>rw [rowS,zav] at this; lia
   | fork a b=>rw [rowS,zav,zav,zav] at this; lia
end Sk
namespace Sk
open PySem PySem.Spec L2 Sm
theorem zi5 {h : AH} {p : Nat} {ps : List Pc} {q : Pc} (S : ShelfAt h p ps) (ok : PcOk ps q) (hq : q ∉ ps) (hz : ps.length <= 30000) (o0 : Option AV) (k : Int) : ∃ r : AH,ybg [o0,some (.ref p),some (.int k),some (.str (rowS q))] h = .nx [o0,some (.ref p),some (.int k),some (.str (rowS q))] (ybb (h++r) p (ps++[q])):=by
 obtain ⟨r,e⟩:=yhq S ok hq hz
 refine ⟨r,?_⟩
 unfold ybg
 generalize ycN = G at *
 generalize rowS q = R at *
 generalize ybb (h++r) p (ps++[q]) = HZ at *
 simp [e]
theorem zhS {qs : List Pc} (nd : qs.Nodup) {j : Nat} {q : Pc} (e : qs[j]? = some q) : q ∉ qs.take j:=fun z=>by
 obtain ⟨i,hi⟩:=List.getElem?_of_mem z
 have li:=(List.getElem?_eq_some_iff.mp hi).1
 rw [List.length_take] at li
 rw [List.getElem?_take_of_lt (by lia)] at hi
 obtain ⟨l1,e1⟩:=List.getElem?_eq_some_iff.mp hi
 obtain ⟨l2,e2⟩:=List.getElem?_eq_some_iff.mp e
 exact (List.pairwise_iff_getElem.mp nd) i j l1 l2 (by lia) (e1.trans e2.symm)
theorem ydR {qs : List Pc} (g : Good qs) (hz : qs.length <= 30000) (h : AH) : ∃ h' : AH,ya3 [.str (tx87 qs)] h = .ok (.ref h.length) h' /\ ShelfAt h' h.length qs /\ ∀ i,i < h.length -> h'[i]? = h[i]? := by
 have mk:=yfx [some (.str (tx87 qs)),none,none,none] h
 have S0 : ShelfAt (h++ydC h.length) h.length []:=by have:=yfz h []; simpa using this
 obtain ⟨H0,eH0⟩ : ∃ H,H = h++ydC h.length:=⟨_,rfl⟩
 have fr0 : ∀ i,i < h.length -> H0[i]? = h[i]? := fun i hi=>by rw [eH0,List.getElem?_append_left hi]
 rw [<- eH0] at mk S0
 by_cases hn : qs = []
 ·subst hn
  have t0 : tx87 [] = Str.ofString "" := by decide +kernel
  refine ⟨H0,?_,S0,fr0⟩
  rw [t0] at mk ⊢
  have q0:=(ye6 (Str.ofString "") H0).2
  unfold ya3
  generalize ydj 0 8 ya7 sNil = MK at *
  simp [mk,q0,-fEq]
 ·obtain ⟨sp,ne⟩:=zfX g hz hn H0
  obtain ⟨p,ep⟩ : ∃ p,p = h.length:=⟨_,rfl⟩
  rw [<- ep] at mk S0 fr0 ⊢
  obtain ⟨rs,ers⟩ : ∃ rs,rs = (qs.map rowS).map AV.str:=⟨_,rfl⟩
  rw [<- ers] at sp
  obtain ⟨e',H1,lp,o2,o3,S1,fr1,rfl⟩:=ych (w:=none) (all:=Sm.numbered 0 rs) (t:=.tup [2,3]) (b:=ybg) (xs:=Sm.numbered 0 rs) (en:=[some (.str (tx87 qs)),some (.ref p),none,none]) (h:=H0)
   (fun i en h' => ∃ (o2 o3 : Option AV),ShelfAt h' p (qs.take i) /\ (∀ k,k < p -> h'[k]? = h[k]?) /\ en = [some (.str (tx87 qs)),some (.ref p),o2,o3])
   ⟨none,none,S0,fr0,rfl⟩ (fun _ _ _ _=>rfl) (by
    rintro j y en h' hx ⟨o2,o3,S,fr,rfl⟩
    rw [Sm.numbered_get,ers,List.getElem?_map,List.getElem?_map] at hx
    cases eq : qs[j]? with
    | none=>rw [eq] at hx; cases hx
    | some q =>
     rw [eq] at hx
     cases hx
     obtain ⟨r,e⟩:=zi5 S (g.get eq) (zhS g.nodup eq) (by rw [List.length_take]; lia) (some (.str (tx87 qs))) ((0 + j : Nat) : Int)
     show thn (ybg [some (.str (tx87 qs)),some (.ref p),some (.int ((0 + j : Nat) : Int)),some (.str (rowS q))] h') _
     rw [e]
     have tk : qs.take (j + 1) = qs.take j++[q]:=by rw [List.take_succ,eq]; rfl
     refine ⟨_,_,?_,fun k hk=>?_,rfl⟩
     ·rw [tk]; exact zaL (S.app r)
     ·rw [zbc (.inl (by lia)),List.getElem?_append_left (by have:=ybm S.h8; lia)]
      exact fr k hk)
  have ln : (Sm.numbered 0 rs).length = qs.length:=by
   have : ∀ (xs : List AV) (k : Nat),(Sm.numbered k xs).length = xs.length:=fun xs=>by
    induction xs with
    | nil=>intro k; rfl
    | cons x xs ih=>intro k; rw [Sm.numbered,List.length_cons,ih,List.length_cons]
   rw [this,ers]; simp
  rw [ln,List.take_length] at S1
  have it : Sm.iEnum (sBM ybj ycw (sVar 0) (yab (sLit (.str "\n")) sNil)) [some (.str (tx87 qs)),some (.ref p),none,none] H0 = .ok (Sm.numbered 0 rs,none) H0:=by
   generalize tx87 qs = T at *
   simp [sp]
  have f1:=(ybO (t:=.tup [2,3]) (b:=ybg) it).trans lp
  have q0 : fEq (.str (tx87 qs)) (.str "") H0 = .ok (.bl false) H0:=by
   generalize tx87 qs = T at *
   simp [ne]
  refine ⟨H1,?_,S1,fr1⟩
  generalize hF : sFor (Sm.iEnum (sBM ybj ycw (sVar 0) (yab (sLit (.str "\n")) sNil))) (.tup [2,3]) ybg = F1 at f1
  unfold ya3
  rw [hF]
  generalize ydj 0 8 ya7 sNil = MK at *
  generalize tx87 qs = T at *
  simp [mk,q0,f1,-fEq]
theorem yim (q : Pc) (h : AH) : fNe q.av q.av h = .ok (.bl false) h:=by
 cases q with
 | leaf x=>simp [Pc.av,toD,toDs,PyData.eqv,PyData.eqvAll]
 | fork a b=>simp [Pc.av,toD,toDs,PyData.eqv,PyData.eqvAll]
theorem ne_n (i : Int) (h : AH) : fNe (.int i) (.int i) h = .ok (.bl false) h:=by simp [toD,PyData.eqv]
theorem zgX {h : AH} {p p2 : Nat} {ps : List Pc} {j : Nat} (S : ShelfAt h p ps) (S2 : ShelfAt h p2 ps) (hj : j < ps.length) : ybB [some (.ref p),some (.ref p2),some (.int ((j + 1 : Nat) : Int))] h = .nx [some (.ref p),some (.ref p2),some (.int ((j + 1 : Nat) : Int))] h:=by
 have e : ps[j]? = some ps[j]:=List.getElem?_eq_getElem hj
 generalize ps[j] = q at e
 obtain ⟨m,em⟩ : ∃ m,(meas ps)[j + 1]? = some m:=⟨_,zde e⟩
 have a1:=zbd (n:=j + 1) S (by lia) e
 have b1:=zbd (n:=j + 1) S2 (by lia) e
 have a2:=zft S em; have b2:=zft S2 em
 have a3:=zfu S em; have b3:=zfu S2 em
 have a4:=zes S em; have b4:=zes S2 em
 have a5:=zet S em; have b5:=zet S2 em
 have a6:=zfv S em; have b6:=zfv S2 em
 have a7:=yfB S em; have b7:=yfB S2 em
 have n1:=yim q h
 have nn:=ne_n
 have ob:=S.ob; have ob2:=S2.ob
 unfold ybB
 generalize yap = G1 at *
 generalize ybE = G2 at *
 generalize ybN = G3 at *
 generalize ybv = G4 at *
 generalize ybw = G5 at *
 generalize ya5 = G6 at *
 generalize ybd = G7 at *
 generalize ((j + 1 : Nat) : Int) = N at *
 generalize q.av = A at *
 simp [a1,b1,a2,b2,a3,b3,a4,b4,a5,b5,a6,b6,a7,b7,n1,nn,ob,ob2,-fNe]
theorem yfJ {h : AH} {p p2 : Nat} {ps : List Pc} (S : ShelfAt h p ps) (S2 : ShelfAt h p2 ps) (hz : ps.length <= 30000) : yb9 [.ref p,.ref p2] h = .ok (.bl true) h:=by
 have m1:=ybC S
 have m2:=ybC S2
 have ob:=S.ob; have ob2:=S2.ob
 obtain ⟨e',H1,lp,o2,eH,rfl⟩:=ych (w:=none) (all:=yau 1 ps.length) (t:=.nm 2) (b:=ybB) (xs:=yau 1 ps.length) (en:=[some (.ref p),some (.ref p2),none]) (h:=h)
  (fun i en h' => ∃ (o2 : Option AV),h' = h /\ en = [some (.ref p),some (.ref p2),o2]) ⟨none,rfl,rfl⟩ (fun _ _ _ _=>rfl) (by
   rintro j y en h' hx ⟨o2,eh,rfl⟩
   rw [eh]
   rw [zar] at hx
   split at hx
   ·rename_i hj
    cases hx
    have e:=zgX S S2 hj
    rw [show (1 + (j : Int)) = ((j + 1 : Nat) : Int) by lia]
    show thn (ybB [some (.ref p),some (.ref p2),some (.int ((j + 1 : Nat) : Int))] h) _
    rw [e]
    exact ⟨_,rfl,rfl⟩
   ·cases hx)
 rw [eH] at lp
 have r2 : yaX (sLit (.int 1)) (sOp2 fAdd (yaj 0 yai (sVar 0) sNil) (sLit (.int 1))) [some (.ref p),some (.ref p2),none] h = .ok (yau 1 ps.length,none) h:=by
  refine za3 (i:=1) (j:=(ps.length : Int) + 1) (h1:=h) rfl ?_ (by lia) (by decide) (by lia)
  generalize yai = G at m1 ⊢
  simp [m1,ob]
 have f1:=(ybO (t:=.nm 2) (b:=ybB) r2).trans lp
 have n1:=ne_n (ps.length : Int) h
 generalize hF : sFor (yaX (sLit (.int 1)) (sOp2 fAdd (yaj 0 yai (sVar 0) sNil) (sLit (.int 1)))) (.nm 2) ybB = F1 at f1
 unfold yb9
 rw [hF]
 generalize yai = G at *
 generalize (ps.length : Int) = N at *
 simp [m1,m2,ob,ob2,n1,f1,-fNe]
end Sk
namespace Sk
open PySem PySem.Spec L2 Sm
def isLf (ps : List Pc) (n : Nat) : Bool:=match ps[n - 1]? with
 | some (.leaf _)=>true
 | _=>false
def isFk (ps : List Pc) (n : Nat) : Bool:=match ps[n - 1]? with
 | some (.fork _ _)=>true
 | _=>false
def dnL (ps : List Pc) : Nat -> List Nat
 | 0=>[]
 | k + 1=>if isLf ps (k + 1) = true then (k + 1) :: dnL ps k else dnL ps k
def upL (ps : List Pc) : Nat -> List Nat
 | 0=>[]
 | k + 1=>upL ps k++if isFk ps (k + 1) = true then [k + 1] else []
theorem dn_mem {ps : List Pc} {n : Nat} : ∀ {k : Nat},n ∈ dnL ps k ↔ 1 <= n /\ n <= k /\ isLf ps n = true
 | 0=>by simp [dnL]; lia
 | k + 1=>by
  rw [dnL]
  by_cases q : isLf ps (k + 1) = true
  ·rw [if_pos q,List.mem_cons,dn_mem (k:=k)]
   constructor
   ·rintro (rfl | ⟨a,b,c⟩)
    ·exact ⟨by lia,by lia,q⟩
    ·exact ⟨a,by lia,c⟩
   ·rintro ⟨a,b,c⟩
    by_cases e : n = k + 1
    ·exact .inl e
    ·exact .inr ⟨a,by lia,c⟩
  ·rw [if_neg q,dn_mem (k:=k)]
   constructor
   ·rintro ⟨a,b,c⟩; exact ⟨a,by lia,c⟩
   ·rintro ⟨a,b,c⟩
    by_cases e : n = k + 1
    ·subst e; exact absurd c q
    ·exact ⟨a,by lia,c⟩
theorem up_mem {ps : List Pc} {n : Nat} : ∀ {k : Nat},n ∈ upL ps k ↔ 1 <= n /\ n <= k /\ isFk ps n = true
 | 0=>by simp [upL]; lia
 | k + 1=>by
  rw [upL,List.mem_append,up_mem (k:=k)]
  by_cases q : isFk ps (k + 1) = true
  ·rw [if_pos q,List.mem_singleton]
   constructor
   ·rintro (⟨a,b,c⟩ | rfl)
    ·exact ⟨a,by lia,c⟩
    ·exact ⟨by lia,by lia,q⟩
   ·rintro ⟨a,b,c⟩
    by_cases e : n = k + 1
    ·exact .inr e
    ·exact .inl ⟨a,by lia,c⟩
  ·rw [if_neg q]
   constructor
   ·rintro (⟨a,b,c⟩ | z)
    ·exact ⟨a,by lia,c⟩
    ·cases z
   ·rintro ⟨a,b,c⟩
    by_cases e : n = k + 1
    ·subst e; exact absurd c q
    ·exact .inl ⟨a,by lia,c⟩
theorem yeO {ps : List Pc} {n : Nat} (h1 : 1 <= n) (h2 : n <= ps.length) : (isLf ps n = true /\ isFk ps n = false) \/ (isLf ps n = false /\ isFk ps n = true):=by
 have e : ps[n - 1]? = some (ps[n - 1]'(by lia)):=List.getElem?_eq_getElem _
 unfold isLf isFk
 rw [e]
 cases ps[n - 1]'(by lia) with
 | leaf x=>exact .inl ⟨rfl,rfl⟩
 | fork a b=>exact .inr ⟨rfl,rfl⟩
theorem ygb {ps : List Pc} : ∀ {k : Nat},k <= ps.length -> (dnL ps k).length + (upL ps k).length = k
 | 0,_=>rfl
 | k + 1,h=>by
  have ih:=ygb (ps:=ps) (k:=k) (by lia)
  rw [dnL,upL,List.length_append]
  rcases yeO (ps:=ps) (n:=k + 1) (by lia) h with ⟨a,b⟩ | ⟨a,b⟩
  ·rw [if_pos a,if_neg (by rw [b]; exact Bool.false_ne_true),List.length_cons,List.length_nil]; lia
  ·rw [if_neg (by rw [a]; exact Bool.false_ne_true),if_pos b,List.length_singleton]; lia
def Bef (ps : List Pc) (x y : Nat) : Prop:=(isLf ps x = true /\ isFk ps y = true) \/ (isLf ps x = true /\ isLf ps y = true /\ y < x) \/ (isFk ps x = true /\ isFk ps y = true /\ x < y)
theorem ye7 (ps : List Pc) : ∀ k,(dnL ps k).Pairwise (Bef ps)
 | 0=>.nil
 | k + 1=>by
  rw [dnL]
  by_cases q : isLf ps (k + 1) = true
  ·rw [if_pos q,List.pairwise_cons]
   refine ⟨fun a ha=>?_,ye7 ps k⟩
   obtain ⟨_,b,c⟩:=dn_mem.mp ha
   exact .inr (.inl ⟨q,c,by lia⟩)
  ·rw [if_neg q]; exact ye7 ps k
theorem ygc (ps : List Pc) : ∀ k,(upL ps k).Pairwise (Bef ps)
 | 0=>.nil
 | k + 1=>by
  rw [upL,List.pairwise_append]
  refine ⟨ygc ps k,?_,fun a ha b hb=>?_⟩
  ·split
   ·exact List.pairwise_singleton _ _
   ·exact .nil
  ·split at hb
   ·rename_i q
    obtain ⟨_,d,c⟩:=up_mem.mp ha
    rw [List.mem_singleton.mp hb]
    exact .inr (.inr ⟨c,q,by lia⟩)
   ·cases hb
def ordL (ps : List Pc) : List Nat:=dnL ps ps.length++upL ps ps.length
theorem yfK (ps : List Pc) : (ordL ps).Pairwise (Bef ps):=by
 unfold ordL
 rw [List.pairwise_append]
 exact ⟨ye7 ps _,ygc ps _,fun a ha b hb=>.inl ⟨(dn_mem.mp ha).2.2,(up_mem.mp hb).2.2⟩⟩
theorem zaE {ps : List Pc} {n : Nat} : n ∈ ordL ps ↔ 1 <= n /\ n <= ps.length:=by
 unfold ordL
 rw [List.mem_append,dn_mem,up_mem]
 constructor
 ·rintro (⟨a,b,_⟩ | ⟨a,b,_⟩)<;>exact ⟨a,b⟩
 ·rintro ⟨a,b⟩
  rcases yeO a b with ⟨c,_⟩ | ⟨_,c⟩
  ·exact .inl ⟨a,b,c⟩
  ·exact .inr ⟨a,b,c⟩
theorem zdh (ps : List Pc) : (ordL ps).length = ps.length:=by unfold ordL; rw [List.length_append,ygb (Nat.le_refl _)]
theorem zfz {ps : List Pc} {n : Nat} (h1 : 1 <= n) (h2 : n <= ps.length) : ¬ Bef ps n n:=by
 rcases yeO h1 h2 with ⟨a,b⟩ | ⟨a,b⟩
 ·rintro (⟨_,d⟩ | ⟨_,_,d⟩ | ⟨_,_,d⟩)
  ·rw [b] at d; cases d
  ·lia
  ·lia
 ·rintro (⟨d,_⟩ | ⟨_,_,d⟩ | ⟨_,_,d⟩)
  ·rw [a] at d; cases d
  ·lia
  ·lia
def sg87 (ps : List Pc) (n : Nat) : Nat:=(ordL ps).idxOf n + 1
theorem ydm {ps : List Pc} {k n : Nat} (e : (ordL ps)[k]? = some n) : sg87 ps n = k + 1:=by
 obtain ⟨lk,ek⟩:=List.getElem?_eq_some_iff.mp e
 have hm : n ∈ ordL ps:=List.mem_of_getElem? e
 have li:=List.idxOf_lt_length_of_mem hm
 have ei : (ordL ps)[(ordL ps).idxOf n] = n:=List.getElem_idxOf li
 obtain ⟨b1,b2⟩:=zaE.mp hm
 unfold sg87
 have pw:=List.pairwise_iff_getElem.mp (yfK ps)
 rcases Nat.lt_trichotomy ((ordL ps).idxOf n) k with q | q | q
 ·have:=pw _ _ li lk q; rw [ei,ek] at this; exact absurd this (zfz b1 b2)
 ·rw [q]
 ·have:=pw _ _ lk li q; rw [ei,ek] at this; exact absurd this (zfz b1 b2)
theorem yfL {ps : List Pc} {a b : Nat} (ha : a ∈ ordL ps) (hb : b ∈ ordL ps) (e : sg87 ps a = sg87 ps b) : a = b:=by
 obtain ⟨i,hi⟩:=List.getElem?_of_mem ha
 obtain ⟨j,hj⟩:=List.getElem?_of_mem hb
 have:=ydm hi
 have:=ydm hj
 have : i = j:=by lia
 subst this
 exact Option.some.inj (hi.symm.trans hj)
theorem yel {ps : List Pc} (g : Good ps) {k n a b c : Nat} (e : (ordL ps)[k]? = some n) (f : ps[n - 1]? = some (.fork a b)) (hc : c = a \/ c = b) : c ∈ (ordL ps).take k:=by
 obtain ⟨a1,a2,b1,b2⟩:=zbs g f
 obtain ⟨n1,n2⟩:=zaE.mp (List.mem_of_getElem? e)
 have hm : c ∈ ordL ps:=zaE.mpr (by rcases hc with rfl | rfl<;>lia)
 obtain ⟨i,hi⟩:=List.getElem?_of_mem hm
 obtain ⟨lk,ek⟩:=List.getElem?_eq_some_iff.mp e
 obtain ⟨l2,e2⟩:=List.getElem?_eq_some_iff.mp hi
 have fk : isFk ps n = true:=by unfold isFk; rw [f]
 have nl : isLf ps n = false:=by unfold isLf; rw [f]
 have lt : i < k:=by
  rcases Nat.lt_trichotomy i k with q | q | q
  ·exact q
  ·subst q; rw [hi] at e; cases e; rcases hc with rfl | rfl<;>lia
  ·have:=List.pairwise_iff_getElem.mp (yfK ps) _ _ lk l2 q
   rw [ek,e2] at this
   rcases this with ⟨d,_⟩ | ⟨d,_⟩ | ⟨_,_,d⟩
   ·rw [nl] at d; cases d
   ·rw [nl] at d; cases d
   ·rcases hc with rfl | rfl<;>lia
 exact List.mem_iff_getElem?.mpr ⟨i,by rw [List.getElem?_take_of_lt lt]; exact hi⟩
def rn87 (ps : List Pc) : Pc -> Pc
 | .leaf x=>.leaf x
 | .fork a b=>.fork (sg87 ps a) (sg87 ps b)
def pc87 (ps : List Pc) (n : Nat) : Pc:=rn87 ps (ps.getD (n - 1) (.leaf ""))
def ybe (ps : List Pc) (D : List Nat) : List Pc:=D.map (pc87 ps)
theorem Tx.uniq {ps : List Pc} {n : Nat} {m m' : Ms} {x x' : Str} {f l f' l' : Ms} (A : Tx ps n m x f l) (B : Tx ps n m' x' f' l') : m = m' /\ x = x' /\ f = f' /\ l = l' := by
 have a:=A.ms.symm.trans B.ms; cases a
 have b:=A.rd.symm.trans B.rd; cases b
 have c:=A.ky.fl.symm.trans B.ky.fl; cases c
 have d:=A.ky.ll.symm.trans B.ky.ll; cases d
 exact ⟨rfl,rfl,rfl,rfl⟩
def Like (qs : List Pc) (n : Nat) (m : Ms) (x : Str) (f l : Ms) : Prop:=∃ m' f' l',Tx qs n m' x f' l' /\ m'.lv = m.lv /\ m'.ht = m.ht /\ f'.sg = f.sg /\ l'.sg = l.sg
theorem Like.pre {ps ps' : List Pc} {n : Nat} {m : Ms} {x : Str} {f l : Ms} (k : Like ps n m x f l) (h : ps <+: ps') : Like ps' n m x f l:=by
 obtain ⟨m',f',l',T,e⟩:=k
 exact ⟨m',f',l',T.pre h,e⟩
theorem zgY {ps : List Pc} (g : Good ps) {k n : Nat} (e : (ordL ps)[k]? = some n) : pc87 ps n ∉ ybe ps ((ordL ps).take k):=by
 intro h
 obtain ⟨n',hn,eq⟩:=List.mem_map.mp h
 obtain ⟨i,hi⟩:=List.getElem?_of_mem hn
 have li:=(List.getElem?_eq_some_iff.mp hi).1
 rw [List.length_take] at li
 rw [List.getElem?_take_of_lt (by lia)] at hi
 obtain ⟨n1,n2⟩:=zaE.mp (List.mem_of_getElem? e)
 obtain ⟨m1,m2⟩:=zaE.mp (List.mem_of_getElem? hi)
 have e1 : ps[n - 1]? = some (ps[n - 1]'(by lia)):=List.getElem?_eq_getElem _
 have e2 : ps[n' - 1]? = some (ps[n' - 1]'(by lia)):=List.getElem?_eq_getElem _
 obtain ⟨q1,q1'⟩ : ∃ q,q = ps[n - 1]'(by lia):=⟨_,rfl⟩
 obtain ⟨q2,q2'⟩ : ∃ q,q = ps[n' - 1]'(by lia):=⟨_,rfl⟩
 rw [<- q1'] at e1
 rw [<- q2'] at e2
 unfold pc87 at eq
 rw [zaz e1,zaz e2] at eq
 have qq : q2 = q1:=by
  cases q1 with
  | leaf x=>cases q2 with
   | leaf y=>simpa [rn87] using eq
   | fork c d=>simp [rn87] at eq
  | fork a b=>cases q2 with
   | leaf y=>simp [rn87] at eq
   | fork c d =>
    simp only [rn87,Pc.fork.injEq] at eq
    obtain ⟨a1,a2,b1,b2⟩:=zbs g e1
    obtain ⟨c1,c2,d1,d2⟩:=zbs g e2
    rw [yfL (zaE.mpr ⟨c1,by lia⟩) (zaE.mpr ⟨a1,by lia⟩) eq.1,yfL (zaE.mpr ⟨d1,by lia⟩) (zaE.mpr ⟨b1,by lia⟩) eq.2]
 have nn : n' - 1 = n - 1:=by
  rcases Nat.lt_trichotomy (n' - 1) (n - 1) with q | q | q
  ·exact absurd (q2'.symm.trans (qq.trans q1')) ((List.pairwise_iff_getElem.mp g.nodup) _ _ _ _ q)
  ·exact q
  ·exact absurd (q1'.symm.trans (qq.symm.trans q2')) ((List.pairwise_iff_getElem.mp g.nodup) _ _ _ _ q)
 have : n' = n:=by lia
 subst this
 have:=ydm e
 have:=ydm hi
 lia
theorem yfM {ps : List Pc} (g : Good ps) : ∀ k,k <= (ordL ps).length -> Good (ybe ps ((ordL ps).take k)) /\ ∀ n ∈ (ordL ps).take k,∀ m x f l,Tx ps n m x f l -> Like (ybe ps ((ordL ps).take k)) (sg87 ps n) m x f l
 | 0,_=>⟨by simp only [List.take_zero,ybe,List.map_nil]; exact .nil,fun n hn=>by simp at hn⟩
 | k + 1,hk=>by
  obtain ⟨G,L⟩:=yfM g k (by lia)
  have e : (ordL ps)[k]? = some ((ordL ps)[k]'(by lia)):=List.getElem?_eq_getElem _
  generalize (ordL ps)[k]'(by lia) = n at e
  obtain ⟨n1,n2⟩:=zaE.mp (List.mem_of_getElem? e)
  have tk : (ordL ps).take (k + 1) = (ordL ps).take k++[n]:=by rw [List.take_succ,e]; rfl
  have fr:=zgY g e
  have sk:=ydm e
  have lo : (ybe ps ((ordL ps).take k)).length = k:=by unfold ybe; rw [List.length_map,List.length_take]; lia
  have ot : ybe ps ((ordL ps).take (k + 1)) = ybe ps ((ordL ps).take k)++[pc87 ps n]:=by unfold ybe; rw [tk,List.map_append]; rfl
  obtain ⟨Q,eQ⟩ : ∃ Q,Q = ybe ps ((ordL ps).take k):=⟨_,rfl⟩
  rw [ot]
  rw [<- eQ] at G L fr lo ⊢
  have pr : Q <+: Q++[pc87 ps n]:=List.prefix_append _ _
  have en : ps[n - 1]? = some (ps[n - 1]'(by lia)):=List.getElem?_eq_getElem _
  obtain ⟨q,q'⟩ : ∃ q,q = ps[n - 1]'(by lia):=⟨_,rfl⟩
  rw [<- q'] at en
  have ep : pc87 ps n = rn87 ps q:=by unfold pc87; rw [zaz en]
  have en' : ps[n - 1 + 1 - 1]? = some q:=by rw [Nat.add_sub_cancel]; exact en
  have nn : n - 1 + 1 = n:=by lia
  rw [ep] at fr pr ⊢
  cases q with
  | leaf x =>
   have G' : Good (Q++[.leaf x]):=.snoc G fr (g.get en)
   refine ⟨G',fun v hv m y f l T=>?_⟩
   rw [tk] at hv
   rcases List.mem_append.mp hv with hv | hv
   ·exact (L v hv m y f l T).pre pr
   ·rw [List.mem_singleton.mp hv] at T ⊢
    have T2:=zaV g en
    rw [nn] at T2
    obtain ⟨rfl,rfl,rfl,rfl⟩:=T.uniq T2
    rw [sk,<- lo]
    exact ⟨_,_,_,zaV G' (i:=Q.length) (by simp),rfl,rfl,rfl,rfl⟩
  | fork a b =>
   obtain ⟨a1,a2,b1,b2⟩:=zbs g en
   have ca:=yel g e en (c:=a) (.inl rfl)
   have cb:=yel g e en (c:=b) (.inr rfl)
   obtain ⟨ma,xa,fa,la,A⟩:=g.tx a a1 (by lia)
   obtain ⟨mb,xb,fb,lb,B⟩:=g.tx b b1 (by lia)
   obtain ⟨ma',fa',la',A',a3,a4,a5,a6⟩:=L a ca ma xa fa la A
   obtain ⟨mb',fb',lb',B',b3,b4,b5,b6⟩:=L b cb mb xb fb lb B
   have F : ForkOk (ps.take (n - 1)) a b:=g.get en
   obtain ⟨m1,m2,m3,m4,q1,q2,q3,q4,q5,q6,q7⟩:=F.ex
   have tp:=zcx ps (n - 1)
   have z1:=A.ms.symm.trans (zal tp q1); cases z1
   have z2:=B.ms.symm.trans (zal tp q2); cases z2
   have z3:=A.ky.ll.symm.trans (zal tp q3); cases z3
   have z4:=B.ky.fl.symm.trans (zal tp q4); cases z4
   have sa : ma'.sg = ma.sg:=A'.ky.sg.trans A.ky.sg.symm
   have sb : mb'.sg = mb.sg:=B'.ky.sg.trans B.ky.sg.symm
   have F' : ForkOk Q (sg87 ps a) (sg87 ps b):=⟨A'.n1,B'.n1,ma',mb',la',fb',A'.ms,B'.ms,A'.ky.ll,B'.ky.fl,by lia,by lia,by lia⟩
   have G' : Good (Q++[.fork (sg87 ps a) (sg87 ps b)]):=.snoc G fr F'
   refine ⟨G',fun v hv m y f l T=>?_⟩
   rw [tk] at hv
   rcases List.mem_append.mp hv with hv | hv
   ·exact (L v hv m y f l T).pre pr
   ·rw [List.mem_singleton.mp hv] at T ⊢
    have T2:=zaW g en A B
    rw [nn] at T2
    obtain ⟨rfl,rfl,rfl,rfl⟩:=T.uniq T2
    rw [sk,<- lo]
    refine ⟨_,_,_,zaW G' (i:=Q.length) (by simp) (A'.pre pr) (B'.pre pr),?_,?_,a5,b6⟩
    ·show ma'.lv + mb'.lv = ma.lv + mb.lv; lia
    ·show max ma'.ht mb'.ht + 1 = max ma.ht mb.ht + 1; rw [a4,b4]
theorem zex {ps : List Pc} (g : Good ps) : Good (ybe ps (ordL ps)):=by
 have:=(yfM g (ordL ps).length (Nat.le_refl _)).1
 rwa [List.take_length] at this
theorem zdi (ps : List Pc) : (ybe ps (ordL ps)).length = ps.length:=by unfold ybe; rw [List.length_map,zdh]
end Sk
namespace Sk
open PySem PySem.Spec L2 Sm
theorem yeP {g : Nat -> AV} {n : Nat} : ∀ {D : List Nat},n ∈ D -> valA (D.map fun m : Nat=>(AV.int m,g m)) (.int n) = some (g n)
 | [],h=>nomatch h
 | m :: D,h=>by
  by_cases q : m = n
  ·subst q; simp [valA]
  ·have:=yeP (g:=g) (n:=n) (D:=D) (by rcases List.mem_cons.mp h with h | h; exact absurd h.symm q; exact h)
   unfold valA at this ⊢
   rw [List.map_cons,List.find?_cons_of_neg (by simp; lia)]
   exact this
theorem zfA {g : Nat -> AV} {n : Nat} : ∀ {D : List Nat},n ∉ D -> valA (D.map fun m : Nat=>(AV.int m,g m)) (.int n) = none
 | [],h=>rfl
 | m :: D,h=>by
  have q : ¬ m = n:=fun e=>h (by rw [e]; exact List.mem_cons_self ..)
  have:=zfA (g:=g) (n:=n) (D:=D) fun z=>h (List.mem_cons_of_mem _ z)
  unfold valA at this ⊢
  rw [List.map_cons,List.find?_cons_of_neg (by simp; lia)]
  exact this
theorem zi6 {g : Nat -> AV} {n : Nat} {D : List Nat} (h : n ∉ D) : putA (D.map fun m : Nat=>(AV.int m,g m)) (.int n) (g n) = (D++[n]).map fun m : Nat=>(AV.int m,g m):=by
 unfold putA
 rw [zc4,zfA h,List.map_append]
 simp
def dg87 (ps : List Pc) (n : Nat) : AV:=.int (sg87 ps n)
structure OI (ps : List Pc) (h h' : AH) (D : List Nat) : Prop where
 fr : ∀ i,i < h.length -> h'[i]? = h[i]?
 dc : h'[h.length]? = some (.dct false (D.map fun m : Nat=>(AV.int m,dg87 ps m)))
 rw : h'[h.length + 1]? = some (.lst (D.map fun n=>.str (rowS (pc87 ps n))))
theorem OI.app {ps : List Pc} {h h' : AH} {D : List Nat} (o : OI ps h h' D) (r : AH) : OI ps h (h' ++ r) D:=by
 have l:=ybm o.rw
 exact ⟨fun i hi=>by rw [List.getElem?_append_left (by lia)]; exact o.fr i hi,by rw [List.getElem?_append_left (by lia)]; exact o.dc,by rw [List.getElem?_append_left l]; exact o.rw⟩
theorem OI.sh {ps qs : List Pc} {h h' : AH} {D : List Nat} {p : Nat} (o : OI ps h h' D) (S : ShelfAt h p qs) : ShelfAt h' p qs:=by
 have:=ybm S.h8
 exact S.keep fun i _ b=>o.fr i (by lia)
theorem OI.put {ps : List Pc} {h h' : AH} {D R : List Nat} {n p : Nat} (o : OI ps h h' D) (e : ordL ps = D++n :: R) (hz : ps.length <= 30000) (b : Option AV) :
  ∃ h2,yaD (.ref (h.length + 1)) [.str (rowS (pc87 ps n))] h' = .ok .non h2 /\ ycs (sVar 1) (sVar 3) (yae fLen (yab (sVar 2) sNil)) [some (.ref p),some (.ref h.length),some (.ref (h.length + 1)),some (.int n),b] h2 = .nx [some (.ref p),some (.ref h.length),some (.ref (h.length + 1)),some (.int n),b] ((h2).set h.length (.dct false ((D++[n]).map fun m : Nat=>(AV.int m,dg87 ps m)))) /\
   OI ps h (h2.set h.length (.dct false ((D++[n]).map fun m : Nat=>(AV.int m,dg87 ps m)))) (D++[n]):=by
 have ol:=zdh ps
 have lD : D.length < 30001:=by rw [e,List.length_append,List.length_cons] at ol; lia
 have ek : (ordL ps)[D.length]? = some n:=by rw [e]; simp
 have sk:=ydm ek
 have nD : n ∉ D:=fun z=>by
  obtain ⟨i,hi⟩:=List.getElem?_of_mem z
  have li:=(List.getElem?_eq_some_iff.mp hi).1
  have e2 : (ordL ps)[i]? = some n:=by rw [e,List.getElem?_append_left li]; exact hi
  have:=ydm e2
  lia
 have lr:=ybm o.rw
 have ap:=ap87 o.rw (by rw [List.length_map]; lia) (.str (rowS (pc87 ps n)))
 obtain ⟨h2,eh2⟩ : ∃ h2,h2 = h'.set (h.length + 1) (.lst (D.map (fun n=>AV.str (rowS (pc87 ps n)))++[.str (rowS (pc87 ps n))])):=⟨_,rfl⟩
 rw [<- eh2] at ap
 have d2 : h2[h.length]? = some (.dct false (D.map fun m : Nat=>(AV.int m,dg87 ps m))):=by rw [eh2,List.getElem?_set_ne (by lia)]; exact o.dc
 have r2 : h2[h.length + 1]? = some (.lst ((D++[n]).map fun n=>.str (rowS (pc87 ps n)))):=by rw [eh2,List.getElem?_set_self lr,List.map_append]; rfl
 have l2 : h2.length = h'.length:=by rw [eh2,List.length_set]
 refine ⟨h2,ap,?_,⟨fun i hi=>?_,?_,?_⟩⟩
 ·have ln : fLen [.ref (h.length + 1)] h2 = .ok (dg87 ps n) h2:=by
   have : (((D++[n]).map fun n=>AV.str (rowS (pc87 ps n))).length : Int) = ((sg87 ps n : Nat) : Int):=by rw [List.length_map,List.length_append,sk]; rfl
   simp only [fLen,r2]
   show Out.ok (AV.int (((D++[n]).map fun n=>AV.str (rowS (pc87 ps n))).length : Int)) h2 = _
   rw [this]; rfl
  have z : (D.map fun m : Nat=>(AV.int m,dg87 ps m)).length < sizeLine:=by rw [List.length_map]; exact Nat.lt_trans lD (by decide)
  have k1 : ybX false (.int n) = true:=rfl
  have pn:=zi6 (g:=dg87 ps) nD
  generalize dg87 ps n = V at *
  generalize (D.map fun m : Nat=>(AV.int m,dg87 ps m)) = KV at *
  generalize ((D++[n]).map fun m : Nat=>(AV.int m,dg87 ps m)) = KW at *
  simp [ln,d2,z,k1,pn,-fLen,-ybX]
 ·rw [List.getElem?_set_ne (by lia),eh2,List.getElem?_set_ne (by lia)]; exact o.fr i hi
 ·rw [List.getElem?_set_self (by lia)]
 ·rw [List.getElem?_set_ne (by lia)]; exact r2
end Sk
namespace Sk
open PySem PySem.Spec L2 Sm
theorem lf_E (x : Str) (n : Int) (o0 o1 o2 : Option AV) (h : AH) : yam (sOp2 fEq (sOp2 fIx (sVar 4) (sLit (.int 0))) (sLit (.str "leaf"))) [o0,o1,o2,some (.int n),some (Pc.av (.leaf x))] h = .ok true h:=yew x h
theorem lf_N (a b : Nat) (n : Int) (o0 o1 o2 : Option AV) (h : AH) : yam (sOp2 fEq (sOp2 fIx (sVar 4) (sLit (.int 0))) (sLit (.str "leaf"))) [o0,o1,o2,some (.int n),some (Pc.av (.fork a b))] h = .ok false h:=yex a b h
theorem fk_N (x : Str) (n : Int) (o0 o1 o2 : Option AV) (h : AH) : yam (sOp2 fEq (sOp2 fIx (sVar 4) (sLit (.int 0))) (sLit (.str "fork"))) [o0,o1,o2,some (.int n),some (Pc.av (.leaf x))] h = .ok false h:=by
 have n : ¬ ((Str.ofString "leaf") = (Str.ofString "fork")):=by decide +kernel
 simp [Pc.av,atI,ixN,toD,PyData.eqv,n]
theorem fk_E (a b : Nat) (n : Int) (o0 o1 o2 : Option AV) (h : AH) : yam (sOp2 fEq (sOp2 fIx (sVar 4) (sLit (.int 0))) (sLit (.str "fork"))) [o0,o1,o2,some (.int n),some (Pc.av (.fork a b))] h = .ok true h:=by
 simp [Pc.av,atI,ixN,toD,PyData.eqv]
abbrev eO (p L : Nat) (n b : Option AV) : En:=[some (.ref p),some (.ref L),some (.ref (L + 1)),n,b]
theorem oo_1 {ps : List Pc} {h h' : AH} {D : List Nat} {n p : Nat} (S : ShelfAt h p ps) (g : Good ps) (o : OI ps h h' D) (n1 : 1 <= n) (n2 : n <= ps.length) (hz : ps.length <= 30000) (hR : isLf ps n = true -> ∃ R,ordL ps = D++n :: R) (b : Option AV) :
  ∃ h2 b2,yaO (eO p h.length (some (.int n)) b) h' = .nx (eO p h.length (some (.int n)) b2) h2 /\ OI ps h h2 (if isLf ps n = true then D++[n] else D):=by
 have e : ps[n - 1]? = some (ps[n - 1]'(by lia)):=List.getElem?_eq_getElem _
 generalize ps[n - 1]'(by lia) = q at e
 have S' := o.sh S
 have fp:=zbd S' n1 e
 have ob:=S'.ob
 cases q with
 | leaf x =>
  have il : isLf ps n = true:=by unfold isLf; rw [e]
  have ep : pc87 ps n = .leaf x:=by unfold pc87; rw [zaz e]; rfl
  obtain ⟨R,eR⟩:=hR il
  obtain ⟨rk1,rk2⟩ : ydE (.leaf x):=zaM g hz e
  obtain ⟨r,ew⟩:=zcR rk2 h'
  have e3:=zcD rk2 (h' ++ r)
  obtain ⟨h2,q1,q2,q3⟩:=(o.app r).put (p:=p) eR hz (some (Pc.av (.leaf x)))
  rw [ep] at q1
  have ix : fIx (Pc.av (.leaf x)) (.int 1) h' = .ok (.str x) h' := rfl
  have e0:=lf_E x n (some (.ref p)) (some (.ref h.length)) (some (.ref (h.length + 1))) h'
  have il1:=il87 (o.app r).rw
  have il0:=il87 o.rw
  refine ⟨_,some (Pc.av (.leaf x)),?_,by rw [if_pos il]; exact q3⟩
  unfold yaO
  simp only [eO] at *
  generalize yam (sOp2 fEq (sOp2 fIx (sVar 4) (sLit (.int 0))) (sLit (.str "leaf"))) = T1 at *
  generalize ycs (sVar 1) (sVar 3) (yae fLen (yab (sVar 2) sNil)) = SX at *
  generalize ybp = G at *
  generalize yap = G2 at *
  generalize Pc.av (.leaf x) = Z at *
  generalize rowS (.leaf x) = RW at *
  generalize h2.set h.length (.dct false ((D++[n]).map fun m : Nat=>(AV.int m,dg87 ps m))) = H3 at *
  generalize h' ++ r = HR at *
  simp [e0,fp,ew,e3,ix,q1,q2,ob,il1,il0,-fIx,-fAdd,-yaD,-ya2]
 | fork a c =>
  have il : isLf ps n = false:=by unfold isLf; rw [e]
  have e0:=lf_N a c n (some (.ref p)) (some (.ref h.length)) (some (.ref (h.length + 1))) h'
  refine ⟨h',some (Pc.av (.fork a c)),?_,by rw [if_neg (by rw [il]; exact Bool.false_ne_true)]; exact o⟩
  unfold yaO
  simp only [eO] at *
  generalize yam (sOp2 fEq (sOp2 fIx (sVar 4) (sLit (.int 0))) (sLit (.str "leaf"))) = T1 at *
  generalize yap = G2 at *
  generalize Pc.av (.fork a c) = Z at *
  simp [e0,fp,ob]
theorem oo_2 {ps : List Pc} {h h' : AH} {D : List Nat} {n p : Nat} (S : ShelfAt h p ps) (g : Good ps) (o : OI ps h h' D) (n1 : 1 <= n) (n2 : n <= ps.length) (hz : ps.length <= 30000) (hR : isFk ps n = true -> ∃ R,ordL ps = D++n :: R) (b : Option AV) :
  ∃ h2 b2,yaP (eO p h.length (some (.int n)) b) h' = .nx (eO p h.length (some (.int n)) b2) h2 /\ OI ps h h2 (if isFk ps n = true then D++[n] else D):=by
 have e : ps[n - 1]? = some (ps[n - 1]'(by lia)):=List.getElem?_eq_getElem _
 generalize ps[n - 1]'(by lia) = q at e
 have S' := o.sh S
 have fp:=zbd S' n1 e
 have ob:=S'.ob
 cases q with
 | fork a c =>
  have il : isFk ps n = true:=by unfold isFk; rw [e]
  have ep : pc87 ps n = .fork (sg87 ps a) (sg87 ps c):=by unfold pc87; rw [zaz e]; rfl
  obtain ⟨R,eR⟩:=hR il
  have ek : (ordL ps)[D.length]? = some n:=by rw [eR]; simp
  have tD : (ordL ps).take D.length = D:=by rw [eR]; simp
  have ca:=yel g ek e (c:=a) (.inl rfl)
  have cc:=yel g ek e (c:=c) (.inr rfl)
  rw [tD] at ca cc
  have lg : ∀ m,m ∈ D -> sg87 ps m < 10 ^ 31:=fun m hm=>by
   obtain ⟨i,hi⟩:=List.getElem?_of_mem hm
   have li:=(List.getElem?_eq_some_iff.mp hi).1
   have:=ydm (ps:=ps) (k:=i) (n:=m) (by rw [eR,List.getElem?_append_left li]; exact hi)
   have ol:=zdh ps
   rw [eR,List.length_append] at ol
   have : (30002 : Nat) < 10 ^ 31:=by decide
   lia
  have ga:=lg a ca
  have gc:=lg c cc
  obtain ⟨_,_,a3⟩:=ycB _ ga
  obtain ⟨_,_,c3⟩:=ycB _ gc
  obtain ⟨f1,f2,f3⟩:=zcC ga gc h'
  obtain ⟨h2,q1,q2,q3⟩:=o.put (p:=p) eR hz (some (Pc.av (.fork a c)))
  rw [ep] at q1
  have i1 : fIx (Pc.av (.fork a c)) (.int 1) h' = .ok (.int a) h' := rfl
  have i2 : fIx (Pc.av (.fork a c)) (.int 2) h' = .ok (.int c) h' := rfl
  have k1 : ∀ m : Nat,ybX false (.int m) = true:=fun _=>rfl
  have d1 : fIx (.ref h.length) (.int a) h' = .ok (.int (sg87 ps a)) h' := by
   have:=yeP (g:=dg87 ps) ca
   simp only [fIx,o.dc,k1,if_true,this]; rfl
  have d2 : fIx (.ref h.length) (.int c) h' = .ok (.int (sg87 ps c)) h' := by
   have:=yeP (g:=dg87 ps) cc
   simp only [fIx,o.dc,k1,if_true,this]; rfl
  have e0:=fk_E a c n (some (.ref p)) (some (.ref h.length)) (some (.ref (h.length + 1))) h'
  have il0:=il87 o.rw
  refine ⟨_,some (Pc.av (.fork a c)),?_,by rw [if_pos il]; exact q3⟩
  unfold yaP
  simp only [eO] at *
  generalize yam (sOp2 fEq (sOp2 fIx (sVar 4) (sLit (.int 0))) (sLit (.str "fork"))) = T1 at *
  generalize ycs (sVar 1) (sVar 3) (yae fLen (yab (sVar 2) sNil)) = SX at *
  generalize ybk = G at *
  generalize yap = G2 at *
  generalize Pc.av (.fork a c) = Z at *
  generalize rowS (.fork (sg87 ps a) (sg87 ps c)) = RW at *
  generalize h2.set h.length (.dct false ((D++[n]).map fun m : Nat=>(AV.int m,dg87 ps m))) = H3 at *
  simp [e0,fp,i1,i2,d1,d2,a3,c3,f1,f2,f3,q1,q2,ob,il0,-fIx,-fAdd,-yaD,-ya2]
 | leaf x =>
  have il : isFk ps n = false:=by unfold isFk; rw [e]
  have e0:=fk_N x n (some (.ref p)) (some (.ref h.length)) (some (.ref (h.length + 1))) h'
  refine ⟨h',some (Pc.av (.leaf x)),?_,by rw [if_neg (by rw [il]; exact Bool.false_ne_true)]; exact o⟩
  unfold yaP
  simp only [eO] at *
  generalize yam (sOp2 fEq (sOp2 fIx (sVar 4) (sLit (.int 0))) (sLit (.str "fork"))) = T1 at *
  generalize yap = G2 at *
  generalize Pc.av (.leaf x) = Z at *
  simp [e0,fp,ob]
theorem zi7 {ps : List Pc} {h : AH} {p : Nat} (S : ShelfAt h p ps) (g : Good ps) (hz : ps.length <= 30000) : ∃ h',ybr [.ref p] h = .ok (.str (tx87 (ybe ps (ordL ps)))) h' /\ ∀ i,i < h.length -> h'[i]? = h[i]? := by
 obtain ⟨N,eN⟩ : ∃ N,N = ps.length:=⟨_,rfl⟩
 obtain ⟨H0,eH0⟩ : ∃ H : AH,H = h++[.dct false [],.lst []]:=⟨_,rfl⟩
 have o0 : OI ps h H0 []:=⟨fun i hi=>by rw [eH0,List.getElem?_append_left hi],by rw [eH0]; simp,by rw [eH0,List.getElem?_append_right (by lia),Nat.add_sub_cancel_left]; rfl⟩
 have fm0:=ybC (o0.sh S)
 have ob0:=(o0.sh S).ob
 obtain ⟨e',H1,lp1,D1,b1,n1,O1,w1,rfl⟩:=ych (w:=none) (all:=dnA (N : Int) 0) (t:=.nm 3) (b:=yaO) (xs:=dnA (N : Int) 0) (en:=eO p h.length none none) (h:=H0)
  (fun i en h' => ∃ (D : List Nat) (b n : Option AV),OI ps h h' D /\ D++dnL ps (N - i) = dnL ps N /\ en = eO p h.length n b)
  ⟨[],none,none,o0,rfl,rfl⟩ (fun _ _ _ _=>rfl) (by
   rintro j y en h' hx ⟨D,b,n,O,w,rfl⟩
   unfold dnA at hx
   rw [List.getElem?_map] at hx
   obtain ⟨m,hm,rfl⟩:=Option.map_eq_some_iff.mp hx
   have hm2:=List.getElem?_eq_some_iff.mp hm
   obtain ⟨lj,em⟩:=hm2
   rw [List.length_range] at lj
   rw [List.getElem_range] at em
   subst em
   have lj' : j < N:=by lia
   obtain ⟨k,ek⟩ : ∃ k,N - j = k + 1:=⟨N - j - 1,by lia⟩
   rw [ek,dnL] at w
   obtain ⟨h2,b2,q1,q2⟩:=oo_1 (n:=k + 1) S g O (by lia) (by lia) hz (fun il=>by
    rw [if_pos il] at w
    exact ⟨dnL ps k++upL ps ps.length,by unfold ordL; rw [<- eN,<- w]; simp⟩) b
   rw [show ((N : Int) - (j : Int)) = ((k + 1 : Nat) : Int) by lia]
   show thn (yaO (eO p h.length (some (.int ((k + 1 : Nat) : Int))) b) h') _
   rw [q1]
   refine ⟨_,_,_,q2,?_,rfl⟩
   rw [show N - (j + 1) = k by lia]
   by_cases il : isLf ps (k + 1) = true
   ·rw [if_pos il] at w ⊢; rw [<- w]; simp
   ·rw [if_neg il] at w ⊢; exact w)
 have ld : (dnA (N : Int) 0).length = N:=by unfold dnA; rw [List.length_map,List.length_range]; lia
 rw [ld,Nat.sub_self,show dnL ps 0 = [] from rfl,List.append_nil] at w1
 subst w1
 have it1 : yc0 (yaj 0 yai (sVar 0) sNil) (sLit (.int 0)) (sOp1 fNeg (sLit (.int 1))) (eO p h.length none none) H0 = .ok (dnA (N : Int) 0,none) H0:=by
  unfold yc0
  have m1 : yaj 0 yai (sVar 0) sNil (eO p h.length none none) H0 = .ok (.int (N : Int)) H0:=by
   rw [eN]
   generalize yai = G at *
   simp [fm0,ob0]
  rw [m1]
  show (if ((N : Int).natAbs < 2 ^ 40 /\ (0 : Int).natAbs < 2 ^ 40 /\ (-1 : Int) = -1) then _ else _) = _
  rw [if_pos ⟨by lia,by decide,rfl⟩]
 have f1:=(ybO (t:=.nm 3) (b:=yaO) it1).trans lp1
 have fm1:=ybC (O1.sh S)
 have ob1:=(O1.sh S).ob
 obtain ⟨e',H2,lp2,b2,n2,O2,rfl⟩:=ych (w:=none) (all:=yau 1 N) (t:=.nm 3) (b:=yaP) (xs:=yau 1 N) (en:=eO p h.length n1 b1) (h:=H1)
  (fun i en h' => ∃ (b n : Option AV),OI ps h h' (dnL ps N++upL ps i) /\ en = eO p h.length n b)
  ⟨b1,n1,by rw [show upL ps 0 = [] from rfl,List.append_nil]; exact O1,rfl⟩ (fun _ _ _ _=>rfl) (by
   rintro j y en h' hx ⟨b,n,O,rfl⟩
   rw [zar] at hx
   split at hx
   ·rename_i hj
    cases hx
    obtain ⟨h2,b2,q1,q2⟩:=oo_2 (n:=j + 1) S g O (by lia) (by lia) hz (fun il=>by
     have up : ∀ m,j + 1 <= m -> ∃ R,upL ps m = upL ps j++(j + 1) :: R:=fun m hm=>by
      induction m with
      | zero=>lia
      | succ m ih =>
       by_cases q : m = j
       ·subst q; exact ⟨[],by rw [upL,if_pos il]⟩
       ·obtain ⟨R,eR⟩:=ih (by lia)
        rw [upL,eR]; exact ⟨_,by rw [List.append_assoc]; rfl⟩
     obtain ⟨R,eR⟩:=up N (by lia)
     exact ⟨R,by unfold ordL; rw [<- eN,eR]; simp⟩) b
    rw [show (1 + (j : Int)) = ((j + 1 : Nat) : Int) by lia]
    show thn (yaP (eO p h.length (some (.int ((j + 1 : Nat) : Int))) b) h') _
    rw [q1]
    refine ⟨_,_,?_,rfl⟩
    rw [upL]
    by_cases il : isFk ps (j + 1) = true
    ·rw [if_pos il] at q2 ⊢; rw [<- List.append_assoc]; exact q2
    ·rw [if_neg il] at q2 ⊢; rw [List.append_nil]; exact q2
   ·cases hx)
 rw [zaC] at O2
 have it2 : yaX (sLit (.int 1)) (sOp2 fAdd (yaj 0 yai (sVar 0) sNil) (sLit (.int 1))) (eO p h.length n1 b1) H1 = .ok (yau 1 N,none) H1:=by
  refine za3 (i:=1) (j:=(N : Int) + 1) (h1:=H1) rfl ?_ (by lia) (by decide) (by lia)
  rw [eN]
  generalize yai = G at *
  simp [fm1,ob1]
 have f2:=(ybO (t:=.nm 3) (b:=yaP) it2).trans lp2
 have eo : dnL ps N++upL ps N = ordL ps:=by unfold ordL; rw [eN]
 rw [eo] at O2
 have jn:=yeM ((ybe ps (ordL ps)).map rowS) (by rw [List.length_map,zdi]; exact hz) (fun x hx=>by
  obtain ⟨q,hq,rfl⟩:=List.mem_map.mp hx
  obtain ⟨i,hi⟩:=List.getElem?_of_mem hq
  exact yda (zaM (zex g) (by rw [zdi]; exact hz) hi)) (.ref (h.length + 1)) H2 (by
   simp only [ybi,O2.rw,ybe,List.map_map]; rfl)
 refine ⟨H2,?_,O2.fr⟩
 clear lp1 lp2 it1 it2 O1 O2
 generalize hF1 : sFor (yc0 (yaj 0 yai (sVar 0) sNil) (sLit (.int 0)) (sOp1 fNeg (sLit (.int 1)))) (.nm 3) yaO = F1 at f1
 generalize hF2 : sFor (yaX (sLit (.int 1)) (sOp2 fAdd (yaj 0 yai (sVar 0) sNil) (sLit (.int 1)))) (.nm 3) yaP = F2 at f2
 unfold ybr
 rw [hF1,hF2]
 show _ = Out.ok (AV.str (Builtin.Str.glued (Str.ofString "\n") ((ybe ps (ordL ps)).map rowS))) H2
 generalize Builtin.Str.glued (Str.ofString "\n") ((ybe ps (ordL ps)).map rowS) = GL at *
 have hh : h++[AO.dct false []]++[.lst []] = H0:=by rw [eH0]; simp
 have ll : (h++[AO.dct false []]).length = h.length + 1:=by simp
 simp only [eO] at *
 simp [hh,ll,f1,f2,jn]
end Sk
namespace Sk
open PySem PySem.Spec L2 Sm
theorem zi8 (ns : List Int) (hl : ns.length <= 63) (h : AH) : ∃ (ps : List Pc) (h' : AH),ybc [.fl (ns.map AV.int)] h = .ok (.ref h.length) h' /\ ShelfAt h' h.length ps /\ Good ps /\ ps.length <= 300 /\ ∀ i,i < h.length -> h'[i]? = h[i]? := by
 obtain ⟨p,ep⟩ : ∃ p,p = h.length:=⟨_,rfl⟩
 have mk:=yfx [some (.fl (ns.map AV.int)),none,none,none] h
 have S0 : ShelfAt (h++ydC h.length) h.length []:=by have:=yfz h []; simpa using this
 rw [<- ep] at mk S0 ⊢
 obtain ⟨H0,eH0⟩ : ∃ H,H = h++ydC p:=⟨_,rfl⟩
 have l0 : H0.length = p + 9:=by rw [eH0,List.length_append,<- ep]; rfl
 rw [<- eH0] at mk S0
 obtain ⟨N0,es0⟩:=zcz ns hl 0 (by decide) H0
 rw [l0] at es0
 obtain ⟨H1,eH1⟩ : ∃ H,H = H0++[AO.lst [.int N0]]:=⟨_,rfl⟩
 have S1 : ShelfAt H1 p []:=eH1 ▸ S0.app _
 have r1 : ∃ N : Int,H1[p + 9]? = some (.lst [.int N]):=⟨N0,by rw [eH1,<- l0]; simp⟩
 rw [<- eH1] at es0
 have hr : p + 9 < p \/ p + 8 < p + 9:=.inr (by lia)
 obtain ⟨v,H2,hv,ed,W1⟩:=zas S1 Good.nil r1 hr 4 (by decide) (by decide)
 have ed' : yah [.ref (p + 9),.int 4] H1 = .ok (.int v) H2:=ed
 obtain ⟨e',H3,lp,ps3,o3,W3,b3,rfl⟩:=ych (w:=none) (all:=yau 0 v) (t:=.nm 3) (b:=yaU) (xs:=yau 0 v) (en:=[some (.fl (ns.map AV.int)),some (.ref p),some (.ref (p + 9)),none]) (h:=H2)
  (fun i en h' => ∃ (ps : List Pc) (o : Option AV),Wk p (p + 9) H2 h' [] ps (32 * i) /\ ps.length <= 32 * i /\ en = [some (.fl (ns.map AV.int)),some (.ref p),some (.ref (p + 9)),o])
  ⟨[],none,Wk.refl W1.sh W1.gd W1.row,by simp,rfl⟩ (fun _ _ _ _=>rfl) (by
   rintro j y en h' hx ⟨ps,o,W,hb,rfl⟩
   rw [zar] at hx
   split at hx
   ·rename_i hj
    cases hx
    obtain ⟨n,y,ps',h2,et,Wt,_,_⟩:=yhm W.sh W.gd W.row hr 4 (by decide) (by lia)
    have et' : ybR [.ref p,.ref (p + 9),.int 4] h' = .ok (.tup [.int n,.str y]) h2:=et
    have e : yaU [some (.fl (ns.map AV.int)),some (.ref p),some (.ref (p + 9)),some (.int (0 + (j : Int)))] h' = .nx [some (.fl (ns.map AV.int)),some (.ref p),some (.ref (p + 9)),some (.int (0 + (j : Int)))] h2:=by
     unfold yaU
     generalize ybR = G at et' ⊢
     generalize ns.map AV.int = Z at *
     simp [et']
    show thn (yaU [some (.fl (ns.map AV.int)),some (.ref p),some (.ref (p + 9)),some (.int (0 + (j : Int)))] h') _
    rw [e]
    have:=Wt.len
    exact ⟨ps',_,W.trans Wt (by lia),by lia,rfl⟩
   ·cases hx)
 rw [zaC] at W3 b3
 have f1:=(ybO (t:=.nm 3) (b:=yaU) (za2 (a:=yae yah (yab (sVar 2) (yab (sLit (.int 4)) sNil))) (en:=[some (.fl (ns.map AV.int)),some (.ref p),some (.ref (p + 9)),none]) (h:=H1) (h1:=H2) (n:=v) (by
  generalize yah = G at *
  generalize ns.map AV.int = Z at *
  simp [ed']) (by lia))).trans lp
 obtain ⟨w,H4,hw,ed2,W4⟩:=zas W3.sh W3.gd W3.row hr 3 (by decide) (by decide)
 have ed2' : yah [.ref (p + 9),.int 3] H3 = .ok (.int w) H4:=ed2
 have fr4 : ∀ i,i < p -> H4[i]? = h[i]? := fun i hi=>by
  rw [W4.fr i (.inl (by lia)) (by lia),W3.fr i (.inl (by lia)) (by lia),W1.fr i (.inl (by lia)) (by lia),eH1,List.getElem?_append_left (by lia),eH0,List.getElem?_append_left (by lia)]
 generalize hF : sFor (yaW (yae yah (yab (sVar 2) (yab (sLit (.int 4)) sNil)))) (.nm 3) yaU = F1 at f1
 have es0' : yaQ [.fl (ns.map AV.int),.int 0] H0 = .ok (.ref (p + 9)) H1:=es0
 by_cases hw0 : w = 0
 ·subst hw0
  obtain ⟨N1,es1⟩:=zcz ns hl 1 (by decide) H4
  obtain ⟨r2,er2⟩ : ∃ r,r = H4.length:=⟨_,rfl⟩
  have lt4 : p + 8 < H4.length:=ybm W4.sh.h8
  obtain ⟨H5,eH5⟩ : ∃ H,H = H4++[AO.lst [.int N1]]:=⟨_,rfl⟩
  have S5 : ShelfAt H5 p ps3:=eH5 ▸ W4.sh.app _
  have r5 : ∃ N : Int,H5[r2]? = some (.lst [.int N]):=⟨N1,by rw [eH5,er2]; simp⟩
  rw [<- eH5,<- er2] at es1
  obtain ⟨n,y,k,ps6,H6,m,f,l,x,el,W6,_⟩:=yhn S5 W4.gd r5 (.inr (by lia)) (by lia)
  have es1' : yaQ [.fl (ns.map AV.int),.int 1] H4 = .ok (.ref r2) H5:=es1
  have f4:=fr4
  refine ⟨ps6,H6,?_,W6.sh,W6.gd,by have:=W6.len; lia,fun i hi=>by
   rw [W6.fr i (.inl (by lia)) (by lia),eH5,List.getElem?_append_left (by lia)]
   exact f4 i hi⟩
  unfold ybc
  rw [hF]
  generalize ydj 0 8 ya7 sNil = MK at *
  generalize yaQ = G1 at *
  generalize yah = G2 at *
  generalize ycz = G3 at *
  generalize ns.map AV.int = Z at *
  simp [mk,es0',f1,ed2',es1',el,toD,PyData.eqv]
 ·refine ⟨ps3,H4,?_,W4.sh,W4.gd,by lia,fr4⟩
  have wne : ¬ ((w : Int) = 0):=by lia
  unfold ybc
  rw [hF]
  generalize ydj 0 8 ya7 sNil = MK at *
  generalize yaQ = G1 at *
  generalize yah = G2 at *
  generalize ns.map AV.int = Z at *
  simp [mk,es0',f1,ed2',toD,PyData.eqv,wne,hw0]
theorem zgZ {a : Nat} (h1 : 10000000 <= a) (h2 : a < 100000000) : (strI a).length <= 8 /\ yaF (strI a) = true:=by
 have sg : (strI a).cps.toList = (Nat.toDigits 10 a).map Char.toNat:=PySem.W.KIN.signs_num a
 obtain ⟨_,dg,_⟩:=ydZ (a:=a) (by lia) (by lia)
 refine ⟨?_,?_⟩
 ·rw [zac,sg,List.length_map]
  exact PySem.toDigits_len_pow (k:=8) (by decide) (by decide) h2
 ·unfold yaF
  rw [List.all_eq_true]
  intro c hc
  obtain ⟨a1,a2⟩:=dg c hc
  simp only [ybV,Bool.or_eq_true,Bool.and_eq_true,decide_eq_true_eq]
  lia
theorem zey : ∀ (l : List Str),(∀ x ∈ l,x.length <= 8 /\ yaF x = true) -> ((l.map fun x : Str=>x.cps.toList).flatten).length <= 8 * l.length /\ ∀ c ∈ (l.map fun x : Str=>x.cps.toList).flatten,ybV c = true
 | [],_=>⟨by simp,fun c hc=>by simp at hc⟩
 | x :: l,h=>by
  obtain ⟨a,b⟩:=zey l fun y hy=>h y (List.mem_cons_of_mem _ hy)
  obtain ⟨c,d⟩:=h x (List.mem_cons_self ..)
  rw [List.map_cons,List.flatten_cons,List.length_append,List.length_cons]
  refine ⟨by rw [<- zac]; lia,fun e he=>?_⟩
  rcases List.mem_append.mp he with he | he
  ·exact List.all_eq_true.mp d e he
  ·exact b e he
theorem yhs {far : Nat} (hf : far < 1000000) (o0 o1 o2 o3 o5 o6 o7 o8 o9 o10 o11 o12 : Option AV) (h : AH) : ∃ x : Str,x.length <= 10000 /\ yaF x = true /\
  sBM ybj ybD (sLit (.str "")) (yab (ya1 [4] (yaW (sLit (.int 1250))) sYes (yae ybk (yab (sOp2 fAdd (sOp2 fAdd (sOp2 fPow (sLit (.int 10)) (sLit (.int 7))) (sOp2 fMul (sLit (.int 7919)) (sVar 0))) (sVar 1)) sNil))) sNil) [o0,o1,o2,o3,some (.int far),o5,o6,o7,o8,o9,o10,o11,o12] h = .ok (.str x) h:=by
 have rg : yau 0 1250 = (List.range 1250).map fun j : Nat=>AV.int (j : Int):=by
  apply List.ext_getElem?
  intro i
  by_cases hi : i < 1250
  ·rw [zar,if_pos hi,List.getElem?_map,List.getElem?_range hi]; simp
  ·rw [zar,if_neg hi,List.getElem?_map,List.getElem?_eq_none (by simp; lia)]; rfl
 obtain ⟨en,een⟩ : ∃ en : En,en = [o0,o1,o2,o3,some (.int far),o5,o6,o7,o8,o9,o10,o11,o12]:=⟨_,rfl⟩
 have e4 : ([4] : List Nat).map (fun j=>(en[j]?).join) = [some (.int far)]:=by rw [een]; rfl
 have num : ∀ j < 1250,10000000 <= 10000000 + 7919 * j + far /\ 10000000 + 7919 * j + far < 100000000:=fun j hj=>by lia
 have cm:=zcu (js:=[4]) (en:=en) (w:=none) (all:=yau 0 1250) (e:=yae ybk (yab (sOp2 fAdd (sOp2 fAdd (sOp2 fPow (sLit (.int 10)) (sLit (.int 7))) (sOp2 fMul (sLit (.int 7919)) (sVar 0))) (sVar 1)) sNil)) (g:=fun j : Nat=>AV.int (j : Int)) (f:=fun j : Nat=>AV.str (strI (10000000 + 7919 * j + far))) (h:=h) rfl (List.range 1250) [] (by
  intro j hj
  have hj' : j < 1250:=List.mem_range.mp hj
  obtain ⟨n1,n2⟩:=num j hj'
  obtain ⟨_,_,d3⟩:=ycB (10000000 + 7919 * j + far) (Nat.lt_trans n2 (by decide))
  rw [e4]
  have p1 : fPow (.int 10) (.int 7) h = .ok (.int 10000000) h:=by simp
  have p2 : fMul (.int 7919) (.int (j : Int)) h = .ok (.int (7919 * (j : Int))) h:=by
   have : (7919 : Int).natAbs < 2 ^ 200:=by decide
   simp
  have p3 : fAdd (.int (10000000 + 7919 * (j : Int))) (.int (far : Int)) h = .ok (.int ((10000000 + 7919 * j + far : Nat) : Int)) h:=by
   simp
  have p4 : fAdd (.int 10000000) (.int (7919 * (j : Int))) h = .ok (.int (10000000 + 7919 * (j : Int))) h:=rfl
  have d4:=d3 h
  generalize ybk = G at *
  generalize ((10000000 + 7919 * j + far : Nat) : Int) = N at *
  simp [p1,p2,p3,p4,d4,-fPow,-fMul,-fAdd]) (by rw [List.length_range]; exact Nat.le_trans (m:=1250) (by simp) (by decide))
 rw [List.nil_append,<- rg] at cm
 obtain ⟨L,eL87⟩ : ∃ L : List Str,L = (List.range 1250).map fun j : Nat=>strI (10000000 + 7919 * j + far):=⟨_,rfl⟩
 have em : ((List.range 1250).map fun j : Nat=>AV.str (strI (10000000 + 7919 * j + far))) = L.map AV.str:=by rw [eL87,List.map_map]; rfl
 rw [em] at cm
 have lL : L.length = 1250:=by rw [eL87,List.length_map,List.length_range]
 obtain ⟨s1,s2⟩:=zey L fun x hx=>by
  rw [eL87] at hx
  obtain ⟨j,hj,rfl⟩:=List.mem_map.mp hx
  obtain ⟨n1,n2⟩:=num j (List.mem_range.mp hj)
  exact zgZ n1 n2
 rw [lL] at s1
 obtain ⟨X,eX⟩ : ∃ X,X = (L.map fun x : Str=>x.cps.toList).flatten:=⟨_,rfl⟩
 rw [<- eX] at s1 s2
 have jn : ybD (.str "") [.fl (L.map AV.str)] h = .ok (.str ⟨X.toArray⟩) h:=by
  have z : (Str.ofString "") = Str.empty:=by decide +kernel
  simp only [ybD,z,if_true,ybi,yeN]
  rw [<- eX,if_pos (by lia)]
 have r1 : yaW (sLit (.int 1250)) en h = .ok (yau 0 1250,none) h:=za2 (n:=1250) rfl (by decide)
 have cp : ya1 [4] (yaW (sLit (.int 1250))) sYes (yae ybk (yab (sOp2 fAdd (sOp2 fAdd (sOp2 fPow (sLit (.int 10)) (sLit (.int 7))) (sOp2 fMul (sLit (.int 7919)) (sVar 0))) (sVar 1)) sNil)) en h = .ok (.fl (L.map AV.str)) h:=by
  generalize yae ybk (yab (sOp2 fAdd (sOp2 fAdd (sOp2 fPow (sLit (.int 10)) (sLit (.int 7))) (sOp2 fMul (sLit (.int 7919)) (sVar 0))) (sVar 1)) sNil) = EL at *
  generalize yaW (sLit (.int 1250)) = IT at *
  simp only [ya1,r1,cm]
 refine ⟨⟨X.toArray⟩,?_,?_,?_⟩
 ·show X.toArray.size <= _; rw [List.size_toArray]; exact s1
 ·unfold yaF; rw [List.all_eq_true,List.toList_toArray]; exact s2
 ·rw [<- een]
  generalize ya1 [4] (yaW (sLit (.int 1250))) sYes (yae ybk (yab (sOp2 fAdd (sOp2 fAdd (sOp2 fPow (sLit (.int 10)) (sLit (.int 7))) (sOp2 fMul (sLit (.int 7919)) (sVar 0))) (sVar 1)) sNil)) = CP at *
  generalize L.map AV.str = LV at *
  simp [cp,jn,-ybD]
end Sk
namespace Sk
open PySem PySem.Spec L2 Sm
theorem ybG {h h' : AH} {p n : Nat} {ps : List Pc} (S : ShelfAt h p ps) (e : ∀ i,i < n -> h'[i]? = h[i]?) (hn : p + 8 < n) : ShelfAt h' p ps:=S.keep fun i _ b=>e i (by lia)
abbrev IF87 : SS:=sIf (yam (sOp2 fEq (yae yah (yab (sVar 3) (yab (sLit (.int 8)) sNil))) (sLit (.int 0)))) (sSeq (sSet 4 (yae yah (yab (sVar 3) (yab (sOp2 fPow (sLit (.int 10)) (sLit (.int 6))) sNil))))
  (yaG (yae yco (yab (sVar 2) (yab (sBM ybj ybD (sLit (.str "")) (yab (ya1 [4] (yaW (sLit (.int 1250))) sYes (yae ybk (yab (sOp2 fAdd (sOp2 fAdd (sOp2 fPow (sLit (.int 10)) (sLit (.int 7))) (sOp2 fMul (sLit (.int 7919)) (sVar 0))) (sVar 1)) sNil))) sNil)) sNil))))) yaA
theorem yht {h : AH} {p r : Nat} {ps : List Pc} (S : ShelfAt h p ps) (g : Good ps) (e : ∃ N : Int,h[r]? = some (.lst [.int N])) (hr : p + 8 < r) (hz : ps.length <= 300) (o0 o1 : Option AV) :
  ∃ (ps' : List Pc) (h' : AH) (o4 : Option AV),IF87 [o0,o1,some (.ref p),some (.ref r),none,none,none,none,none,none,none,none,none] h = .nx [o0,o1,some (.ref p),some (.ref r),o4,none,none,none,none,none,none,none,none] h' /\ ShelfAt h' p ps' /\ Good ps' /\ ps'.length <= 20300 /\ (∀ i,i < p -> h'[i]? = h[i]?):=by
 obtain ⟨v,h1,hv,ed,W⟩:=zas S g e (.inr hr) 8 (by decide) (by decide)
 have ed' : yah [.ref r,.int 8] h = .ok (.int v) h1:=ed
 by_cases v0 : v = 0
 ·subst v0
  obtain ⟨far,h2,hf,ed2,W2⟩:=zas W.sh W.gd W.row (.inr hr) 1000000 (by decide) (by decide)
  have ed2' : yah [.ref r,.int 1000000] h1 = .ok (.int far) h2:=ed2
  obtain ⟨x,x1,x2,ex⟩:=yhs hf o0 o1 (some (.ref p)) (some (.ref r)) none none none none none none none none h2
  obtain ⟨n,ps3,h3,eb,D,_⟩:=zi2 W2.sh W2.gd x2 x1 (by lia)
  have pw : ∀ hh,fPow (.int 10) (.int 6) hh = .ok (.int 1000000) hh:=fun hh=>by simp
  refine ⟨ps3,h3,some (.int far),?_,D.sh,D.gd,by have:=D.len; lia,fun i hi=>?_⟩
  ·unfold IF87
   generalize sBM ybj ybD (sLit (.str "")) (yab (ya1 [4] (yaW (sLit (.int 1250))) sYes (yae ybk (yab (sOp2 fAdd (sOp2 fAdd (sOp2 fPow (sLit (.int 10)) (sLit (.int 7))) (sOp2 fMul (sLit (.int 7919)) (sVar 0))) (sVar 1)) sNil))) sNil) = JN at *
   generalize yah = G1 at *
   generalize yco = G2 at *
   simp [ed',ed2',ex,eb,pw,toD,PyData.eqv,-fPow]
  ·rw [D.fr i (.inl (by lia)),W2.fr i (.inl (by lia)) (by lia),W.fr i (.inl (by lia)) (by lia)]
 ·have wne : ¬ ((v : Int) = 0):=by lia
  refine ⟨ps,h1,none,?_,W.sh,W.gd,by lia,fun i hi=>W.fr i (.inl (by lia)) (by lia)⟩
  unfold IF87
  generalize yah = G1 at *
  generalize yco = G2 at *
  simp [ed',wne,toD,PyData.eqv,v0]
abbrev eL87 (v : Fin 9 -> Option AV) (p q : Nat) (n b c : Option AV) : En:=[v 0,v 1,some (.ref p),v 2,v 3,v 4,v 5,some (.ref q),n,b,c,v 6,v 7]
theorem zi9 {h : AH} {p q : Nat} {ps : List Pc} {j : Nat} (S : ShelfAt h p ps) (S2 : ShelfAt h q ps) (g : Good ps) (hj : j < ps.length) (v : Fin 9 -> Option AV) (b c : Option AV) :
  ∃ b2,yca (eL87 v p q (some (.int ((j + 1 : Nat) : Int))) b c) h = .nx (eL87 v p q (some (.int ((j + 1 : Nat) : Int))) b2 c) h:=by
 have e : ps[j]? = some ps[j]:=List.getElem?_eq_getElem hj
 generalize ps[j] = k at e
 have fp:=zbd (n:=j + 1) S (by lia) e
 have ob:=S.ob; have ob2:=S2.ob
 have nn:=ne_n ((j + 1 : Nat) : Int) h
 cases k with
 | leaf x =>
  have hx : ya6 x = true:=g.get e
  have fo:=zaR S2 g.nodup hx (Nat.le_trans (zaP hx).2.1 (by decide)) e
  have t1 : yam (sOp2 fEq (sOp2 fIx (sVar 9) (sLit (.int 0))) (sLit (.str "leaf"))) (eL87 v p q (some (.int ((j + 1 : Nat) : Int))) (some (Pc.av (.leaf x))) c) h = .ok true h:=yew x h
  have t2 : yam (sOp2 fEq (sOp2 fIx (sVar 9) (sLit (.int 0))) (sLit (.str "fork"))) (eL87 v p q (some (.int ((j + 1 : Nat) : Int))) (some (Pc.av (.leaf x))) c) h = .ok false h:=fk_N x 0 none none none h
  have ix : fIx (Pc.av (.leaf x)) (.int 1) h = .ok (.str x) h:=rfl
  refine ⟨some (Pc.av (.leaf x)),?_⟩
  unfold yca
  simp only [eL87] at *
  generalize yam (sOp2 fEq (sOp2 fIx (sVar 9) (sLit (.int 0))) (sLit (.str "leaf"))) = T1 at *
  generalize yam (sOp2 fEq (sOp2 fIx (sVar 9) (sLit (.int 0))) (sLit (.str "fork"))) = T2 at *
  generalize yap = G1 at *
  generalize yat = G2 at *
  generalize yaC = G3 at *
  generalize Pc.av (.leaf x) = Z at *
  generalize ((j + 1 : Nat) : Int) = N at *
  simp [fp,t1,t2,ix,fo,nn,ob,ob2,-fIx,-fNe]
 | fork a d =>
  have F : ForkOk ps a d:=ForkOk.pre (g.get e) (zcx ps j)
  have fo:=zaS S2 g.nodup F e
  have t1 : yam (sOp2 fEq (sOp2 fIx (sVar 9) (sLit (.int 0))) (sLit (.str "leaf"))) (eL87 v p q (some (.int ((j + 1 : Nat) : Int))) (some (Pc.av (.fork a d))) c) h = .ok false h:=yex a d h
  have t2 : yam (sOp2 fEq (sOp2 fIx (sVar 9) (sLit (.int 0))) (sLit (.str "fork"))) (eL87 v p q (some (.int ((j + 1 : Nat) : Int))) (some (Pc.av (.fork a d))) c) h = .ok true h:=fk_E a d 0 none none none h
  have i1 : fIx (Pc.av (.fork a d)) (.int 1) h = .ok (.int a) h:=rfl
  have i2 : fIx (Pc.av (.fork a d)) (.int 2) h = .ok (.int d) h:=rfl
  refine ⟨some (Pc.av (.fork a d)),?_⟩
  unfold yca
  simp only [eL87] at *
  generalize yam (sOp2 fEq (sOp2 fIx (sVar 9) (sLit (.int 0))) (sLit (.str "leaf"))) = T1 at *
  generalize yam (sOp2 fEq (sOp2 fIx (sVar 9) (sLit (.int 0))) (sLit (.str "fork"))) = T2 at *
  generalize yap = G1 at *
  generalize yat = G2 at *
  generalize yaC = G3 at *
  generalize Pc.av (.fork a d) = Z at *
  generalize ((j + 1 : Nat) : Int) = N at *
  simp [fp,t1,t2,i1,i2,fo,nn,ob,ob2,-fIx,-fNe]
theorem yhu {h : AH} {p q : Nat} {ps : List Pc} (S : ShelfAt h p ps) (S2 : ShelfAt h q ps) (g : Good ps) (hz : ps.length <= 30000) (v : Fin 9 -> Option AV) (ev : v 5 = some (.int ps.length)) (n b c : Option AV) :
  ∃ n2 b2,sFor (yaX (sLit (.int 1)) (sOp2 fAdd (sVar 6) (sLit (.int 1)))) (.nm 8) yca (eL87 v p q n b c) h = .nx (eL87 v p q n2 b2 c) h:=by
 obtain ⟨e',H1,lp,n2,b2,eH,rfl⟩:=ych (w:=none) (all:=yau 1 ps.length) (t:=.nm 8) (b:=yca) (xs:=yau 1 ps.length) (en:=eL87 v p q n b c) (h:=h)
  (fun i en h' => ∃ (n b : Option AV),h' = h /\ en = eL87 v p q n b c) ⟨n,b,rfl,rfl⟩ (fun _ _ _ _=>rfl) (by
   rintro j y en h' hx ⟨n,b,eh,rfl⟩
   rw [eh]
   rw [zar] at hx
   split at hx
   ·rename_i hj
    cases hx
    obtain ⟨b2,e⟩:=zi9 S S2 g hj v b c
    rw [show (1 + (j : Int)) = ((j + 1 : Nat) : Int) by lia]
    show thn (yca (eL87 v p q (some (.int ((j + 1 : Nat) : Int))) b c) h) _
    rw [e]
    exact ⟨_,_,rfl,rfl⟩
   ·cases hx)
 rw [eH] at lp
 have r2 : yaX (sLit (.int 1)) (sOp2 fAdd (sVar 6) (sLit (.int 1))) (eL87 v p q n b c) h = .ok (yau 1 ps.length,none) h:=by
  refine za3 (i:=1) (j:=(ps.length : Int) + 1) (h1:=h) rfl ?_ (by lia) (by decide) (by lia)
  have : (eL87 v p q n b c)[6]? = some (some (.int ps.length)):=by rw [<- ev]; rfl
  generalize eL87 v p q n b c = EN at *
  simp only [sOp2,sVar,this,sLit,Out.bind]; rfl
 exact ⟨n2,b2,(ybO (t:=.nm 8) (b:=yca) r2).trans lp⟩
theorem sv4 : ∀ x ∈ ([Str.ofString "\\n",Str.ofString "\\\n",Str.ofString "n\\",Str.ofString "\\\\n"] : List Str),ya6 x = true:=by decide +kernel
theorem yhv {h : AH} {p q : Nat} {ps : List Pc} (S2 : ShelfAt h q ps) (g : Good ps) (hz : ps.length <= 20301) (v : Fin 9 -> Option AV) (n b c : Option AV) :
  ∃ (ps' : List Pc) (h' : AH) (c2 : Option AV),sFor (iVal (sLst (yab (sLit (.str "\\n")) (yab (sLit (.str "\\\n")) (yab (sLit (.str "n\\")) (yab (sLit (.str "\\\\n")) sNil)))))) (.nm 10) ycp (eL87 v p q n b c) h = .nx (eL87 v p q n b c2) h' /\ Dd q h h' ps ps' 4:=by
 obtain ⟨XS,eXS⟩ : ∃ XS : List Str,XS = [Str.ofString "\\n",Str.ofString "\\\n",Str.ofString "n\\",Str.ofString "\\\\n"]:=⟨_,rfl⟩
 have hX:=sv4
 rw [<- eXS] at hX
 obtain ⟨e',H1,lp,ps',c2,D,rfl⟩:=ych (w:=none) (all:=XS.map AV.str) (t:=.nm 10) (b:=ycp) (xs:=XS.map AV.str) (en:=eL87 v p q n b c) (h:=h)
  (fun i en h' => ∃ (ps' : List Pc) (c : Option AV),Dd q h h' ps ps' i /\ en = eL87 v p q n b c) ⟨ps,c,Dd.refl S2 g,rfl⟩ (fun _ _ _ _=>rfl) (by
   rintro j y en h' hx ⟨ps',c,D,rfl⟩
   have hj:=(List.getElem?_eq_some_iff.mp hx).1
   rw [List.length_map,eXS] at hj
   have hj4 : j < 4:=hj
   rw [List.getElem?_map] at hx
   obtain ⟨x,hx',rfl⟩:=Option.map_eq_some_iff.mp hx
   have dl:=D.len
   obtain ⟨m,ps2,h2,el,D2,_⟩:=zbS D.sh D.gd (hX x (List.mem_of_getElem? hx')) (by lia)
   have ob:=D.sh.ob
   have e : ycp (eL87 v p q n b (some (.str x))) h' = .nx (eL87 v p q n b (some (.str x))) h2:=by
    unfold ycp
    generalize yat = G at el ⊢
    simp [eL87,el,ob]
   show thn (ycp (eL87 v p q n b (some (.str x))) h') _
   rw [e]
   exact ⟨ps2,_,D.trans D2 (Nat.le_refl _),rfl⟩)
 rw [List.length_map] at D
 have l4 : XS.length = 4:=by rw [eXS]; rfl
 rw [l4] at D
 have it : iVal (sLst (yab (sLit (.str "\\n")) (yab (sLit (.str "\\\n")) (yab (sLit (.str "n\\")) (yab (sLit (.str "\\\\n")) sNil))))) (eL87 v p q n b c) h = .ok (XS.map AV.str,none) h:=by rw [eXS]; rfl
 exact ⟨ps',H1,c2,(ybO (t:=.nm 10) (b:=ycp) it).trans lp,D⟩
end Sk
namespace Sk
open PySem PySem.Spec L2 Sm
theorem law_true (ns : List Int) (hl : ns.length <= 63) : ∃ h',ye5 [.fl (ns.map AV.int)] [] = .ok (.bl true) h' := by
 obtain ⟨H0,r0,SE0,_⟩:=ydR Good.nil (by decide) []
 have t0 : tx87 [] = Str.ofString "" := by decide +kernel
 rw [t0,show ([] : AH).length = 0 from rfl] at r0
 rw [show ([] : AH).length = 0 from rfl] at SE0
 have L0:=ybm SE0.h8
 have me0:=ybC SE0
 have obe0:=SE0.ob
 obtain ⟨ps0,H1,ed,S1,g1,z1,fr1⟩:=zi8 ns hl H0
 obtain ⟨p,ep⟩ : ∃ p,p = H0.length:=⟨_,rfl⟩
 rw [<- ep] at ed S1 fr1 L0
 have SE1:=ybG SE0 fr1 L0
 have L1:=ybm S1.h8
 obtain ⟨N4,es⟩:=zcz ns hl 4 (by decide) H1
 obtain ⟨r,er⟩ : ∃ r,r = H1.length:=⟨_,rfl⟩
 obtain ⟨H2,eH2⟩ : ∃ H,H = H1++[AO.lst [.int N4]]:=⟨_,rfl⟩
 rw [<- eH2,<- er] at es
 have es' : yaQ [.fl (ns.map AV.int),.int 4] H1 = .ok (.ref r) H2:=es
 have S2 : ShelfAt H2 p ps0:=eH2 ▸ S1.app _
 have SE2 : ShelfAt H2 0 []:=eH2 ▸ SE1.app _
 have r2 : ∃ N : Int,H2[r]? = some (.lst [.int N]):=⟨N4,by rw [eH2,er]; simp⟩
 obtain ⟨ps,H3,o4,e3,S3,g,z3,fr3⟩:=yht S2 g1 r2 (by lia) z1 (some (.fl (ns.map AV.int))) (some (.ref 0))
 have SE3:=ybG SE2 fr3 L0
 have L3:=ybm S3.h8
 have tx:=zbr S3 g (by lia)
 obtain ⟨r4,lt4⟩:=zfx S3 g (by lia)
 have S4:=S3.app r4
 have SE4:=SE3.app r4
 obtain ⟨H4,eH4⟩ : ∃ H,H = H3++r4:=⟨_,rfl⟩
 rw [<- eH4] at lt4 S4 SE4
 have L4:=ybm S4.h8
 have ob4:=S4.ob
 have m4:=ybC S4
 obtain ⟨H5,r5,F5,fr5⟩:=ydR g (by lia) H4
 obtain ⟨q,eq⟩ : ∃ q,q = H4.length:=⟨_,rfl⟩
 rw [<- eq] at r5 F5 fr5 L4
 have S5:=ybG S4 fr5 L4
 have SE5:=ybG SE4 fr5 (by lia)
 have sm5:=yfJ S5 F5 (by lia)
 have tx5:=zbr F5 g (by lia)
 have ob5:=F5.ob
 obtain ⟨n6,b6,lp1⟩:=yhu S5 F5 g (by lia) (fun i=>match i with
  | 0=>some (.fl (ns.map AV.int))
  | 1=>some (.ref 0)
  | 2=>some (.ref r)
  | 3=>o4
  | 4=>some (.str (tx87 ps))
  | 5=>some (.int ps.length)
  | _=>none) rfl none none none
 obtain ⟨_,psk,H6,lk,Dk,_⟩:=zbS (x:=Str.ofString "kx") F5 g (by decide +kernel) (by lia)
 have dk:=Dk.len
 obtain ⟨ps7,H7,c7,lp2,D7⟩:=yhv (p:=p) Dk.sh Dk.gd (by lia) (fun i=>match i with
  | 0=>some (.fl (ns.map AV.int))
  | 1=>some (.ref 0)
  | 2=>some (.ref r)
  | 3=>o4
  | 4=>some (.str (tx87 ps))
  | 5=>some (.int ps.length)
  | _=>none) n6 b6 none
 have d7:=D7.len
 have fr7 : ∀ i,i < q -> H7[i]? = H5[i]? := fun i hi=>by rw [D7.fr i (.inl (by lia)),Dk.fr i (.inl (by lia))]
 have S7:=ybG S5 fr7 L4
 have SE7:=ybG SE5 fr7 (by lia)
 have F7:=D7.sh
 have g7:=D7.gd
 have L7:=ybm F7.h8
 have tx7:=zbr F7 g7 (by lia)
 obtain ⟨H8,r8,T8,fr8⟩:=ydR g7 (by lia) H7
 have S8:=ybG S7 fr8 (by lia)
 have SE8:=ybG SE7 fr8 (by lia)
 have F8:=ybG F7 fr8 L7
 have m8:=ybC T8
 have mf8:=ybC F8
 have obt8:=T8.ob
 have obf8:=F8.ob
 have tx8:=zbr F8 g7 (by lia)
 have L8 : H7.length + 8 < H8.length:=ybm T8.h8
 obtain ⟨H9,r9,T9,fr9⟩:=ydR g7 (by lia) H8
 have S9:=ybG S8 fr9 (by lia)
 have SE9:=ybG SE8 fr9 (by lia)
 have F9:=ybG F8 fr9 (by lia)
 have sm9:=yfJ F9 T9 (by lia)
 have m9:=ybC S9
 have ob9:=S9.ob
 obtain ⟨r10,lt9⟩:=zfx S9 g (by lia)
 have SE10:=SE9.app r10
 have S10:=S9.app r10
 obtain ⟨H10,eH10⟩ : ∃ H,H = H9++r10:=⟨_,rfl⟩
 rw [<- eH10] at lt9 SE10 S10
 have me10:=ybC SE10
 have obe10:=SE10.ob
 have nn:=ne_n
 have nt : ∀ h,fNe (.str (tx87 ps)) (.str (tx87 ps)) h = .ok (.bl false) h:=fun h=>(ye6 _ h).1
 have ez : ∀ h,fEq (.int (([] : List Pc).length : Int)) (.int 0) h = .ok (.bl true) h:=fun h=>by simp [toD,PyData.eqv]
 have nz : ∀ h,fNe (.int (([] : List Pc).length : Int)) (.int 0) h = .ok (.bl false) h:=fun h=>by simp [toD,PyData.eqv]
 obtain ⟨H11,fo,fr11⟩:=zi7 S10 g (by lia)
 have go:=zex g
 have lo:=zdi ps
 have L10:=ybm S10.h8
 have SE11:=ybG SE10 fr11 (by lia)
 obtain ⟨H12,r12,T12,fr12⟩:=ydR go (by lia) H11
 have L11 : 8 < H11.length:=by have:=ybm SE11.h8; lia
 have SE12:=ybG SE11 fr12 (by lia)
 have m12:=ybC T12
 rw [lo] at m12
 have ob12:=T12.ob
 have tx12:=zbr T12 go (by lia)
 have me12:=ybC SE12
 have obe12:=SE12.ob
 have eo : ∀ h,fEq (.str (tx87 (ybe ps (ordL ps)))) (.str (tx87 (ybe ps (ordL ps)))) h = .ok (.bl true) h:=fun h=>(ye6 _ h).2
 have en : ∀ h,fEq (.int (ps.length : Int)) (.int (ps.length : Int)) h = .ok (.bl true) h:=fun h=>by simp [toD,PyData.eqv]
 have gt : ∃ B,∀ h,fGt (.int ((tx87 ps).length : Int)) (.int 19000) h = .ok (.bl B) h:=⟨decide ((19000 : Int) < (tx87 ps).length),fun h=>by simp⟩
 obtain ⟨B,gt⟩:=gt
 have ln : ∀ h,fLen [.str (tx87 ps)] h = .ok (.int ((tx87 ps).length : Int)) h:=fun h=>rfl
 have ob1:=S1.ob
 have ob3:=S3.ob
 have g1' : yaN [.ref p] H3 = .ok (.str (tx87 ps)) H3:=tx
 have g2' : yaZ [.ref p] H3 = .ok (.str (tx87 ps)) H4:=lt4
 have g3' : yaN [.ref q] H5 = .ok (.str (tx87 ps)) H5:=tx5
 have g4' : yaN [.ref q] H7 = .ok (.str (tx87 ps7)) H7:=tx7
 have g5' : yaN [.ref q] H8 = .ok (.str (tx87 ps7)) H8:=tx8
 have g6' : yaZ [.ref p] H9 = .ok (.str (tx87 ps)) H10:=lt9
 have g7' : yaN [.ref H11.length] H12 = .ok (.str (tx87 (ybe ps (ordL ps)))) H12:=tx12
 clear tx lt4 tx5 tx7 tx8 lt9 tx12
 have hN7:=nn (ps7.length : Int)
 have hN:=nn (ps.length : Int)
 clear nn
 simp only [eL87] at lp1 lp2
 generalize hF1 : sFor (yaX (sLit (.int 1)) (sOp2 fAdd (sVar 6) (sLit (.int 1)))) (.nm 8) yca = F1 at lp1
 generalize hF2 : sFor (iVal (sLst (yab (sLit (.str "\\n")) (yab (sLit (.str "\\\n")) (yab (sLit (.str "n\\")) (yab (sLit (.str "\\\\n")) sNil)))))) (.nm 10) ycp = F2 at lp2
 have e3' : IF87 [some (.fl (ns.map AV.int)),some (.ref 0),some (.ref p),some (.ref r),none,none,none,none,none,none,none,none,none] H2 = .nx [some (.fl (ns.map AV.int)),some (.ref 0),some (.ref p),some (.ref r),o4,none,none,none,none,none,none,none,none] H3:=e3
 clear e3
 unfold IF87 at e3'
 unfold ye5
 rw [hF1,hF2]
 generalize sIf (yam (sOp2 fEq (yae yah (yab (sVar 3) (yab (sLit (.int 8)) sNil))) (sLit (.int 0)))) _ _ = I3 at *
 generalize ya3 = G1 at *
 generalize yai = G2 at *
 generalize ybc = G3 at *
 generalize yaQ = G4 at *
 generalize yaN = G5 at *
 generalize yaZ = G6 at *
 generalize yb9 = G7 at *
 generalize yat = G8 at *
 generalize ybr = G9 at *
 clear hF1 hF2 SE0 S1 SE1 S2 SE2 S3 SE3 S4 SE4 F5 S5 SE5 S7 SE7 F7 T8 S8 SE8 F8 T9 S9 SE9 F9 SE10 S10 SE11 T12 SE12 Dk D7 fr1 fr3 fr5 fr7 fr8 fr9 fr11 fr12 go g g1 g7 r2
 generalize tx87 ps = T1 at *
 generalize tx87 ps7 = T2 at *
 generalize tx87 (ybe ps (ordL ps)) = T3 at *
 generalize (ps7.length : Int) = N7 at *
 generalize (ps.length : Int) = N at *
 generalize (([] : List Pc).length : Int) = NZ at *
 generalize ns.map AV.int = Z at *
 generalize H7.length = Q7 at *
 generalize H8.length = Q8 at *
 generalize H11.length = Q11 at *
 cases B with
 | true =>
  refine ⟨H10,?_⟩
  simp [r0,me0,obe0,ed,es',e3',g1',g2',m4,ob4,ob3,r5,ob5,sm5,g3',lp1,lk,lp2,g4',r8,m8,mf8,obt8,obf8,g5',r9,sm9,m9,ob9,g6',me10,obe10,hN7,hN,nt,ez,nz,gt,ln,sIsO,-fNe,-fEq,-fLen,-fGt]
 | false =>
  refine ⟨H12,?_⟩
  simp [r0,me0,obe0,ed,es',e3',g1',g2',m4,ob4,ob3,r5,ob5,sm5,g3',lp1,lk,lp2,g4',r8,m8,mf8,obt8,obf8,g5',r9,sm9,m9,ob9,g6',me12,obe12,fo,r12,m12,ob12,g7',eo,en,hN7,hN,nt,ez,nz,gt,ln,sIsO,-fNe,-fEq,-fLen,-fGt]
end Sk
namespace Sk
open PySem PySem.Spec L2 Sm
def top (i : Nat) : Stmt:=PySem.Challenge.pw_skeinwood_k87_shelves_read.main.body.getD i (.Pass ⟨0,0,0,0⟩)
abbrev ydb : Stmt:=ya0 (top 19) 0
abbrev ydc : Stmt:=ya0 (top 19) 3
abbrev ycC : Stmt:=top 14
abbrev ycY : Stmt:=top 13
abbrev ydG : Stmt:=top 15
abbrev ydn : Stmt:=ya0 (top 19) 17
abbrev ydS : Stmt:=top 16
abbrev ycj : Stmt:=ya0 (top 19) 15
abbrev ydd : Stmt:=ya0 (top 19) 1
abbrev ydH : Stmt:=top 12
abbrev ycb : Stmt:=ya0 (top 19) 11
abbrev ybW : Stmt:=ya0 (top 19) 12
abbrev yb1 : Stmt:=ya0 (top 19) 14
abbrev yck : Stmt:=ya0 (top 19) 16
abbrev yde : Stmt:=ya0 (top 19) 2
abbrev ydf : Stmt:=top 24
abbrev yci : Stmt:=top 25
abbrev ydg : Stmt:=top 32
abbrev ydT : Stmt:=top 31
abbrev ydh : Stmt:=top 30
abbrev ydo : Stmt:=top 37
abbrev ycD : Stmt:=top 38
abbrev ydp : Stmt:=top 39
abbrev ycQ : Stmt:=top 40
abbrev ycZ : Stmt:=top 41
abbrev ydI : Stmt:=top 42
abbrev ydJ : Stmt:=top 43
abbrev ycc : Stmt:=top 44
abbrev ydU : Stmt:=top 23
abbrev ydq : Stmt:=top 29
abbrev ycR : Stmt:=ya0 (top 19) 4
abbrev ycE : Stmt:=top 28
abbrev ycS : Stmt:=top 45
abbrev ycd : Stmt:=top 48
abbrev yd2 : Stmt:=top 35
abbrev yd0 : Stmt:=top 34
abbrev ycl : Stmt:=top 46
abbrev yb2 : Stmt:=ya0 (top 19) 13
abbrev yce : Stmt:=ya0 (top 19) 10
abbrev ycT : Stmt:=ya0 (top 19) 5
abbrev ydi : Stmt:=ya0 (top 19) 6
abbrev ycF : Stmt:=ya0 (top 19) 7
abbrev ycG : Stmt:=ya0 (top 19) 8
abbrev yb3 : Stmt:=ya0 (top 19) 9
abbrev ydK : Stmt:=top 47
abbrev yem : Stmt:=top 49
abbrev ye8 : Stmt:=ya0 (top 7) 0
def flds : Nat -> List Str
 | 0=>["pieces", "numbers", "sign_counts", "end_counts", "leaf_counts", "heights", "first_leaves", "last_leaves"]
 | _=>[]
theorem zja : ∀ c,(flds c).Nodup
 | 0=>by decide +kernel
 | _ + 1=>List.nodup_nil
theorem zhT : ∀ c,(flds c).length <= 500
 | 0=>by decide +kernel
 | _ + 1=>Nat.zero_le _
abbrev mkT (K : PySem.W.Frag) (cls exc : Nat -> Option Addr) : Tb:=⟨K,cls,exc,flds,zja,zhT⟩
structure Facts (P : Program) (w : World) (K : PySem.W.Frag) (cls exc : Nat -> Option Addr) (mg : Str -> Option Value) (base : Heap) : Prop where
 b_abs : mg "abs" = none
 b_all : mg "all" = none
 b_bool : mg "bool" = none
 b_enumerate : mg "enumerate" = none
 b_int : mg "int" = none
 b_isinstance : mg "isinstance" = none
 b_len : mg "len" = none
 b_max : mg "max" = none
 b_range : mg "range" = none
 b_str : mg "str" = none
 b_sum : mg "sum" = none
 c_LEAF_SIGNS : ∃ t,mg "LEAF_SIGNS" = some (.int 8 t)
 c_MOST_PLAIN : ∃ t,mg "MOST_PLAIN" = some (.int 10000 t)
 c_MOST_SIGNS : ∃ t,mg "MOST_SIGNS" = some (.int 1000000000000000000 t)
 c_MOST_FIGURES : ∃ t,mg "MOST_FIGURES" = some (.int 30 t)
 c_LEAF_WORD : ∃ t,mg "LEAF_WORD" = some (.str "leaf " t)
 cf_Shelf : CF (mkT K cls exc) 0
 x_NoText : GX (mkT K cls exc) mg base 1 "NoText"
 x_NoPiece : GX (mkT K cls exc) mg base 2 "NoPiece"
 x_Loose : GX (mkT K cls exc) mg base 3 "Loose"
 x_Unlevel : GX (mkT K cls exc) mg base 4 "Unlevel"
 x_TooLong : GX (mkT K cls exc) mg base 5 "TooLong"
 g_Torn : GI P w (mkT K cls exc) mg base 6 "Torn" "row"
 x_NoLine : GX (mkT K cls exc) mg base 7 "NoLine"
 ct_SkeinError : ∃ C,mg "SkeinError" = some (.ref C) /\ ∀ c C',yc8 c = true -> exc c = some C' -> PySem.W.exmOne K (.ref C') (.ref C) = some true
 d_Shelf_init : DI K cls mg 0 "Shelf" "Shelf.__init__" ydb ["self"]
 d_Shelf_many : DMm K cls 0 "many" "Shelf.many" ydc ["self"]
 d_is_plain_sign : DG K mg "is_plain_sign" ycC ["sign"]
 d_is_plain : DG K mg "is_plain" ycY ["thing"]
 d_is_short : DG K mg "is_short" ydG ["thing"]
 d_Shelf_lay : DMm K cls 0 "lay" "Shelf.lay" ydn ["self", "made"]
 d_ends_in : DG K mg "ends_in" ydS ["plain"]
 d_Shelf_lay_leaf : DMm K cls 0 "lay_leaf" "Shelf.lay_leaf" ycj ["self", "made"]
 d_Shelf_leaf : DMm K cls 0 "leaf" "Shelf.leaf" ydd ["self", "plain"]
 d_is_whole : DG K mg "is_whole" ydH ["thing"]
 d_Shelf_has_piece : DMm K cls 0 "has_piece" "Shelf.has_piece" ycb ["self", "number"]
 d_Shelf_check_piece : DMm K cls 0 "check_piece" "Shelf.check_piece" ybW ["self", "number"]
 d_Shelf_check_fork : DMm K cls 0 "check_fork" "Shelf.check_fork" yb1 ["self", "one", "other"]
 d_Shelf_lay_fork : DMm K cls 0 "lay_fork" "Shelf.lay_fork" yck ["self", "made"]
 d_Shelf_fork : DMm K cls 0 "fork" "Shelf.fork" yde ["self", "one", "other"]
 d_read_plain : DG K mg "read_plain" ydf ["row"]
 d_read_number : DG K mg "read_number" yci ["word"]
 d_piece_told : DG K mg "piece_told" ydg ["shelf", "row"]
 d_is_laid : DG K mg "is_laid" ydT ["shelf", "row"]
 d_read_shelf : DG K mg "read_shelf" ydh ["plain"]
 d_law_mixed : DG K mg "_law_mixed" ydo ["cell", "k"]
 d_law_stream : DG K mg "_law_stream" ycD ["script", "k"]
 d_law_digit : DG K mg "_law_digit" ydp ["row", "many"]
 d_law_letters : DG K mg "_law_letters" ycQ ["row"]
 d_law_tree : DG K mg "_law_tree" ycZ ["shelf", "row", "letters", "height", "last"]
 d_law_text : DG K mg "_law_text" ydI ["shelf", "row", "most"]
 d_law_long : DG K mg "_law_long" ydJ ["shelf", "row"]
 d_law_drawn_shelf : DG K mg "_law_drawn_shelf" ycc ["script"]
 d_written : DG K mg "written" ydU ["plain"]
 d_piece_row : DG K mg "piece_row" ydq ["piece"]
 d_Shelf_piece : DMm K cls 0 "piece" "Shelf.piece" ycR ["self", "number"]
 d_shelf_text : DG K mg "shelf_text" ycE ["shelf"]
 d_law_written : DG K mg "_law_written" ycS ["plain"]
 d_law_other_order : DG K mg "_law_other_order" ycd ["shelf"]
 d_halved : DG K mg "halved" yd2 ["shelf", "leaves"]
 d_built : DG K mg "built" yd0 ["shelf", "plain"]
 d_law_shelf_text : DG K mg "_law_shelf_text" ycl ["shelf"]
 d_Shelf_check_text : DMm K cls 0 "check_text" "Shelf.check_text" yb2 ["self", "text"]
 d_Shelf_last_leaf : DMm K cls 0 "last_leaf" "Shelf.last_leaf" yce ["self", "text"]
 d_Shelf_signs : DMm K cls 0 "signs" "Shelf.signs" ycT ["self", "text"]
 d_Shelf_ends : DMm K cls 0 "ends" "Shelf.ends" ydi ["self", "text"]
 d_Shelf_leaves : DMm K cls 0 "leaves" "Shelf.leaves" ycF ["self", "text"]
 d_Shelf_height : DMm K cls 0 "height" "Shelf.height" ycG ["self", "text"]
 d_Shelf_first_leaf : DMm K cls 0 "first_leaf" "Shelf.first_leaf" yb3 ["self", "text"]
 d_law_same : DG K mg "_law_same" ydK ["one", "other"]
 d_law : DG K mg "law" yem ["script"]
 kg_MARKED : KG P w K mg "MARKED" D_MARKED
 ko_Shelf : KO1 (mkT K cls exc) mg 0 "Shelf"
theorem zdQ : FnScope ["self"] ["self"] (yad ydb):=fsk
theorem zdR : FnScope ["self"] ["self"] (yad ydc):=fsk
theorem zcF : FnScope ["sign"] ["sign"] (yad ycC):=fsk
theorem zeO : FnScope ["thing"] ["thing"] (yad ycY):=fsk
theorem zeP : FnScope ["thing"] ["thing"] (yad ydG):=fsk
theorem zez : FnScope ["self", "made", "number"] ["self", "made"] (yad ydn):=fsk
theorem zfY : FnScope ["plain"] ["plain"] (yad ydS):=fsk
theorem zcb : FnScope ["self", "made", "number", "plain"] ["self", "made"] (yad ycj):=fsk
theorem zdS : FnScope ["self", "plain", "made"] ["self", "plain"] (yad ydd):=fsk
theorem zeQ : FnScope ["thing"] ["thing"] (yad ydH):=fsk
theorem zbV : FnScope ["self", "number"] ["self", "number"] (yad ycb):=fsk
theorem zbF : FnScope ["self", "number"] ["self", "number"] (yad ybW):=fsk
theorem zbL : FnScope ["self", "one", "other", "seam"] ["self", "one", "other"] (yad yb1):=fsk
theorem zcc : FnScope ["self", "made", "one", "other"] ["self", "made"] (yad yck):=fsk
theorem zdT : FnScope ["self", "one", "other", "made"] ["self", "one", "other"] (yad yde):=fsk
theorem zdU : FnScope ["row", "found", "marked", "sign", "read"] ["row"] (yad ydf):=fsk
theorem zdj : FnScope ["word"] ["word"] (yad yci):=fsk
theorem zdV : FnScope ["shelf", "row", "words"] ["shelf", "row"] (yad ydg):=fsk
theorem zfZ : FnScope ["shelf", "row", "many", "number"] ["shelf", "row"] (yad ydT):=fsk
theorem zdW : FnScope ["plain", "shelf", "place", "row"] ["plain"] (yad ydh):=fsk
theorem zeA : FnScope ["cell", "k", "stir"] ["cell", "k"] (yad ydo):=fsk
theorem zdX : FnScope ["script", "k", "cell", "j", "found"] ["script", "k"] (yad ycD):=fsk
theorem zeB : FnScope ["row", "many", "digit"] ["row", "many"] (yad ydp):=fsk
theorem zdk : FnScope ["row", "every", "some"] ["row"] (yad ycQ):=fsk
theorem zcm : FnScope ["shelf", "row", "letters", "height", "last", "least", "many", "plain", "lower", "turn", "one", "other"] ["shelf", "row", "letters", "height", "last"] (yad ycZ):=fsk
theorem zeR : FnScope ["shelf", "row", "most", "letters", "found"] ["shelf", "row", "most"] (yad ydI):=fsk
theorem zeS : FnScope ["shelf", "row", "letters", "number", "plain", "last", "many", "turn"] ["shelf", "row"] (yad ydJ):=fsk
theorem zbW : FnScope ["script", "shelf", "row", "k"] ["script"] (yad ycc):=fsk
theorem zf0 : FnScope ["plain"] ["plain"] (yad ydU):=fsk
theorem zeC : FnScope ["piece"] ["piece"] (yad ydq):=fsk
theorem zdl : FnScope ["self", "number"] ["self", "number"] (yad ycR):=fsk
theorem zdY : FnScope ["shelf"] ["shelf"] (yad ycE):=fsk
theorem zdm : FnScope ["plain", "found", "sign"] ["plain"] (yad ycS):=fsk
theorem zbX : FnScope ["shelf", "numbers", "rows", "number", "piece"] ["shelf"] (yad ycd):=fsk
theorem zdN : FnScope ["shelf", "leaves", "middle"] ["shelf", "leaves"] (yad yd2):=fsk
theorem zhU : FnScope ["shelf", "plain", "leaves"] ["shelf", "plain"] (yad yd0):=fsk
theorem zcd : FnScope ["shelf", "rows", "number", "piece"] ["shelf"] (yad ycl):=fsk
theorem zbM : FnScope ["self", "text"] ["self", "text"] (yad yb2):=fsk
theorem zbY : FnScope ["self", "text"] ["self", "text"] (yad yce):=fsk
theorem zdn : FnScope ["self", "text"] ["self", "text"] (yad ycT):=fsk
theorem zdZ : FnScope ["self", "text"] ["self", "text"] (yad ydi):=fsk
theorem zcU : FnScope ["self", "text"] ["self", "text"] (yad ycF):=fsk
theorem zcV : FnScope ["self", "text"] ["self", "text"] (yad ycG):=fsk
theorem zbN : FnScope ["self", "text"] ["self", "text"] (yad yb3):=fsk
theorem zeT : FnScope ["one", "other", "number"] ["one", "other"] (yad ydK):=fsk
theorem yhw : FnScope ["script", "empty", "shelf", "row", "far", "text", "many", "found", "number", "piece", "plain", "other", "turned"] ["script"] (yad yem):=fsk
section
variable {P : Program} {w : World} {K : PySem.W.Frag} {cls exc : Nat -> Option Addr} {mg : Str -> Option Value} {base : Heap} (Z : Facts P w K cls exc mg base)
include Z
theorem zbZ : GK P w (mkT K cls exc) mg base 1 0 "Shelf" ya7:=gk Z.d_Shelf_init zdQ fun hr C hu nd =>
 (zab (zaF rfl Z.cf_Shelf (yaa 0) (ybT yac))
  (zab (zaF rfl Z.cf_Shelf (yaa 0) zix)
  (zab (zaF rfl Z.cf_Shelf (yaa 0) (ybT (zaa yaf yac)))
  (zab (zaF rfl Z.cf_Shelf (yaa 0) (ybT (zaa yaf yac)))
  (zab (zaF rfl Z.cf_Shelf (yaa 0) (ybT (zaa yaf yac)))
  (zab (zaF rfl Z.cf_Shelf (yaa 0) (ybT (zaa (yfY yaf) yac)))
  (zab (zaF rfl Z.cf_Shelf (yaa 0) (ybT (zaa yaf yac)))
  (yag (zaF rfl Z.cf_Shelf (yaa 0) (ybT (zaa yaf yac)))))))))))
theorem zad : GM P w (mkT K cls exc) mg base 1 0 "many" yai:=gm Z.d_Shelf_many zdR (show ("many" : Str) ∉ flds 0 by decide +kernel) fun hr C hu nd =>
 (yag (yao (r_bi (b_len rfl) rfl Z.b_len PySem.boot_len (zaa (yaz rfl Z.cf_Shelf (yaa 0)) yac))))
theorem zbl : GF P w (mkT K cls exc) mg base 1 "is_plain_sign" ya8:=gf Z.d_is_plain_sign zcF fun hr C hu nd =>
 (yag (yao (r_or (ydA (o_eq rfl hu) (yaa 0) yas (yar _)) (yea (zb5 o_le o_le yas (yaa 0) yas)))))
theorem zcW : GF P w (mkT K cls exc) mg base 2 "is_plain" ycx:=gf Z.d_is_plain zeO fun {f cdv A outer s H E} hr C hu nd =>
 (zab (r_if (yb0 (zan rfl (yeY rfl rfl Z.b_isinstance (yaa 0) rfl Z.b_str ycL (by decide)))) (yag (yao r_bl)) yay)
  (yag (yao (r_bi (b_all rfl) rfl Z.b_all PyProof.Rows.boot_all (zaa (ydu (jf:=[]) (zaG (N:=["thing"]) (sc:=yad ycY) rfl (fun _=>rfl) (by decide +kernel)) rfl (ydt (E:=(fun _=>E)) rfl (yaa 0)) (fun _ _ _ _ _=>zaU) (fun _ _ _ _ _=>(yan rfl (CA.never rfl) (zbl Z) hr.m rfl (zaa (yaa 0) yac)))) yac)))))
theorem zf1 : GF P w (mkT K cls exc) mg base 3 "is_short" ycV:=gf Z.d_is_short zeP fun hr C hu nd =>
 (yag (yao (yeb (yan rfl C (zcW Z) hr.m rfl (zaa (yaa 0) yac)) (yea (zb5 o_le o_le yaf (r_bi (b_len rfl) rfl Z.b_len PySem.boot_len (zaa (yaa 0) yac)) (r_gI rfl Z.c_LEAF_SIGNS))))))
theorem zcn : GM P w (mkT K cls exc) mg base 1 0 "lay" ycf:=gm Z.d_Shelf_lay zez (show ("lay" : Str) ∉ flds 0 by decide +kernel) fun hr C hu nd =>
 (zab (yaB (r_bm rfl PySem.F.plainAttrs_list PySem.F.slot_list_append PySem.F.type_list_append (zai) zam (yaz rfl Z.cf_Shelf (yaa 0)) (zaa (yaa 1) yac)))
  (zab (yaq (i:=2) nd (r_bi (b_len rfl) rfl Z.b_len PySem.boot_len (zaa (yaz rfl Z.cf_Shelf (yaa 0)) yac)))
  (zab (zb6 hu (yaz rfl Z.cf_Shelf (yaa 0)) (yaa 1) (yaa 2))
  (yag (yao (yaa 2))))))
theorem zg0 : GF P w (mkT K cls exc) mg base 1 "ends_in" ydl:=gf Z.d_ends_in zfY fun hr C hu nd =>
 (yag (yao (r_bm rfl PySem.F.plainAttrs_str PySem.F.slot_str_count PySem.F.type_str_count (zhx) zaA (yaa 0) (zaa yas yac))))
theorem zcG : GM P w (mkT K cls exc) mg base 2 0 "lay_leaf" yby:=gm Z.d_Shelf_lay_leaf zcb (show ("lay_leaf" : Str) ∉ flds 0 by decide +kernel) fun hr C hu nd =>
 (zab (yaq (i:=2) nd (yav rfl C (zcn Z) hr.m (yaa 0) (zaa (yaa 1) yac)))
  (zab (yaq (i:=3) nd (r_ix rfl hu (yaa 1) yaf))
  (zab (yaB (r_bm rfl PySem.F.plainAttrs_list PySem.F.slot_list_append PySem.F.type_list_append (zai) zam (yaz rfl Z.cf_Shelf (yaa 0)) (zaa (r_bi (b_len rfl) rfl Z.b_len PySem.boot_len (zaa (yaa 3) yac)) yac)))
  (zab (yaB (r_bm rfl PySem.F.plainAttrs_list PySem.F.slot_list_append PySem.F.type_list_append (zai) zam (yaz rfl Z.cf_Shelf (yaa 0)) (zaa (yan rfl C (zg0 Z) hr.m rfl (zaa (yaa 3) yac)) yac)))
  (zab (yaB (r_bm rfl PySem.F.plainAttrs_list PySem.F.slot_list_append PySem.F.type_list_append (zai) zam (yaz rfl Z.cf_Shelf (yaa 0)) (zaa yaf yac)))
  (zab (yaB (r_bm rfl PySem.F.plainAttrs_list PySem.F.slot_list_append PySem.F.type_list_append (zai) zam (yaz rfl Z.cf_Shelf (yaa 0)) (zaa yaf yac)))
  (zab (yaB (r_bm rfl PySem.F.plainAttrs_list PySem.F.slot_list_append PySem.F.type_list_append (zai) zam (yaz rfl Z.cf_Shelf (yaa 0)) (zaa (yaa 2) yac)))
  (yag (yaB (r_bm rfl PySem.F.plainAttrs_list PySem.F.slot_list_append PySem.F.type_list_append (zai) zam (yaz rfl Z.cf_Shelf (yaa 0)) (zaa (yaa 2) yac)))))))))))
theorem zaB : GM P w (mkT K cls exc) mg base 4 0 "leaf" yat:=gm Z.d_Shelf_leaf zdS (show ("leaf" : Str) ∉ flds 0 by decide +kernel) fun hr C hu nd =>
 (zab (r_if (yb0 (zan rfl (yan rfl C (zf1 Z) hr.m rfl (zaa (yaa 1) yac)))) (yag (zaO Z.x_NoText zaN rfl (zaa yas yac))) yay)
  (zab (yaq (i:=2) nd (ydB (zaa yas (zaa (yaa 1) yac))))
  (zab (r_if (yaw (zff rfl hu) (yaa 2) (yaz rfl Z.cf_Shelf (yaa 0)) rfl) (yag (yaB (yav rfl C (zcG Z) hr.m (yaa 0) (zaa (yaa 2) yac)))) yay)
  (yag (yao (r_ix rfl hu (yaz rfl Z.cf_Shelf (yaa 0)) (yaa 2)))))))
theorem zf2 : GF P w (mkT K cls exc) mg base 1 "is_whole" ycW:=gf Z.d_is_whole zeQ fun hr C hu nd =>
 (yag (yao (yeb (yeY rfl rfl Z.b_isinstance (yaa 0) rfl Z.b_int yeE (by decide)) (yea (yh3 (yeY rfl rfl Z.b_isinstance (yaa 0) rfl Z.b_bool zio (by decide)))))))
theorem zce : GM P w (mkT K cls exc) mg base 2 0 "has_piece" ybK:=gm Z.d_Shelf_has_piece zbV (show ("has_piece" : Str) ∉ flds 0 by decide +kernel) fun hr C hu nd =>
 (yag (yao (yeb (yan rfl C (zf2 Z) hr.m rfl (zaa (yaa 1) yac)) (yea (zb5 o_le o_le yaf (yaa 1) (r_bi (b_len rfl) rfl Z.b_len PySem.boot_len (zaa (yaz rfl Z.cf_Shelf (yaa 0)) yac)))))))
theorem zaw : GM P w (mkT K cls exc) mg base 3 0 "check_piece" yaT:=gm Z.d_Shelf_check_piece zbF (show ("check_piece" : Str) ∉ flds 0 by decide +kernel) fun hr C hu nd =>
 (yag (r_if (yb0 (zan rfl (yav rfl C (zce Z) hr.m (yaa 0) (zaa (yaa 1) yac)))) (yag (zaO Z.x_NoPiece zaN rfl (zaa yas yac))) yay))
theorem zb0 : GM P w (mkT K cls exc) mg base 4 0 "check_fork" yaR:=gm Z.d_Shelf_check_fork zbL (show ("check_fork" : Str) ∉ flds 0 by decide +kernel) fun hr C hu nd =>
 (zab (yaB (yav rfl C (zaw Z) hr.m (yaa 0) (zaa (yaa 1) yac)))
  (zab (yaB (yav rfl C (zaw Z) hr.m (yaa 0) (zaa (yaa 2) yac)))
  (zab (yaq (i:=3) nd (yak (yaK rfl) (r_ix rfl hu (yaz rfl Z.cf_Shelf (yaa 0)) (r_ix rfl hu (yaz rfl Z.cf_Shelf (yaa 0)) (yaa 1))) (r_ix rfl hu (yaz rfl Z.cf_Shelf (yaa 0)) (r_ix rfl hu (yaz rfl Z.cf_Shelf (yaa 0)) (yaa 2)))))
  (zab (r_if (yaw o_le (yaa 3) (r_gI rfl Z.c_LEAF_SIGNS) (yar _)) (yag (zaO Z.x_Loose zaN rfl (zaa yas yac))) yay)
  (zab (r_if (yaw o_gt (r_bi (b_abs) rfl Z.b_abs PyProof.Rows.boot_abs (zaa (yak ycU (r_ix rfl hu (yaz rfl Z.cf_Shelf (yaa 0)) (yaa 1)) (r_ix rfl hu (yaz rfl Z.cf_Shelf (yaa 0)) (yaa 2))) yac)) yaf (yar _)) (yag (zaO Z.x_Unlevel zaN rfl (zaa yas yac))) yay)
  (yag (r_if (yaw o_gt (yak (yaK rfl) (r_ix rfl hu (yaz rfl Z.cf_Shelf (yaa 0)) (yaa 1)) (r_ix rfl hu (yaz rfl Z.cf_Shelf (yaa 0)) (yaa 2))) (r_gI rfl Z.c_MOST_SIGNS) (yar _)) (yag (zaO Z.x_TooLong zaN rfl (zaa yas yac))) yay)))))))
theorem zcH : GM P w (mkT K cls exc) mg base 2 0 "lay_fork" ybz:=gm Z.d_Shelf_lay_fork zcc (show ("lay_fork" : Str) ∉ flds 0 by decide +kernel) fun hr C hu nd =>
 (zab (yaB (yav rfl C (zcn Z) hr.m (yaa 0) (zaa (yaa 1) yac)))
  (zab (yaq (i:=2) nd (r_ix rfl hu (yaa 1) yaf))
  (zab (yaq (i:=3) nd (r_ix rfl hu (yaa 1) yaf))
  (zab (yaB (r_bm rfl PySem.F.plainAttrs_list PySem.F.slot_list_append PySem.F.type_list_append (zai) zam (yaz rfl Z.cf_Shelf (yaa 0)) (zaa (yak (yaK rfl) (r_ix rfl hu (yaz rfl Z.cf_Shelf (yaa 0)) (yaa 2)) (r_ix rfl hu (yaz rfl Z.cf_Shelf (yaa 0)) (yaa 3))) yac)))
  (zab (yaB (r_bm rfl PySem.F.plainAttrs_list PySem.F.slot_list_append PySem.F.type_list_append (zai) zam (yaz rfl Z.cf_Shelf (yaa 0)) (zaa (yak (yaK rfl) (r_ix rfl hu (yaz rfl Z.cf_Shelf (yaa 0)) (yaa 2)) (r_ix rfl hu (yaz rfl Z.cf_Shelf (yaa 0)) (yaa 3))) yac)))
  (zab (yaB (r_bm rfl PySem.F.plainAttrs_list PySem.F.slot_list_append PySem.F.type_list_append (zai) zam (yaz rfl Z.cf_Shelf (yaa 0)) (zaa (yak (yaK rfl) (r_ix rfl hu (yaz rfl Z.cf_Shelf (yaa 0)) (yaa 2)) (r_ix rfl hu (yaz rfl Z.cf_Shelf (yaa 0)) (yaa 3))) yac)))
  (zab (yaB (r_bm rfl PySem.F.plainAttrs_list PySem.F.slot_list_append PySem.F.type_list_append (zai) zam (yaz rfl Z.cf_Shelf (yaa 0)) (zaa (yak (yaK rfl) (r_bi (yfr) rfl Z.b_max PyProof.Rows.boot_max (zaa (r_ix rfl hu (yaz rfl Z.cf_Shelf (yaa 0)) (yaa 2)) (zaa (r_ix rfl hu (yaz rfl Z.cf_Shelf (yaa 0)) (yaa 3)) yac))) yaf) yac)))
  (zab (yaB (r_bm rfl PySem.F.plainAttrs_list PySem.F.slot_list_append PySem.F.type_list_append (zai) zam (yaz rfl Z.cf_Shelf (yaa 0)) (zaa (r_ix rfl hu (yaz rfl Z.cf_Shelf (yaa 0)) (yaa 2)) yac)))
  (yag (yaB (r_bm rfl PySem.F.plainAttrs_list PySem.F.slot_list_append PySem.F.type_list_append (zai) zam (yaz rfl Z.cf_Shelf (yaa 0)) (zaa (r_ix rfl hu (yaz rfl Z.cf_Shelf (yaa 0)) (yaa 3)) yac))))))))))))
theorem zaH : GM P w (mkT K cls exc) mg base 5 0 "fork" yaC:=gm Z.d_Shelf_fork zdT (show ("fork" : Str) ∉ flds 0 by decide +kernel) fun hr C hu nd =>
 (zab (yaB (yav rfl C (zb0 Z) hr.m (yaa 0) (zaa (yaa 1) (zaa (yaa 2) yac))))
  (zab (yaq (i:=3) nd (ydB (zaa yas (zaa (yaa 1) (zaa (yaa 2) yac)))))
  (zab (r_if (yaw (zff rfl hu) (yaa 3) (yaz rfl Z.cf_Shelf (yaa 0)) rfl) (yag (yaB (yav rfl C (zcH Z) hr.m (yaa 0) (zaa (yaa 3) yac)))) yay)
  (yag (yao (r_ix rfl hu (yaz rfl Z.cf_Shelf (yaa 0)) (yaa 3)))))))
theorem zeD : GF P w (mkT K cls exc) mg base 2 "read_plain" ybM:=gf Z.d_read_plain zdU fun hr C hu nd =>
 (zab (yaq (i:=1) nd (ybT yac))
  (zab (yaq (i:=2) nd r_bl)
  (zab (yb7 rfl (ydt (E:=EN) rfl (yaa 0)) (zax (i:=3) nd) (zab (r_if (zan rfl (yaa 2)) (zab (yaq (i:=4) nd (yhc rfl Z.kg_MARKED (yaa 3)))
  (yag (yaq (i:=2) nd r_bl))) (yag (r_if (yaw (o_eq rfl hu) (yaa 3) yas (yar _)) (zab (yaq (i:=4) nd yas)
  (yag (yaq (i:=2) nd r_bl))) (yag (yaq (i:=4) nd (yf0 (rt_w (ydO (yaw (o_ne rfl hu) (yaa 3) yas (yar _)) (zbo (zan rfl (yan rfl (C.nox) (zbl Z) hr.m rfl (zaa (yaa 3) yac)))))) (yaa 3) ydx))))))
  (zab (r_if (yaw yh2 (yaa 4) ydx (yar _)) (yag (yao ydx)) yay)
  (yag (yaB (r_bm rfl PySem.F.plainAttrs_list PySem.F.slot_list_append PySem.F.type_list_append (zai) zam (yaa 1) (zaa (yaa 4) yac)))))))
  (yag (yao (yf0 (zan rfl (yaa 2)) ydx (r_bm rfl PySem.F.plainAttrs_str PySem.F.slot_str_join PySem.F.type_str_join (yeH rfl) zaA yas (zaa (yaa 1) yac))))))))
theorem zbH : GF P w (mkT K cls exc) mg base 1 "read_number" ybo:=gf Z.d_read_number zdj fun {f cdv A outer s H E} hr C hu nd =>
 (zab (r_if (yb0 (zhw o_le o_le yaf (r_bi (b_len rfl) rfl Z.b_len PySem.boot_len (zaa (yaa 0) yac)) (r_gI rfl Z.c_MOST_FIGURES))) (yag (yao ydx)) yay)
  (zab (r_if (yb0 (zan rfl (r_bi (b_all rfl) rfl Z.b_all PyProof.Rows.boot_all (zaa (ydu (jf:=[]) (zaG (N:=["word"]) (sc:=yad yci) rfl (fun _=>rfl) (by decide +kernel)) rfl (ydt (E:=(fun _=>E)) rfl (yaa 0)) (fun _ _ _ _ _=>zaU) (fun _ _ _ _ _=>(zb5 o_le o_le yas (yaa 0) yas))) yac)))) (yag (yao ydx)) yay)
  (zab (r_if (rt_w (ydO (yaw (o_ne rfl hu) (yaa 0) yas (yar _)) (zbo (zan rfl (r_bm rfl PySem.F.plainAttrs_str PySem.F.slot_str_startswith PySem.F.type_str_startswith (zdF) zaA (yaa 0) (zaa yas yac)))))) (yag (yao ydx)) yay)
  (yag (yao (r_ty yhd rfl Z.b_int yeE (zaa (yaa 0) yac)))))))
theorem zeE : GF P w (mkT K cls exc) mg base 6 "piece_told" ybn:=gf Z.d_piece_told zdV fun hr C hu nd =>
 (zab (yaq (i:=2) nd (r_bm rfl PySem.F.plainAttrs_str PySem.F.slot_str_split PySem.F.type_str_split (zfi) zaA (yaa 1) (zaa yas yac)))
  (zab (r_if (zan rfl (r_bm rfl PySem.F.plainAttrs_str PySem.F.slot_str_startswith PySem.F.type_str_startswith (zdF) zaA (yaa 1) (zaa (r_gS rfl Z.c_LEAF_WORD) yac))) (yag (yao (yav rfl C (zaB Z) hr.m (yaa 0) (zaa (yan rfl C (zeD Z) hr.m rfl (zaa (zb7 rfl (yaa 1) (zbp (r_bi (b_len rfl) rfl Z.b_len PySem.boot_len (zaa (r_gS rfl Z.c_LEAF_WORD) yac))) zc7) yac)) yac)))) yay)
  (zab (r_if (rt_w (ydO (yaw (o_eq rfl hu) (r_ix rfl hu (yaa 2) yaf) yas (yar _)) (zbo (yaw (o_eq rfl hu) (r_bi (b_len rfl) rfl Z.b_len PySem.boot_len (zaa (yaa 2) yac)) yaf (yar _))))) (yag (yao (yav rfl C (zaH Z) hr.m (yaa 0) (zaa (yan rfl C (zbH Z) hr.m rfl (zaa (r_ix rfl hu (yaa 2) yaf) yac)) (zaa (yan rfl C (zbH Z) hr.m rfl (zaa (r_ix rfl hu (yaa 2) yaf) yac)) yac))))) yay)
  (yag (zaO Z.x_NoLine zaN rfl (zaa yas yac))))))
theorem zg1 : GF P w (mkT K cls exc) mg base 7 "is_laid" ycN:=gf Z.d_is_laid zfZ fun hr C hu nd =>
 (zab (yaq (i:=2) nd (zap rfl C (zad Z) hr.m (yaa 0)))
  (zab (yg3 rfl rfl Z.ct_SkeinError (fun _ _ Ex2 C2 R2=>(yag (yaq (i:=3) nd (yan rfl C2 (zeE Z) hr.m rfl (zaa (yaa 0) (zaa (yaa 1) yac)))))) (fun _ C3=>(yag (yao r_bl))))
  (yag (yao (ydA o_gt (yaa 3) (yaa 2) (yar _))))))
theorem zaI : GF P w (mkT K cls exc) mg base 8 "read_shelf" ya3:=gf Z.d_read_shelf zdW fun hr C hu nd =>
 (zab (yaq (i:=1) nd (zfe rfl C (zbZ Z) hr.m rfl))
  (zab (r_if (yaw (o_eq rfl hu) (yaa 0) yas (yar _)) (yag (yao (yaa 1))) yay)
  (zab (yb7 rfl (ziA (E:=EN) rfl rfl Z.b_enumerate (r_bm rfl PySem.F.plainAttrs_str PySem.F.slot_str_split PySem.F.type_str_split (zfi) zaA (yaa 0) (zaa yas yac))) (yfn rfl rfl (zbb (i:=2) nd (zbb (i:=3) nd zfb))) (yag (r_if (yb0 (zan rfl (yan rfl (C.nox) (zg1 Z) hr.m rfl (zaa (yaa 1) (zaa (yaa 3) yac))))) (yag (zhE rfl Z.g_Torn ziR hr.m rfl (zaa (yaa 2) yac))) yay)))
  (yag (yao (yaa 1))))))
theorem zeU : GF P w (mkT K cls exc) mg base 1 "_law_mixed" ycI:=gf Z.d_law_mixed zeA fun hr C hu nd =>
 (zab (yaq (i:=2) nd (yak ydy (yak ybY (yak (yaK rfl) (yak (yaK rfl) (yak ydy (yaa 0) yaf) (yak ybY yaf (yaa 1))) yaf) yaf) yaf))
  (yag (yao (yak ydy (yak ybY (yak ydy (yak ybY (yaa 2) (yaa 2)) yaf) yaf) yaf))))
theorem zbe : GF P w (mkT K cls exc) mg base 2 "_law_stream" yaQ:=gf Z.d_law_stream zdX fun {f cdv A outer s H E} hr C hu nd =>
 (zab (yaq (i:=2) nd yaf)
  (zab (yb7 rfl (zdE (E:=EN) rfl Z.b_range (yaa 1) (r_bi (b_len rfl) rfl Z.b_len PySem.boot_len (zaa (yaa 0) yac)) yaf) (zax (i:=3) nd) (yag (yaq (i:=2) nd (yak (yaK rfl) (yak ybY (yaa 2) (yak ydz yaf yaf)) (yak ydy (r_ix rfl hu (yaa 0) (yaa 3)) (yak ydz yaf yaf))))))
  (zab (r_if (yaw o_ge (yaa 2) (yak ydz yaf yaf) (yar _)) (yag (yao (ybT (zaa (yaa 2) yac)))) yay)
  (zab (yaq (i:=2) nd (yak (yaK rfl) (yaa 2) (r_bi (b_sum rfl) rfl Z.b_sum PyProof.Rows.boot_sum (zaa (ydu (jf:=[]) (zaG (N:=["script", "k", "cell", "j", "found"]) (sc:=yad ycD) rfl (fun _=>rfl) (by decide +kernel)) rfl (ydt (E:=(fun _=>E)) rfl (yaa 0)) (fun _ _ _ _ _=>zaU) (fun _ _ _ _ _=>(yak ydy (yaa 0) (yak ydz yaf yaf)))) yac))))
  (zab (yaq (i:=4) nd yaf)
  (zab (yb7 rfl (za0 (E:=EN) rfl Z.b_range yaf) (zax (i:=3) nd) (yag (yaq (i:=4) nd (yak (yaK rfl) (yak ybY (yaa 4) yaf) (yan rfl (C.nox) (zeU Z) hr.m rfl (zaa (yak (yaK rfl) (yak (yaK rfl) (yaa 2) (yak ybY yaf (yaa 1))) (r_bi (b_len rfl) rfl Z.b_len PySem.boot_len (zaa (yaa 0) yac))) (zaa (yaa 3) yac)))))))
  (yag (yao (ybT (zaa (yak yeV (yaa 4) yaf) yac))))))))))
theorem zah : GF P w (mkT K cls exc) mg base 1 "_law_digit" yah:=gf Z.d_law_digit zeB fun hr C hu nd =>
 (zab (yaq (i:=2) nd (yak ydy (r_ix rfl hu (yaa 0) yaf) (yaa 1)))
  (zab (zb6 hu (yaa 0) yaf (yak yeV (r_ix rfl hu (yaa 0) yaf) (yaa 1)))
  (yag (yao (yaa 2)))))
theorem zbI : GF P w (mkT K cls exc) mg base 2 "_law_letters" ybU:=gf Z.d_law_letters zdk fun hr C hu nd =>
 (zab (yaq (i:=1) nd yas)
  (zab (yaq (i:=1) nd (yak (yaK rfl) (yaa 1) yas))
  (zab (yaq (i:=2) nd (yeW (zaa yas (zaa yas (zaa yas (zaa (yaa 1) (zaa yas yac)))))))
  (yag (yao (r_ix rfl hu (yaa 2) (yan rfl C (zah Z) hr.m rfl (zaa (yaa 0) (zaa yaf yac)))))))))
theorem za8 : ∀ d,GF P w (mkT K cls exc) mg base (5 + d + 1) "_law_tree" (ybs d)
 | 0=>gf Z.d_law_tree zcm fun _ _ _ _=>yft
 | d + 1=>gf Z.d_law_tree zcm fun {f cdv A outer s H E} hr C hu nd =>
  (zab (r_if (yaw (o_eq rfl hu) (yaa 3) yaf (yar _)) (zab (yaq (i:=5) nd (r_bi (yfr) rfl Z.b_max PyProof.Rows.boot_max (zaa yaf (zaa (yak ycU yaf (yaa 4)) yac))))
  (zab (yaq (i:=6) nd (yak (yaK rfl) (yaa 5) (yan rfl C (zah Z) (hr.mono (show 1 <= 5 + (d + 1) by lia)) rfl (zaa (yaa 1) (zaa (yak ycU yaf (yaa 5)) yac)))))
  (zab (yaq (i:=7) nd (r_bm rfl PySem.F.plainAttrs_str PySem.F.slot_str_join PySem.F.type_str_join (yeH rfl) zaA yas (zaa (ydu (jf:=[(2, "letters"),(1, "row")]) (zaG (N:=["shelf", "row", "letters", "height", "last", "least", "many", "plain", "lower", "turn", "one", "other"]) (sc:=yad ycZ) rfl (fun _=>rfl) (by decide +kernel)) rfl (za0 (E:=(fun _=>E)) rfl Z.b_range (yaa 6)) (fun _ _ _ _ _=>zaU) (fun _ _ _ _ _=>(r_ix rfl hu (yaa 1) (yan rfl (CA.never rfl) (zah Z) (hr.mono (show 1 <= 5 + (d + 1) by lia)) rfl (zaa (yaa 2) (zaa (r_bi (b_len rfl) rfl Z.b_len PySem.boot_len (zaa (yaa 1) yac)) yac)))))) yac)))
  (yag (yao (ydB (zaa (yav rfl C (zaB Z) (hr.mono (show 4 <= 5 + (d + 1) by lia)) (yaa 0) (zaa (yaa 7) yac)) (zaa (yaa 7) (zaa (yaa 6) yac))))))))) yay)
  (zab (yaq (i:=8) nd (yak ybY (r_ix rfl hu (yeW (zaa yaf (zaa yaf (zaa yaf yac)))) (yan rfl C (zah Z) (hr.mono (show 1 <= 5 + (d + 1) by lia)) rfl (zaa (yaa 1) (zaa yaf yac)))) (r_ty (b_int) rfl Z.b_int yeE (zaa (ydA o_gt (yaa 3) yaf (yar _)) yac))))
  (zab (yaq (i:=9) nd (yan rfl C (zah Z) (hr.mono (show 1 <= 5 + (d + 1) by lia)) rfl (zaa (yaa 1) (zaa yaf yac))))
  (zab (yaq (i:=10) nd (yan rfl C (za8 d) (hr.mono (by lia)) rfl (zaa (yaa 0) (zaa (yaa 1) (zaa (yaa 2) (zaa (yak ycU (yak ycU (yaa 3) yaf) (yak ybY (yaa 8) (yaa 9))) (zaa (yaa 4) yac)))))))
  (zab (yaq (i:=11) nd (yan rfl C (za8 d) (hr.mono (by lia)) rfl (zaa (yaa 0) (zaa (yaa 1) (zaa (yaa 2) (zaa (yak ycU (yak ycU (yaa 3) yaf) (yak ybY (yaa 8) (yak ycU yaf (yaa 9)))) (zaa (r_ix rfl hu (yaa 10) yaf) yac)))))))
  (yag (yao (ydB (zaa (yav rfl C (zaH Z) (hr.mono (show 5 <= 5 + (d + 1) by lia)) (yaa 0) (zaa (r_ix rfl hu (yaa 10) yaf) (zaa (r_ix rfl hu (yaa 11) yaf) yac))) (zaa (yak (yaK rfl) (r_ix rfl hu (yaa 10) yaf) (r_ix rfl hu (yaa 11) yaf)) (zaa (r_ix rfl hu (yaa 11) yaf) yac)))))))))))
theorem zf3 : GF P w (mkT K cls exc) mg base 17 "_law_text" ybR:=gf Z.d_law_text zeR fun hr C hu nd =>
 (zab (yaq (i:=3) nd (yan rfl C (zbI Z) hr.m rfl (zaa (yaa 1) yac)))
  (zab (r_if (yaw (o_eq rfl hu) (yan rfl C (zah Z) hr.m rfl (zaa (yaa 1) (zaa yaf yac))) yaf (yar _)) (yag (yao (ydB (zaa yaf (zaa yas yac))))) yay)
  (zab (yaq (i:=4) nd (yan rfl C (za8 Z 10) hr.m rfl (zaa (yaa 0) (zaa (yaa 1) (zaa (yaa 3) (zaa (yan rfl C (zah Z) hr.m rfl (zaa (yaa 1) (zaa (yak (yaK rfl) (yaa 2) yaf) yac))) (zaa yaf yac)))))))
  (yag (yao (ydB (zaa (r_ix rfl hu (yaa 4) yaf) (zaa (r_ix rfl hu (yaa 4) yaf) yac))))))))
theorem zf4 : GF P w (mkT K cls exc) mg base 17 "_law_long" ycz:=gf Z.d_law_long zeS fun hr C hu nd =>
 (zab (yaq (i:=2) nd (yan rfl C (zbI Z) hr.m rfl (zaa (yaa 1) yac)))
  (zab (yg0 (yan rfl C (za8 Z 10) hr.m rfl (zaa (yaa 0) (zaa (yaa 1) (zaa (yaa 2) (zaa (yan rfl C (zah Z) hr.m rfl (zaa (yaa 1) (zaa yaf yac))) (zaa yaf yac)))))) (yfn rfl rfl (zbb (i:=3) nd (zbb (i:=4) nd (zbb (i:=5) nd zfb)))))
  (zab (yaq (i:=6) nd yaf)
  (zab (yb7 rfl (za0 (E:=EN) rfl Z.b_range (yan rfl (C.nox) (zah Z) hr.m rfl (zaa (yaa 1) (zaa yaf yac)))) (zax (i:=7) nd) (yag (r_if (yaw o_le (yak ybY (yak ybY (r_bi (b_len rfl) rfl Z.b_len PySem.boot_len (zaa (yaa 4) yac)) (yaa 6)) yaf) (yak ydz yaf yaf) (yar _)) (zab (yaq (i:=3) nd (yav rfl (C.nox) (zaH Z) hr.m (yaa 0) (zaa (yaa 3) (zaa (yaa 3) yac))))
  (yag (yaq (i:=6) nd (yak ybY (yaa 6) yaf)))) yay)))
  (yag (yao (ydB (zaa (yaa 3) (zaa (yaa 4) (zaa (yaa 6) yac))))))))))
theorem zcf : GF P w (mkT K cls exc) mg base 18 "_law_drawn_shelf" ybc:=gf Z.d_law_drawn_shelf zbW fun hr C hu nd =>
 (zab (yaq (i:=1) nd (zfe rfl C (zbZ Z) hr.m rfl))
  (zab (yaq (i:=2) nd (yan rfl C (zbe Z) hr.m rfl (zaa (yaa 0) (zaa yaf yac))))
  (zab (yb7 rfl (za0 (E:=EN) rfl Z.b_range (yan rfl (C.nox) (zah Z) hr.m rfl (zaa (yaa 2) (zaa yaf yac)))) (zax (i:=3) nd) (yag (yaB (yan rfl (C.nox) (zf3 Z) hr.m rfl (zaa (yaa 1) (zaa (yaa 2) (zaa yaf yac)))))))
  (zab (r_if (yaw (o_eq rfl hu) (yan rfl C (zah Z) hr.m rfl (zaa (yaa 2) (zaa yaf yac))) yaf (yar _)) (yag (yaB (yan rfl C (zf4 Z) hr.m rfl (zaa (yaa 1) (zaa (yan rfl C (zbe Z) hr.m rfl (zaa (yaa 0) (zaa yaf yac))) yac))))) yay)
  (yag (yao (yaa 1)))))))
theorem zg2 : GFT P w (mkT K cls exc) mg base 1 "written" ycO:=gt Z.d_written zf0 fun hr C hu nd =>
 (yg7 (yg8 (zfl (zfl (yie (yaa 0))))))
theorem zeV : GF P w (mkT K cls exc) mg base 2 "piece_row" ybl:=gf Z.d_piece_row zeC fun hr C hu nd =>
 (zab (r_if (yaw (o_eq rfl hu) (r_ix rfl hu (yaa 0) yaf) yas (yar _)) (yag (yao (yak (yaK rfl) (r_gS rfl Z.c_LEAF_WORD) (ziO rfl C (zg2 Z) hr.m rfl (zaa (r_ix rfl hu (yaa 0) yaf) yac) (zgG (zhG zgF)))))) yay)
  (yag (yao (yak (yaK rfl) (yak (yaK rfl) (yak (yaK rfl) yas (r_ty (b_str) rfl Z.b_str ycL (zaa (r_ix rfl hu (yaa 0) yaf) yac))) yas) (r_ty (b_str) rfl Z.b_str ycL (zaa (r_ix rfl hu (yaa 0) yaf) yac))))))
theorem zau : GM P w (mkT K cls exc) mg base 4 0 "piece" yap:=gm Z.d_Shelf_piece zdl (show ("piece" : Str) ∉ flds 0 by decide +kernel) fun hr C hu nd =>
 (zab (yaB (yav rfl C (zaw Z) hr.m (yaa 0) (zaa (yaa 1) yac)))
  (yag (yao (r_ix rfl hu (yaz rfl Z.cf_Shelf (yaa 0)) (yak ycU (yaa 1) yaf)))))
theorem zaJ : GF P w (mkT K cls exc) mg base 5 "shelf_text" yaN:=gf Z.d_shelf_text zdY fun {f cdv A outer s H E} hr C hu nd =>
 (yag (yao (r_bm rfl PySem.F.plainAttrs_str PySem.F.slot_str_join PySem.F.type_str_join (zc9 rfl) zaA yas (zaa (ydu (jf:=[(0, "shelf")]) (zaG (N:=["shelf"]) (sc:=yad ycE) rfl (fun _=>rfl) (by decide +kernel)) rfl (za1 (E:=(fun _=>E)) rfl Z.b_range yaf (yak (yaK rfl) (zap rfl C (zad Z) hr.m (yaa 0)) yaf)) (fun _ _ _ _ _=>zaU) (fun _ _ _ _ _=>(yan rfl (CA.never rfl) (zeV Z) hr.m rfl (zaa (yav rfl (CA.never rfl) (zau Z) hr.m (yaa 1) (zaa (yaa 0) yac)) yac)))) yac))))
theorem zbJ : GF P w (mkT K cls exc) mg base 1 "_law_written" ybp:=gf Z.d_law_written zdm fun hr C hu nd =>
 (zab (yaq (i:=1) nd yas)
  (zab (yb7 rfl (ydt (E:=EN) rfl (yaa 0)) (zax (i:=2) nd) (yag (yaq (i:=1) nd (yak (yaK rfl) (yaa 1) (yia hu ziP (yaa 2) (yaa 2))))))
  (yag (yao (yaa 1)))))
theorem zcg : GF P w (mkT K cls exc) mg base 5 "_law_other_order" ybr:=gf Z.d_law_other_order zbX fun hr C hu nd =>
 (zab (yaq (i:=1) nd ziw)
  (zab (yaq (i:=2) nd (ybT yac))
  (zab (yb7 rfl (zgJ (E:=EN) rfl Z.b_range (zap rfl (C.nox) (zad Z) hr.m (yaa 0)) yaf (yfY yaf)) (zax (i:=3) nd) (zab (yaq (i:=4) nd (yav rfl (C.nox) (zau Z) hr.m (yaa 0) (zaa (yaa 3) yac)))
  (yag (r_if (yaw (o_eq rfl hu) (r_ix rfl hu (yaa 4) yaf) yas (yar _)) (zab (yaB (r_bm rfl PySem.F.plainAttrs_list PySem.F.slot_list_append PySem.F.type_list_append (zai) zam (yaa 2) (zaa (yak (yaK rfl) yas (yan rfl (C.nox) (zbJ Z) hr.m rfl (zaa (r_ix rfl hu (yaa 4) yaf) yac))) yac)))
  (yag (zb6 hu (yaa 1) (yaa 3) (r_bi (b_len rfl) rfl Z.b_len PySem.boot_len (zaa (yaa 2) yac))))) yay))))
  (zab (yb7 rfl (za1 (E:=EN) rfl Z.b_range yaf (yak (yaK rfl) (zap rfl (C.nox) (zad Z) hr.m (yaa 0)) yaf)) (zax (i:=3) nd) (zab (yaq (i:=4) nd (yav rfl (C.nox) (zau Z) hr.m (yaa 0) (zaa (yaa 3) yac)))
  (yag (r_if (yaw (o_eq rfl hu) (r_ix rfl hu (yaa 4) yaf) yas (yar _)) (zab (yaB (r_bm rfl PySem.F.plainAttrs_list PySem.F.slot_list_append PySem.F.type_list_append (zai) zam (yaa 2) (zaa (yak (yaK rfl) (yak (yaK rfl) (yak (yaK rfl) yas (r_ty (b_str) rfl Z.b_str ycL (zaa (r_ix rfl hu (yaa 1) (r_ix rfl hu (yaa 4) yaf)) yac))) yas) (r_ty (b_str) rfl Z.b_str ycL (zaa (r_ix rfl hu (yaa 1) (r_ix rfl hu (yaa 4) yaf)) yac))) yac)))
  (yag (zb6 hu (yaa 1) (yaa 3) (r_bi (b_len rfl) rfl Z.b_len PySem.boot_len (zaa (yaa 2) yac))))) yay))))
  (yag (yao (r_bm rfl PySem.F.plainAttrs_str PySem.F.slot_str_join PySem.F.type_str_join (zc9 rfl) zaA yas (zaa (yaa 2) yac))))))))
theorem zcI : ∀ d,GF P w (mkT K cls exc) mg base (5 + d + 1) "halved" (ybA d)
 | 0=>gf Z.d_halved zdN fun _ _ _ _=>yft
 | d + 1=>gf Z.d_halved zdN fun hr C hu nd =>
  (zab (r_if (yaw (o_eq rfl hu) (r_bi (b_len rfl) rfl Z.b_len PySem.boot_len (zaa (yaa 1) yac)) yaf (yar _)) (yag (yao (r_ix rfl hu (yaa 1) yaf))) yay)
  (zab (yaq (i:=2) nd (yak yeV (r_bi (b_len rfl) rfl Z.b_len PySem.boot_len (zaa (yaa 1) yac)) yaf))
  (yag (yao (yav rfl C (zaH Z) (hr.mono (show 5 <= 5 + (d + 1) by lia)) (yaa 0) (zaa (yan rfl C (zcI d) (hr.mono (by lia)) rfl (zaa (yaa 0) (zaa (zb7 rfl (yaa 1) zc7 (zbp (yaa 2))) yac))) (zaa (yan rfl C (zcI d) (hr.mono (by lia)) rfl (zaa (yaa 0) (zaa (zb7 rfl (yaa 1) (zbp (yaa 2)) zc7) yac))) yac)))))))
theorem zjb : GF P w (mkT K cls exc) mg base 27 "built" yco:=gf Z.d_built zhU fun {f cdv A outer s H E} hr C hu nd =>
 (zab (r_if (yb0 (zan rfl (yan rfl C (zcW Z) hr.m rfl (zaa (yaa 1) yac)))) (yag (zaO Z.x_NoText zaN rfl (zaa yas yac))) yay)
  (zab (r_if (yaw o_gt (r_bi (b_len rfl) rfl Z.b_len PySem.boot_len (zaa (yaa 1) yac)) (r_gI rfl Z.c_MOST_PLAIN) (yar _)) (yag (zaO Z.x_TooLong zaN rfl (zaa yas yac))) yay)
  (zab (r_if (yaw (o_eq rfl hu) (yaa 1) yas (yar _)) (yag (yao yaf)) yay)
  (zab (ziC (jf:=[(0, "shelf"),(1, "plain")]) (zaG (N:=["shelf", "plain", "leaves"]) (sc:=yad yd0) rfl (fun _=>rfl) (by decide +kernel)) rfl (zdE (E:=(fun _=>E)) rfl Z.b_range yaf (r_bi (b_len rfl) rfl Z.b_len PySem.boot_len (zaa (yaa 1) yac)) (r_gI rfl Z.c_LEAF_SIGNS)) (fun _ _ _ _ _=>zaU) (fun _ _ _ _ _=>(yav rfl (CA.never rfl) (zaB Z) hr.m (yaa 1) (zaa (zb7 rfl (yaa 2) (zbp (yaa 0)) (zbp (yak (yaK rfl) (yaa 0) (r_gI rfl Z.c_LEAF_SIGNS)))) yac))) nd (i:=2))
  (yag (yao (yan rfl C (zcI Z 20) hr.m rfl (zaa (yaa 0) (zaa (yaa 2) yac)))))))))
theorem zbf : GF P w (mkT K cls exc) mg base 5 "_law_shelf_text" yaZ:=gf Z.d_law_shelf_text zcd fun hr C hu nd =>
 (zab (yaq (i:=1) nd (ybT yac))
  (zab (yb7 rfl (za1 (E:=EN) rfl Z.b_range yaf (yak (yaK rfl) (zap rfl (C.nox) (zad Z) hr.m (yaa 0)) yaf)) (zax (i:=2) nd) (zab (yaq (i:=3) nd (yav rfl (C.nox) (zau Z) hr.m (yaa 0) (zaa (yaa 2) yac)))
  (yag (r_if (yaw (o_eq rfl hu) (r_ix rfl hu (yaa 3) yaf) yas (yar _)) (yag (yaB (r_bm rfl PySem.F.plainAttrs_list PySem.F.slot_list_append PySem.F.type_list_append (zai) zam (yaa 1) (zaa (yak (yaK rfl) yas (yan rfl (C.nox) (zbJ Z) hr.m rfl (zaa (r_ix rfl hu (yaa 3) yaf) yac))) yac)))) (yag (yaB (r_bm rfl PySem.F.plainAttrs_list PySem.F.slot_list_append PySem.F.type_list_append (zai) zam (yaa 1) (zaa (yak (yaK rfl) (yak (yaK rfl) (yak (yaK rfl) yas (r_ty (b_str) rfl Z.b_str ycL (zaa (r_ix rfl hu (yaa 3) yaf) yac))) yas) (r_ty (b_str) rfl Z.b_str ycL (zaa (r_ix rfl hu (yaa 3) yaf) yac))) yac))))))))
  (yag (yao (r_bm rfl PySem.F.plainAttrs_str PySem.F.slot_str_join PySem.F.type_str_join (zc9 rfl) zaA yas (zaa (yaa 1) yac))))))
theorem zao : GM P w (mkT K cls exc) mg base 4 0 "check_text" yaI:=gm Z.d_Shelf_check_text zbM (show ("check_text" : Str) ∉ flds 0 by decide +kernel) fun hr C hu nd =>
 (yag (r_if (yaw (o_ne rfl hu) (yaa 1) yaf (yar _)) (yag (yaB (yav rfl C (zaw Z) hr.m (yaa 0) (zaa (yaa 1) yac)))) yay))
theorem za5 : GM P w (mkT K cls exc) mg base 5 0 "last_leaf" ybd:=gm Z.d_Shelf_last_leaf zbY (show ("last_leaf" : Str) ∉ flds 0 by decide +kernel) fun hr C hu nd =>
 (zab (yaB (yav rfl C (zao Z) hr.m (yaa 0) (zaa (yaa 1) yac)))
  (yag (yao (r_ix rfl hu (yaz rfl Z.cf_Shelf (yaa 0)) (yaa 1)))))
theorem zbK : GM P w (mkT K cls exc) mg base 5 0 "signs" ybE:=gm Z.d_Shelf_signs zdn (show ("signs" : Str) ∉ flds 0 by decide +kernel) fun hr C hu nd =>
 (zab (yaB (yav rfl C (zao Z) hr.m (yaa 0) (zaa (yaa 1) yac)))
  (yag (yao (r_ix rfl hu (yaz rfl Z.cf_Shelf (yaa 0)) (yaa 1)))))
theorem zb1 : GM P w (mkT K cls exc) mg base 5 0 "ends" ybN:=gm Z.d_Shelf_ends zdZ (show ("ends" : Str) ∉ flds 0 by decide +kernel) fun hr C hu nd =>
 (zab (yaB (yav rfl C (zao Z) hr.m (yaa 0) (zaa (yaa 1) yac)))
  (yag (yao (r_ix rfl hu (yaz rfl Z.cf_Shelf (yaa 0)) (yaa 1)))))
theorem zbt : GM P w (mkT K cls exc) mg base 5 0 "leaves" ybv:=gm Z.d_Shelf_leaves zcU (show ("leaves" : Str) ∉ flds 0 by decide +kernel) fun hr C hu nd =>
 (zab (yaB (yav rfl C (zao Z) hr.m (yaa 0) (zaa (yaa 1) yac)))
  (yag (yao (r_ix rfl hu (yaz rfl Z.cf_Shelf (yaa 0)) (yaa 1)))))
theorem zbu : GM P w (mkT K cls exc) mg base 5 0 "height" ybw:=gm Z.d_Shelf_height zcV (show ("height" : Str) ∉ flds 0 by decide +kernel) fun hr C hu nd =>
 (zab (yaB (yav rfl C (zao Z) hr.m (yaa 0) (zaa (yaa 1) yac)))
  (yag (yao (r_ix rfl hu (yaz rfl Z.cf_Shelf (yaa 0)) (yaa 1)))))
theorem za4 : GM P w (mkT K cls exc) mg base 5 0 "first_leaf" ya5:=gm Z.d_Shelf_first_leaf zbN (show ("first_leaf" : Str) ∉ flds 0 by decide +kernel) fun hr C hu nd =>
 (zab (yaB (yav rfl C (zao Z) hr.m (yaa 0) (zaa (yaa 1) yac)))
  (yag (yao (r_ix rfl hu (yaz rfl Z.cf_Shelf (yaa 0)) (yaa 1)))))
theorem zcX : GF P w (mkT K cls exc) mg base 6 "_law_same" yb9:=gf Z.d_law_same zeT fun hr C hu nd =>
 (zab (r_if (yaw (o_ne rfl hu) (zap rfl C (zad Z) hr.m (yaa 0)) (zap rfl C (zad Z) hr.m (yaa 1)) (yar _)) (yag (yao r_bl)) yay)
  (zab (yb7 rfl (za1 (E:=EN) rfl Z.b_range yaf (yak (yaK rfl) (zap rfl (C.nox) (zad Z) hr.m (yaa 0)) yaf)) (zax (i:=2) nd) (zab (r_if (rt_w (ydk (yaw (o_ne rfl hu) (yav rfl (C.nox) (zau Z) hr.m (yaa 0) (zaa (yaa 2) yac)) (yav rfl (C.nox) (zau Z) hr.m (yaa 1) (zaa (yaa 2) yac)) (yar _)) (yc5 (yaw (o_ne rfl hu) (yav rfl (C.nox) (zbK Z) hr.m (yaa 0) (zaa (yaa 2) yac)) (yav rfl (C.nox) (zbK Z) hr.m (yaa 1) (zaa (yaa 2) yac)) (yar _))))) (yag (yao r_bl)) yay)
  (zab (r_if (rt_w (ydk (yaw (o_ne rfl hu) (yav rfl (C.nox) (zb1 Z) hr.m (yaa 0) (zaa (yaa 2) yac)) (yav rfl (C.nox) (zb1 Z) hr.m (yaa 1) (zaa (yaa 2) yac)) (yar _)) (yc5 (yaw (o_ne rfl hu) (yav rfl (C.nox) (zbt Z) hr.m (yaa 0) (zaa (yaa 2) yac)) (yav rfl (C.nox) (zbt Z) hr.m (yaa 1) (zaa (yaa 2) yac)) (yar _))))) (yag (yao r_bl)) yay)
  (zab (r_if (rt_w (ydk (yaw (o_ne rfl hu) (yav rfl (C.nox) (zbu Z) hr.m (yaa 0) (zaa (yaa 2) yac)) (yav rfl (C.nox) (zbu Z) hr.m (yaa 1) (zaa (yaa 2) yac)) (yar _)) (yc5 (yaw (o_ne rfl hu) (yav rfl (C.nox) (za4 Z) hr.m (yaa 0) (zaa (yaa 2) yac)) (yav rfl (C.nox) (za4 Z) hr.m (yaa 1) (zaa (yaa 2) yac)) (yar _))))) (yag (yao r_bl)) yay)
  (yag (r_if (yaw (o_ne rfl hu) (yav rfl (C.nox) (za5 Z) hr.m (yaa 0) (zaa (yaa 2) yac)) (yav rfl (C.nox) (za5 Z) hr.m (yaa 1) (zaa (yaa 2) yac)) (yar _)) (yag (yao r_bl)) yay))))))
  (yag (yao r_bl))))
theorem yin {f : Addr} {fd : FuncData} (h4 : Fun K "law" "law" yem f fd) : FnOk P w K mg base (CXE P w) 28 f fd ["script"] (spA (mkT K cls exc) ye5):=gl (T:=mkT K cls exc) h4 yhw fun {cdv A outer s H E} hr C hu nd =>
 (zab (yaq (i:=1) nd (yan rfl C (zaI Z) hr.m rfl (zaa yas yac)))
  (zab (r_if (rt_w (ydk (yb0 (zan rfl (yf6 rfl rfl Z.b_isinstance (yaa 1) rfl Z.ko_Shelf))) (yc5 (yaw (o_ne rfl hu) (zap rfl C (zad Z) hr.m (yaa 1)) yaf (yar _))))) (yag (yao r_bl)) yay)
  (zab (yaq (i:=2) nd (yan rfl C (zcf Z) hr.m rfl (zaa (yaa 0) yac)))
  (zab (yaq (i:=3) nd (yan rfl C (zbe Z) hr.m rfl (zaa (yaa 0) (zaa yaf yac))))
  (zab (r_if (yaw (o_eq rfl hu) (yan rfl C (zah Z) hr.m rfl (zaa (yaa 3) (zaa yaf yac))) yaf (yar _)) (zab (yaq (i:=4) nd (yan rfl C (zah Z) hr.m rfl (zaa (yaa 3) (zaa (yak ydz yaf yaf) yac))))
  (yag (yaB (yan rfl C (zjb Z) hr.m rfl (zaa (yaa 2) (zaa (r_bm rfl PySem.F.plainAttrs_str PySem.F.slot_str_join PySem.F.type_str_join (yeH rfl) zaA yas (zaa (ydu (jf:=[(4, "far")]) (zaG (N:=["script", "empty", "shelf", "row", "far", "text", "many", "found", "number", "piece", "plain", "other", "turned"]) (sc:=yad yem) rfl (fun _=>rfl) (by decide +kernel)) rfl (za0 (E:=(fun _=>E)) rfl Z.b_range yaf) (fun _ _ _ _ _=>zaU) (fun _ _ _ _ _=>(r_ty (b_str) rfl Z.b_str ycL (zaa (yak (yaK rfl) (yak (yaK rfl) (yak ydz yaf yaf) (yak ybY yaf (yaa 0))) (yaa 1)) yac)))) yac)) yac)))))) yay)
  (zab (yaq (i:=5) nd (yan rfl C (zaJ Z) hr.m rfl (zaa (yaa 2) yac)))
  (zab (r_if (yaw (o_ne rfl hu) (yaa 5) (yan rfl C (zbf Z) hr.m rfl (zaa (yaa 2) yac)) (yar _)) (yag (yao r_bl)) yay)
  (zab (yaq (i:=6) nd (zap rfl C (zad Z) hr.m (yaa 2)))
  (zab (yaq (i:=7) nd (yan rfl C (zaI Z) hr.m rfl (zaa (yaa 5) yac)))
  (zab (r_if (rt_w (ydk (yb0 (zan rfl (yf6 rfl rfl Z.b_isinstance (yaa 7) rfl Z.ko_Shelf))) (ydk (yb0 (zan rfl (yan rfl C (zcX Z) hr.m rfl (zaa (yaa 2) (zaa (yaa 7) yac))))) (yc5 (yaw (o_ne rfl hu) (yan rfl C (zaJ Z) hr.m rfl (zaa (yaa 7) yac)) (yaa 5) (yar _)))))) (yag (yao r_bl)) yay)
  (zab (yb7 rfl (za1 (E:=EN) rfl Z.b_range yaf (yak (yaK rfl) (yaa 6) yaf)) (zax (i:=8) nd) (zab (yaq (i:=9) nd (yav rfl (C.nox) (zau Z) hr.m (yaa 2) (zaa (yaa 8) yac)))
  (zab (r_if (rt_w (ydO (yaw (o_eq rfl hu) (r_ix rfl hu (yaa 9) yaf) yas (yar _)) (zbo (yaw (o_ne rfl hu) (yav rfl (C.nox) (zaB Z) hr.m (yaa 7) (zaa (r_ix rfl hu (yaa 9) yaf) yac)) (yaa 8) (yar _))))) (yag (yao r_bl)) yay)
  (yag (r_if (rt_w (ydO (yaw (o_eq rfl hu) (r_ix rfl hu (yaa 9) yaf) yas (yar _)) (zbo (yaw (o_ne rfl hu) (yav rfl (C.nox) (zaH Z) hr.m (yaa 7) (zaa (r_ix rfl hu (yaa 9) yaf) (zaa (r_ix rfl hu (yaa 9) yaf) yac))) (yaa 8) (yar _))))) (yag (yao r_bl)) yay)))))
  (zab (yaB (yav rfl C (zaB Z) hr.m (yaa 7) (zaa yas yac)))
  (zab (yb7 rfl (ydt (E:=EN) rfl (yeW (zaa yas (zaa yas (zaa yas (zaa yas yac)))))) (zax (i:=10) nd) (yag (yaB (yav rfl (C.nox) (zaB Z) hr.m (yaa 7) (zaa (yaa 10) yac)))))
  (zab (r_if (rt_w (ydk (yaw (o_ne rfl hu) (zap rfl C (zad Z) hr.m (yan rfl C (zaI Z) hr.m rfl (zaa (yan rfl C (zaJ Z) hr.m rfl (zaa (yaa 7) yac)) yac))) (zap rfl C (zad Z) hr.m (yaa 7)) (yar _)) (yc5 (yb0 (zan rfl (yan rfl C (zcX Z) hr.m rfl (zaa (yaa 7) (zaa (yan rfl C (zaI Z) hr.m rfl (zaa (yan rfl C (zaJ Z) hr.m rfl (zaa (yaa 7) yac)) yac)) yac)))))))) (yag (yao r_bl)) yay)
  (zab (r_if (rt_w (ydk (yaw (o_ne rfl hu) (zap rfl C (zad Z) hr.m (yaa 2)) (yaa 6) (yar _)) (yc5 (yaw (o_ne rfl hu) (yan rfl C (zbf Z) hr.m rfl (zaa (yaa 2) yac)) (yaa 5) (yar _))))) (yag (yao r_bl)) yay)
  (zab (r_if (yaw o_gt (r_bi (b_len rfl) rfl Z.b_len PySem.boot_len (zaa (yaa 5) yac)) yaf (yar _)) (yag (yao (ydA (o_eq rfl hu) (zap rfl C (zad Z) hr.m (yaa 1)) yaf (yar _)))) yay)
  (zab (yaq (i:=11) nd (yan rfl C (zcg Z) hr.m rfl (zaa (yaa 2) yac)))
  (zab (yaq (i:=12) nd (yan rfl C (zaI Z) hr.m rfl (zaa (yaa 11) yac)))
  (yag (yao (yeb (ydA (o_eq rfl hu) (zap rfl C (zad Z) hr.m (yaa 12)) (yaa 6) (yar _)) (yeb (ydA (o_eq rfl hu) (yan rfl C (zaJ Z) hr.m rfl (zaa (yaa 12) yac)) (yaa 11) (yar _)) (yea (ydA (o_eq rfl hu) (zap rfl C (zad Z) hr.m (yaa 1)) yaf (yar _)))))))))))))))))))))))))
end
end Sk
namespace Sk
open PySem PySem.Spec L2 Sm
abbrev FX (l : PySem.W.OpenLaw) (w : World) (K : PySem.W.Frag) (mg : Str -> Option Value) (fa : Addr) : Prop:=∃ fd : FuncData,(∀ (s : Shared) (v : Value),BindsTo s fd ⟨[v],[]⟩ [("script",v)]) /\ ∀ base : Heap,K.In base -> base.Ns mainGlobals mg -> FnOk l.prog w K mg base (CXE l.prog w) 28 fa fd ["script"] (spL K)
theorem all_mk {l : PySem.W.OpenLaw} {w : World} {K : PySem.W.Frag} {h : Heap} {mg : Str -> Option Value} {fa C0 X0 X1 X2 X3 X4 X5 X6 X7 G_MARKED : Addr} {tk_LEAF_SIGNS tk_MOST_PLAIN tk_MOST_SIGNS tk_MOST_FIGURES tk_LEAF_WORD : Tok} (X : K.In h) (G : h.Ns mainGlobals mg) (hfa : mg "law" = some (.ref fa))
  (aC0 : NA K "Shelf" (some (.ref C0))) (a0 : DN K C0 "__init__" "Shelf.__init__" ydb) (a1 : DN K C0 "many" "Shelf.many" ydc) (a5 : DN K C0 "lay" "Shelf.lay" ydn) (a7 : DN K C0 "lay_leaf" "Shelf.lay_leaf" ycj) (a8 : DN K C0 "leaf" "Shelf.leaf" ydd) (a10 : DN K C0 "has_piece" "Shelf.has_piece" ycb) (a11 : DN K C0 "check_piece" "Shelf.check_piece" ybW) (a12 : DN K C0 "check_fork" "Shelf.check_fork" yb1) (a13 : DN K C0 "lay_fork" "Shelf.lay_fork" yck) (a14 : DN K C0 "fork" "Shelf.fork" yde) (a30 : DN K C0 "piece" "Shelf.piece" ycR) (a37 : DN K C0 "check_text" "Shelf.check_text" yb2) (a38 : DN K C0 "last_leaf" "Shelf.last_leaf" yce) (a39 : DN K C0 "signs" "Shelf.signs" ycT) (a40 : DN K C0 "ends" "Shelf.ends" ydi) (a41 : DN K C0 "leaves" "Shelf.leaves" ycF) (a42 : DN K C0 "height" "Shelf.height" ycG) (a43 : DN K C0 "first_leaf" "Shelf.first_leaf" yb3) (a2 : DK K "is_plain_sign" ycC) (a3 : DK K "is_plain" ycY) (a4 : DK K "is_short" ydG) (a6 : DK K "ends_in" ydS) (a9 : DK K "is_whole" ydH) (a15 : DK K "read_plain" ydf) (a16 : DK K "read_number" yci) (a17 : DK K "piece_told" ydg) (a18 : DK K "is_laid" ydT) (a19 : DK K "read_shelf" ydh) (a20 : DK K "_law_mixed" ydo) (a21 : DK K "_law_stream" ycD) (a22 : DK K "_law_digit" ydp) (a23 : DK K "_law_letters" ycQ) (a24 : DK K "_law_tree" ycZ) (a25 : DK K "_law_text" ydI) (a26 : DK K "_law_long" ydJ) (a27 : DK K "_law_drawn_shelf" ycc) (a28 : DK K "written" ydU) (a29 : DK K "piece_row" ydq) (a31 : DK K "shelf_text" ycE) (a32 : DK K "_law_written" ycS) (a33 : DK K "_law_other_order" ycd) (a34 : DK K "halved" yd2) (a35 : DK K "built" yd0) (a36 : DK K "_law_shelf_text" ycl) (a44 : DK K "_law_same" ydK) (a45 : DK K "law" yem) (kk0 : Cls K C0) (mk0 : PySem.W.makesIn K C0 = true) (kc0 : PySem.W.keepIn K (.ref C0) = true) (nf0_0 : FA K C0 "pieces") (nf0_1 : FA K C0 "numbers") (nf0_2 : FA K C0 "sign_counts") (nf0_3 : FA K C0 "end_counts") (nf0_4 : FA K C0 "leaf_counts") (nf0_5 : FA K C0 "heights") (nf0_6 : FA K C0 "first_leaves") (nf0_7 : FA K C0 "last_leaves") (z_abs : NA K "abs" none) (z_all : NA K "all" none) (z_bool : NA K "bool" none) (z_enumerate : NA K "enumerate" none) (z_int : NA K "int" none) (z_isinstance : NA K "isinstance" none) (z_len : NA K "len" none) (z_max : NA K "max" none) (z_range : NA K "range" none) (z_str : NA K "str" none) (z_sum : NA K "sum" none) (e_SkeinError : NA K "SkeinError" (some (.ref X0))) (e_NoText : NA K "NoText" (some (.ref X1))) (x_NoText : XI K X1) (e_NoPiece : NA K "NoPiece" (some (.ref X2))) (x_NoPiece : XI K X2) (e_Loose : NA K "Loose" (some (.ref X3))) (x_Loose : XI K X3) (e_Unlevel : NA K "Unlevel" (some (.ref X4))) (x_Unlevel : XI K X4) (e_TooLong : NA K "TooLong" (some (.ref X5))) (x_TooLong : XI K X5) (e_Torn : NA K "Torn" (some (.ref X6))) (kp_Torn : PySem.W.keepIn K (.ref X6) = true) (j_Torn : XJ K X6 "Torn.__init__" ye8 "row") (e_NoLine : NA K "NoLine" (some (.ref X7))) (x_NoLine : XI K X7) (m_LEAF_SIGNS : NA K "LEAF_SIGNS" (some (.int 8 tk_LEAF_SIGNS))) (m_MOST_PLAIN : NA K "MOST_PLAIN" (some (.int 10000 tk_MOST_PLAIN))) (m_MOST_SIGNS : NA K "MOST_SIGNS" (some (.int 1000000000000000000 tk_MOST_SIGNS))) (m_MOST_FIGURES : NA K "MOST_FIGURES" (some (.int 30 tk_MOST_FIGURES))) (m_LEAF_WORD : NA K "LEAF_WORD" (some (.str "leaf " tk_LEAF_WORD))) (gd_MARKED : NA K "MARKED" (some (.ref G_MARKED))) (gt_MARKED : PyProof.Rows.KTD.tabLook PyProof.Rows.KTD.flatLooks (fun b=>K.lookup b) G_MARKED (D_MARKED.map fun p=>(p.1,PyData.str p.2)) = true) (gq_MARKED : PyProof.Rows.KTD.hashesOf (fun b=>K.lookup b) G_MARKED = D_MARKED.map fun p=>(PySem.strKind l.prog w).hash p.1) (yg : PySem.W.specialIn K (.builtin "object.__class__") "__get__" = some (some (.builtin "getset_descriptor.__get__"))) (yt : PySem.W.takesIn K (.builtin "object.__class__") = some true) (o1_0 : PySem.W.findIn K (.ref C0) "__class__" = some (some (.builtin "object.__class__"))) (o2_0 : PySem.W.mroIn K C0 (.type "object") = some true) (o3_0 : PySem.W.kitOne K (.ref C0) (.ref C0) = some true) (em_SkeinError_0 : XO K X0 X0) (em_SkeinError_1 : XO K X1 X0) (em_SkeinError_2 : XO K X2 X0) (em_SkeinError_3 : XO K X3 X0) (em_SkeinError_4 : XO K X4 X0) (em_SkeinError_5 : XO K X5 X0) (em_SkeinError_6 : XO K X6 X0) (em_SkeinError_7 : XO K X7 X0)
  : FX l w K mg fa:=by
 have Z : ∀ base : Heap,K.In base -> Facts l.prog w K (fun n=>[C0][n]?) (fun n=>[X0,X1,X2,X3,X4,X5,X6,X7][n]?) mg base:=fun base KB=>{
   b_abs:=PySem.W.mg_none_of X G z_abs,
   b_all:=PySem.W.mg_none_of X G z_all,
   b_bool:=PySem.W.mg_none_of X G z_bool,
   b_enumerate:=PySem.W.mg_none_of X G z_enumerate,
   b_int:=PySem.W.mg_none_of X G z_int,
   b_isinstance:=PySem.W.mg_none_of X G z_isinstance,
   b_len:=PySem.W.mg_none_of X G z_len,
   b_max:=PySem.W.mg_none_of X G z_max,
   b_range:=PySem.W.mg_none_of X G z_range,
   b_str:=PySem.W.mg_none_of X G z_str,
   b_sum:=PySem.W.mg_none_of X G z_sum,
   c_LEAF_SIGNS:=⟨_,PySem.W.mg_of X G m_LEAF_SIGNS⟩,
   c_MOST_PLAIN:=⟨_,PySem.W.mg_of X G m_MOST_PLAIN⟩,
   c_MOST_SIGNS:=⟨_,PySem.W.mg_of X G m_MOST_SIGNS⟩,
   c_MOST_FIGURES:=⟨_,PySem.W.mg_of X G m_MOST_FIGURES⟩,
   c_LEAF_WORD:=⟨_,PySem.W.mg_of X G m_LEAF_WORD⟩,
   cf_Shelf:=⟨C0,rfl,kk0,fun f hf=>by
   have hf2 : f ∈ flds 0:=hf
   simp only [flds,List.mem_cons,List.not_mem_nil,or_false] at hf2
   rcases hf2 with rfl | rfl | rfl | rfl | rfl | rfl | rfl | rfl
   ·exact nf0_0
   ·exact nf0_1
   ·exact nf0_2
   ·exact nf0_3
   ·exact nf0_4
   ·exact nf0_5
   ·exact nf0_6
   ·exact nf0_7⟩,
   x_NoText:=gx KB X G rfl e_NoText x_NoText,
   x_NoPiece:=gx KB X G rfl e_NoPiece x_NoPiece,
   x_Loose:=gx KB X G rfl e_Loose x_Loose,
   x_Unlevel:=gx KB X G rfl e_Unlevel x_Unlevel,
   x_TooLong:=gx KB X G rfl e_TooLong x_TooLong,
   g_Torn:=gi KB X G rfl e_Torn kp_Torn j_Torn bl2 fsk rfl (.inl rfl) (.inl rfl) (fun _=>rfl) (by decide) (by decide) (by rw [typeLookup_type,builtinLookup_eq_fast]; kernel_rfl) (by decide),
   x_NoLine:=gx KB X G rfl e_NoLine x_NoLine,
   d_Shelf_init:=di rfl (PySem.W.mg_of X G aC0) mk0 kc0 a0 bl1,
   d_Shelf_many:=dm rfl kk0 a1 bl1,
   d_is_plain_sign:=dg X G a2 bl1,
   d_is_plain:=dg X G a3 bl1,
   d_is_short:=dg X G a4 bl1,
   d_Shelf_lay:=dm rfl kk0 a5 bl2,
   d_ends_in:=dg X G a6 bl1,
   d_Shelf_lay_leaf:=dm rfl kk0 a7 bl2,
   d_Shelf_leaf:=dm rfl kk0 a8 bl2,
   d_is_whole:=dg X G a9 bl1,
   d_Shelf_has_piece:=dm rfl kk0 a10 bl2,
   d_Shelf_check_piece:=dm rfl kk0 a11 bl2,
   d_Shelf_check_fork:=dm rfl kk0 a12 bl3,
   d_Shelf_lay_fork:=dm rfl kk0 a13 bl2,
   d_Shelf_fork:=dm rfl kk0 a14 bl3,
   d_read_plain:=dg X G a15 bl1,
   d_read_number:=dg X G a16 bl1,
   d_piece_told:=dg X G a17 bl2,
   d_is_laid:=dg X G a18 bl2,
   d_read_shelf:=dg X G a19 bl1,
   d_law_mixed:=dg X G a20 bl2,
   d_law_stream:=dg X G a21 bl2,
   d_law_digit:=dg X G a22 bl2,
   d_law_letters:=dg X G a23 bl1,
   d_law_tree:=dg X G a24 bl5,
   d_law_text:=dg X G a25 bl3,
   d_law_long:=dg X G a26 bl2,
   d_law_drawn_shelf:=dg X G a27 bl1,
   d_written:=dg X G a28 bl1,
   d_piece_row:=dg X G a29 bl1,
   d_Shelf_piece:=dm rfl kk0 a30 bl2,
   d_shelf_text:=dg X G a31 bl1,
   d_law_written:=dg X G a32 bl1,
   d_law_other_order:=dg X G a33 bl1,
   d_halved:=dg X G a34 bl2,
   d_built:=dg X G a35 bl2,
   d_law_shelf_text:=dg X G a36 bl1,
   d_Shelf_check_text:=dm rfl kk0 a37 bl2,
   d_Shelf_last_leaf:=dm rfl kk0 a38 bl2,
   d_Shelf_signs:=dm rfl kk0 a39 bl2,
   d_Shelf_ends:=dm rfl kk0 a40 bl2,
   d_Shelf_leaves:=dm rfl kk0 a41 bl2,
   d_Shelf_height:=dm rfl kk0 a42 bl2,
   d_Shelf_first_leaf:=dm rfl kk0 a43 bl2,
   d_law_same:=dg X G a44 bl2,
   d_law:=dg X G a45 bl1,
   kg_MARKED:=yig (PySem.W.mg_of X G gd_MARKED) gt_MARKED gq_MARKED (by decide +kernel) (by decide +kernel),
   ko_Shelf:=⟨C0,PySem.W.mg_of X G aC0,rfl,kk0,o1_0,yg,yt,o2_0,o3_0⟩,
   ct_SkeinError:=⟨X0,PySem.W.mg_of X G e_SkeinError,(fun c C' z h=>match c,C',z,h with
    | 0,_,_,rfl=>em_SkeinError_0
    | 1,_,_,rfl=>em_SkeinError_1
    | 2,_,_,rfl=>em_SkeinError_2
    | 3,_,_,rfl=>em_SkeinError_3
    | 4,_,_,rfl=>em_SkeinError_4
    | 5,_,_,rfl=>em_SkeinError_5
    | 6,_,_,rfl=>em_SkeinError_6
    | 7,_,_,rfl=>em_SkeinError_7
    | _ + 8,_,_,h=>nomatch h)⟩ }
 obtain ⟨fd,h1,F⟩:=dlaw (p := "script") X G hfa a45 bl1
 exact ⟨fd,h1,fun base KB _=>FnOk.imp (yin (Z base KB) F) (ziG (T:=mkT K (fun n=>[C0][n]?) (fun n=>[X0,X1,X2,X3,X4,X5,X6,X7][n]?)) law_true)⟩
theorem walk {l : PySem.W.OpenLaw} {q : Program} {loose : List Str} {XP : (Str -> Option Value) -> Heap -> Prop} {YP : World -> Heap -> Prop} {d : DefRec} {K : Params -> PySem.W.Frag} (hn : l.most = some 63) (hdf : d.params.defaults = [])
  (hY : ∀ (w : World) (h : Heap),YP w h -> (K w.params).In h)
  (F : ∀ (w : World) (mg : Str -> Option Value) (fa : Addr) (h : Heap),(K w.params).In h -> h.Ns mainGlobals mg -> mg d.name = some (.ref fa) -> FX l w (K w.params) mg fa) :
  PySem.W.WalkO q loose XP YP l.row.toRowW d [] (fun f vs=>PySem.call f vs) :=
 L2.walk_of (n:=63) (k:=28) (x := "script") (CX:=fun w=>CXE l.prog w) (sp:=fun w=>spL (K w.params)) hn (by decide) hdf ⟨rfl,by decide,by decide⟩ hY F (fun _ _ a ns hl _ hS=>⟨a,ns,rfl,hS,hl,fun _=>rfl⟩) fun _ _ _ _ _ z=>zgy z
end Sk
open PySem PySem.W PyProof.Rows
section
namespace PySem.W.Fast
def tw15487592889929388958:=0
def tw7733079459622453129:=0
def tw15329823722814657503:=0
def tw5938555268734358303:=0
def tw1883247142604806815:=0
def tw6894852684202421759:=0
def tw7300945664839256543:=0
def tw18291502009375956415:=0
def tw12015889022883168575:=0
def tw12995702055183175967:=0
def tw2756816464594928703:=0
def tw16940468578489192158:=0
def tw6069100955774144190:=0
def tw15758094585032782494:=0
def tw10052958269397889118:=0
def tw10779833663945091102:=0
def tw10037447323073799101:=0
def tw12677202705420300029:=0
def tw101467924764803805:=0
def tw9215679604329690845:=0
def tw13884351966024843965:=0
def tw1436483298602922621:=0
def tw15896927414411755005:=0
def tw7601136404637037981:=0
def tw14802331510300558621:=0
def tw16453020253860041949:=0
def tw14804749830816512093:=0
def tw3567023105923060829:=0
def tw14382712841082789917:=0
def tw2551579202666138653:=0
def tw14664356924073124828:=0
def tw5320085597229970236:=0
def tw9484220673726683964:=0
def tw12690250647085882140:=0
def tw12460492818609501916:=0
def tw14305532044677612188:=0
def tw10132094120066482780:=0
def tw3911644951212044860:=0
def tw8599790978137831836:=0
def tw8692653285623921020:=0
def tw12140918699522190556:=0
def tw10217550155598593244:=0
def tw18306869578155898012:=0
def tw8573045380069966747:=0
def tw15243419976546195323:=0
def tw5478632892000208603:=0
def tw2718278568486208987:=0
def tw9015234280865744315:=0
def tw16637998586685311355:=0
def tw2392764269078090107:=0
def tw6862762950549490939:=0
def tw5821688578616081499:=0
def tw5119927803687408731:=0
def tw3943350595406832699:=0
def tw3691986913447276506:=0
def tw2002740331670158170:=0
def tw14038274897774066490:=0
def tw18185233465117177530:=0
def tw15102850152948587162:=0
def tw1314637256214563322:=0
def tw4710314429779343834:=0
def tw8391379833300601306:=0
def tw1290249068807184794:=0
def tw15146013401760487385:=0
def tw7466298797719646137:=0
def tw5303867342555940569:=0
def tw13187886478144921241:=0
def tw15263110685297729049:=0
def tw18348619916359052825:=0
def tw4447797293950547449:=0
def tw763187803063476601:=0
def tw12722652563461172441:=0
def tw4638469416584391544:=0
def tw1969961498268867384:=0
def tw6536930301427478776:=0
def tw13745801638660237400:=0
def tw460771747831259192:=0
def tw15623838571636247543:=0
def tw17928211143802524631:=0
def tw670069503045188471:=0
def tw16162539976360737623:=0
def tw12385501077090131479:=0
def tw7550218818015782391:=0
def tw17325092244289107447:=0
def tw14560250183088794039:=0
def tw14628709445247112535:=0
def tw13391961402348418391:=0
def tw2451890759605933367:=0
def tw17260458923902604439:=0
def tw9783245029419449110:=0
def tw2815313218646262550:=0
def tw10935189800786374262:=0
def tw1779291745477262934:=0
def tw4376864146691558742:=0
def tw14682334336409227478:=0
def tw17521747026191558838:=0
def tw8653474082802360470:=0
def tw3419096113131103382:=0
def tw4091555485039950934:=0
def tw5553371450235083862:=0
def tw6304706055116872758:=0
def tw18190937576590850070:=0
def tw1565129629239377813:=0
def tw9626225887831019413:=0
def tw14694066005723684725:=0
def tw10900322241831398229:=0
def tw9513445625954938709:=0
def tw14443475653664122197:=0
def tw2456250905811140757:=0
def tw17931337021186829429:=0
def tw996105175460459380:=0
def tw2836837689013465844:=0
def tw4288958019427071348:=0
def tw975967560417817844:=0
def tw9253594531962823924:=0
def tw15523625282378441940:=0
def tw9044218418862152724:=0
def tw12737527705283182515:=0
def tw15483635155595956115:=0
def tw17795524954950810227:=0
def tw11961543624480325171:=0
def tw14038594373349170707:=0
def tw8174041572885108243:=0
def tw2233637671830606323:=0
def tw1412806060037949907:=0
def tw12327451422199536019:=0
def tw6095654747980969235:=0
def tw17812147571483924627:=0
def tw721128121536898195:=0
def tw15978840331040130962:=0
def tw9619946887334272818:=0
def tw12398770003533229778:=0
def tw4478892896176664274:=0
def tw13996787572729606866:=0
def tw12459287128340695666:=0
def tw4971758184135230066:=0
def tw1274351404769605170:=0
def tw9449233913428043314:=0
def tw6201956225457182162:=0
def tw13764178273143098289:=0
def tw14182726806976777073:=0
def tw8465585921823521649:=0
def tw17645420342867544913:=0
def tw13838395701889294865:=0
def tw4726983397029044753:=0
def tw17656380519001261553:=0
def tw10534885547036833105:=0
def tw2439440850323846353:=0
def tw5279760459643074737:=0
def tw10412009113759965201:=0
def tw12697809979338459024:=0
def tw15581604555339721584:=0
def tw2386352501684382480:=0
def tw4197444146707617552:=0
def tw5851212193581657328:=0
def tw12541976350792047856:=0
def tw4269680167084271856:=0
def tw5227128683389781072:=0
def tw1360456892550029295:=0
def tw14902929147738971023:=0
def tw13660180270828839631:=0
def tw18311560109324198511:=0
def tw9150874622156305999:=0
def tw14045150364280166927:=0
def tw89246224105591183:=0
def tw15036575299918361967:=0
def tw13903279722831985903:=0
def tw6470201234608473167:=0
def tw7198135728207989742:=0
def tw12702339911906912110:=0
def tw6001808857297011534:=0
def tw3392737016970446670:=0
def tw7182305703632269934:=0
def tw15909871330102414670:=0
def tw6378383679308226766:=0
def tw4215221621930212462:=0
def tw14407521022883035117:=0
def tw11827335670896014317:=0
def tw6247464351461688109:=0
def tw3258272796024801005:=0
def tw5381992258376846509:=0
def tw3638105843443676269:=0
def tw13984239568268302124:=0
def tw4940623255062775308:=0
def tw18251611984048653612:=0
def tw16370838657192274092:=0
def tw17224389892506195052:=0
def tw64624941328725004:=0
def tw16251428883473944555:=0
def tw6853080313711131531:=0
def tw1149897025629065003:=0
def tw353284178926191307:=0
def tw5864971942840154827:=0
def tw17328034621115950731:=0
def tw811437945793601067:=0
def tw3454606181566868939:=0
def tw15790718645295927595:=0
def tw1176135183041714026:=0
def tw7050316595875080010:=0
def tw15348714912858600202:=0
def tw5200828656315516490:=0
def tw17697223683404214730:=0
def tw5570404766553591178:=0
def tw9656938476176687402:=0
def tw10200203347792931018:=0
def tw2387343595883163850:=0
def tw344190421770437802:=0
def tw17846797017766109961:=0
def tw10611501032416195241:=0
def tw17360308311310465673:=0
def tw13748636573576296073:=0
def tw17975948404288752137:=0
def tw12776928406817528297:=0
def tw2430894833277907369:=0
def tw2991522085795630313:=0
def tw15148770018183160009:=0
def tw18288136028456886313:=0
def tw12464918965467893640:=0
def tw6280322810842001064:=0
def tw4211007055142421064:=0
def tw5168418771697493512:=0
def tw17626333935960534504:=0
def tw14660298611370039688:=0
def tw1776812298323577831:=0
def tw5432304992138996647:=0
def tw8895604508841881479:=0
def tw11987319613820290887:=0
def tw13020934090115603239:=0
def tw14679331058594370311:=0
def tw4082255654196588135:=0
def tw6646961324054972967:=0
def tw11194530468987347463:=0
def tw12669943868204568807:=0
def tw10239269822125415366:=0
def tw10786131991709025990:=0
def tw4763211779598137830:=0
def tw4564947826697458886:=0
def tw2479910828703211718:=0
def tw7497096998099644550:=0
def tw13079016152114754501:=0
def tw8705896495642236869:=0
def tw6616865799577381797:=0
def tw1126508906280696389:=0
def tw16832029956094572069:=0
def tw14155268596590195173:=0
def tw226025053501095365:=0
def tw9499442506263299461:=0
def tw12718171786010283301:=0
def tw14632627547326514373:=0
def tw12928180867462088741:=0
def tw14813020226309067813:=0
def tw14110178582368872292:=0
def tw278851700388417124:=0
def tw8813235178301772292:=0
def tw4271076976329528708:=0
def tw17453431949601931652:=0
def tw17151000854370524516:=0
def tw12011447019350153508:=0
def tw685356250304408772:=0
def tw15575870468168733764:=0
def tw16848105946980456387:=0
def tw8942308976890933187:=0
def tw10466384426864031619:=0
def tw7231308444978296675:=0
def tw11723746366523959011:=0
def tw10587634666965562051:=0
def tw802630412868120067:=0
def tw11127521157870345699:=0
def tw4465105221214844227:=0
def tw17407124795144967427:=0
def tw6237279685624467651:=0
def tw11893828929650355331:=0
def tw3541679724811488323:=0
def tw11569908255458569251:=0
def tw9179690222311853954:=0
def tw4772542006434767650:=0
def tw9124694941170828066:=0
def tw632533470858354402:=0
def tw13734435913406787138:=0
def tw18125822354498399810:=0
def tw15334059806242685506:=0
def tw11742351015073635778:=0
def tw16536091497890470306:=0
def tw11180171615766787426:=0
def tw3563111423052471618:=0
def tw12049344492569726146:=0
def tw8247087101573513346:=0
def tw11802852252021182562:=0
def tw7485321163159594082:=0
def tw12263940248274810946:=0
def tw10010626658067728418:=0
def tw10474641046889988098:=0
def tw10942953791200404129:=0
def tw17059421371529722497:=0
def tw1147509913745236577:=0
def tw2829936319065812545:=0
def tw14545647306431979937:=0
def tw4391159332823800225:=0
def tw8226797481324606817:=0
def tw17478002697485993185:=0
def tw5677535073904827521:=0
def tw445659863066341441:=0
def tw9334499345612943393:=0
def tw1244558722367259649:=0
def tw11684953889623162881:=0
def tw8289736783343511360:=0
def tw15408059906981460768:=0
def tw7423564721402974976:=0
def tw6473161852103451296:=0
def tw3545859427440650880:=0
def tw1249310192179111552:=0
def tw1382459903067941344:=0
def tw11468394085855610272:=0
def tw10960142826521696640:=0
def tw5763184121874200768:=0
def tw10345751115552955584:=0
def tw840616432241380352:=0
end PySem.W.Fast
end
set_option maxRecDepth 100000 in
set_option maxHeartbeats 0 in
theorem PySem.Challenge.cw_skeinwood_k87_shelves_read_holds : PySem.Challenge.rw_skeinwood_k87_shelves_read.Holds := by
 w_on; o_law; k_head; (case hw => w_witness2)
 k_fill
 refine Sk.walk (l := PySem.Challenge.rw_skeinwood_k87_shelves_read) rfl rfl (fun w h Y => PySem.W.kIn_of Y) ?F
 case F =>
  intro w mg fa h KX G hmg
  refine' Sk.all_mk KX G hmg ?aC0 ?a0 ?a1 ?a5 ?a7 ?a8 ?a10 ?a11 ?a12 ?a13 ?a14 ?a30 ?a37 ?a38 ?a39 ?a40 ?a41 ?a42 ?a43 ?a2 ?a3 ?a4 ?a6 ?a9 ?a15 ?a16 ?a17 ?a18 ?a19 ?a20 ?a21 ?a22 ?a23 ?a24 ?a25 ?a26 ?a27 ?a28 ?a29 ?a31 ?a32 ?a33 ?a34 ?a35 ?a36 ?a44 ?a45 ?kk0 ?mk0 ?kc0 ?nf0_0 ?nf0_1 ?nf0_2 ?nf0_3 ?nf0_4 ?nf0_5 ?nf0_6 ?nf0_7 ?z_abs ?z_all ?z_bool ?z_enumerate ?z_int ?z_isinstance ?z_len ?z_max ?z_range ?z_str ?z_sum ?e_SkeinError ?e_NoText ?x_NoText ?e_NoPiece ?x_NoPiece ?e_Loose ?x_Loose ?e_Unlevel ?x_Unlevel ?e_TooLong ?x_TooLong ?e_Torn ?kp_Torn ?j_Torn ?e_NoLine ?x_NoLine ?m_LEAF_SIGNS ?m_MOST_PLAIN ?m_MOST_SIGNS ?m_MOST_FIGURES ?m_LEAF_WORD ?gd_MARKED ?gt_MARKED ?gq_MARKED ?yg ?yt ?o1_0 ?o2_0 ?o3_0 ?em_SkeinError_0 ?em_SkeinError_1 ?em_SkeinError_2 ?em_SkeinError_3 ?em_SkeinError_4 ?em_SkeinError_5 ?em_SkeinError_6 ?em_SkeinError_7
  (case aC0 => apply Sm.na;k_is)
  (case a0 => apply Sm.dn<;>k_is)
  (case a1 => apply Sm.dn<;>k_is)
  (case a5 => apply Sm.dn<;>k_is)
  (case a7 => apply Sm.dn<;>k_is)
  (case a8 => apply Sm.dn<;>k_is)
  (case a10 => apply Sm.dn<;>k_is)
  (case a11 => apply Sm.dn<;>k_is)
  (case a12 => apply Sm.dn<;>k_is)
  (case a13 => apply Sm.dn<;>k_is)
  (case a14 => apply Sm.dn<;>k_is)
  (case a30 => apply Sm.dn<;>k_is)
  (case a37 => apply Sm.dn<;>k_is)
  (case a38 => apply Sm.dn<;>k_is)
  (case a39 => apply Sm.dn<;>k_is)
  (case a40 => apply Sm.dn<;>k_is)
  (case a41 => apply Sm.dn<;>k_is)
  (case a42 => apply Sm.dn<;>k_is)
  (case a43 => apply Sm.dn<;>k_is)
  (case a2 => apply Sm.dk<;>k_is)
  (case a3 => apply Sm.dk<;>k_is)
  (case a4 => apply Sm.dk<;>k_is)
  (case a6 => apply Sm.dk<;>k_is)
  (case a9 => apply Sm.dk<;>k_is)
  (case a15 => apply Sm.dk<;>k_is)
  (case a16 => apply Sm.dk<;>k_is)
  (case a17 => apply Sm.dk<;>k_is)
  (case a18 => apply Sm.dk<;>k_is)
  (case a19 => apply Sm.dk<;>k_is)
  (case a20 => apply Sm.dk<;>k_is)
  (case a21 => apply Sm.dk<;>k_is)
  (case a22 => apply Sm.dk<;>k_is)
  (case a23 => apply Sm.dk<;>k_is)
  (case a24 => apply Sm.dk<;>k_is)
  (case a25 => apply Sm.dk<;>k_is)
  (case a26 => apply Sm.dk<;>k_is)
  (case a27 => apply Sm.dk<;>k_is)
  (case a28 => apply Sm.dk<;>k_is)
  (case a29 => apply Sm.dk<;>k_is)
  (case a31 => apply Sm.dk<;>k_is)
  (case a32 => apply Sm.dk<;>k_is)
  (case a33 => apply Sm.dk<;>k_is)
  (case a34 => apply Sm.dk<;>k_is)
  (case a35 => apply Sm.dk<;>k_is)
  (case a36 => apply Sm.dk<;>k_is)
  (case a44 => apply Sm.dk<;>k_is)
  (case a45 => apply Sm.dk<;>k_is)
  (case kk0 => constructor<;>k_is)
  (case mk0 => k_is)
  (case kc0 => k_is)
  (case nf0_0 => apply Sm.fatt;k_is)
  (case nf0_1 => apply Sm.fatt;k_is)
  (case nf0_2 => apply Sm.fatt;k_is)
  (case nf0_3 => apply Sm.fatt;k_is)
  (case nf0_4 => apply Sm.fatt;k_is)
  (case nf0_5 => apply Sm.fatt;k_is)
  (case nf0_6 => apply Sm.fatt;k_is)
  (case nf0_7 => apply Sm.fatt;k_is)
  (case z_abs => apply Sm.na;k_is)
  (case z_all => apply Sm.na;k_is)
  (case z_bool => apply Sm.na;k_is)
  (case z_enumerate => apply Sm.na;k_is)
  (case z_int => apply Sm.na;k_is)
  (case z_isinstance => apply Sm.na;k_is)
  (case z_len => apply Sm.na;k_is)
  (case z_max => apply Sm.na;k_is)
  (case z_range => apply Sm.na;k_is)
  (case z_str => apply Sm.na;k_is)
  (case z_sum => apply Sm.na;k_is)
  (case e_SkeinError => apply Sm.na;k_is)
  (case e_NoText => apply Sm.na;k_is)
  (case x_NoText => apply Sm.xi;k_exc)
  (case e_NoPiece => apply Sm.na;k_is)
  (case x_NoPiece => apply Sm.xi;k_exc)
  (case e_Loose => apply Sm.na;k_is)
  (case x_Loose => apply Sm.xi;k_exc)
  (case e_Unlevel => apply Sm.na;k_is)
  (case x_Unlevel => apply Sm.xi;k_exc)
  (case e_TooLong => apply Sm.na;k_is)
  (case x_TooLong => apply Sm.xi;k_exc)
  (case e_Torn => apply Sm.na;k_is)
  (case kp_Torn => k_is)
  (case j_Torn => apply Sm.xj<;>first|k_is|kernel_rfl)
  (case e_NoLine => apply Sm.na;k_is)
  (case x_NoLine => apply Sm.xi;k_exc)
  (case m_LEAF_SIGNS => apply Sm.na;k_is)
  (case m_MOST_PLAIN => apply Sm.na;k_is)
  (case m_MOST_SIGNS => apply Sm.na;k_is)
  (case m_MOST_FIGURES => apply Sm.na;k_is)
  (case m_LEAF_WORD => apply Sm.na;k_is)
  (case gd_MARKED => apply Sm.na;k_is)
  (case gt_MARKED => kernel_rfl)
  (case gq_MARKED => kernel_rfl)
  (case yg => k_is)
  (case yt => k_is)
  (case o1_0 => k_is)
  (case o2_0 => k_is)
  (case o3_0 => kit_is)
  (case em_SkeinError_0 => apply Sm.xo;kts_exm)
  (case em_SkeinError_1 => apply Sm.xo;kts_exm)
  (case em_SkeinError_2 => apply Sm.xo;kts_exm)
  (case em_SkeinError_3 => apply Sm.xo;kts_exm)
  (case em_SkeinError_4 => apply Sm.xo;kts_exm)
  (case em_SkeinError_5 => apply Sm.xo;kts_exm)
  (case em_SkeinError_6 => apply Sm.xo;kts_exm)
  (case em_SkeinError_7 => apply Sm.xo;kts_exm)
