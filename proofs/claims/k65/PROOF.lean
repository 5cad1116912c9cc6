import PyProof.Rows.All
import Wide.All
import OpenK.AllK
import Wide.FinOn
import Lean
import PyProof.EqAt
import PyProof.EqKinds
import PyProof.TupleCall
import PyProof.StrCalls2
import PyProof.SumAny
import PyProof.Rows.Range3
import PyProof.StrBlockI
import PyProof.SliceStr2
import PyProof.IsRules
import PyProof.StrBlock2
import PyProof.Seq
import PyProof.StrLawsIn
import PySem.Challenge.RW_skeinwood_k65_likes_refused
set_option Elab.async false
set_option linter.all false
set_option maxRecDepth 100000
noncomputable section
namespace L2
open PySem PySem.Spec PyProof.Rows
abbrev Key:=Sum Int Str
abbrev b01 (b : Bool) : Int:=if b then 1 else 0
def ydP : Key -> Value -> Bool
 | .inl k,.bool b=>decide (k = b01 b)
 | .inl k,v=>Value.isInt k v
 | .inr x,v=>Value.isStrOf x v
def keyH (w : World) : Key -> Int
 | .inl k=>hashInt k
 | .inr x=>hashStr w x
theorem zas : ∀ {k : Key} {v : Value},ydP k v = true -> (∃ i t,k = Sum.inl i /\ v = Value.int i t) \/ (∃ b,k = Sum.inl (b01 b) /\ v = Value.bool b) \/ (∃ x t,k = Sum.inr x /\ v = Value.str x t)
 | .inl i,v,h=>by
  cases v with
  | bool b=>exact .inr (.inl ⟨b,by rw [of_decide_eq_true (show decide (i = b01 b) = true from h)],rfl⟩)
  | int j t =>
   obtain ⟨t,e⟩:=Value.isInt_shape (k:=i) (v:=.int j t) h
   exact .inl ⟨i,t,rfl,e⟩
  | _=>exact absurd h (by simp [ydP,Value.isInt])
 | .inr x,v,h=>by
  obtain ⟨t,e⟩:=Value.isStrOf_shape (x:=x) (v:=v) h
  exact .inr (.inr ⟨x,t,rfl,e⟩)
theorem zgw (i : Int) (t : Tok) : ydP (.inl i) (.int i t) = true:=by simp [ydP,Value.isInt]
theorem zgx (x : Str) (t : Tok) : ydP (.inr x) (.str x t) = true:=by simp [ydP,Value.isStrOf]
theorem yeO (a b : Int) : decide ((Sum.inl a : Key) = Sum.inl b) = (a == b):=by
 by_cases e : a = b
 ·subst e; simp
 ·have h : ¬ (Sum.inl a : Key) = Sum.inl b:=fun q=>e (Sum.inl.inj q)
  rw [decide_eq_false h]
  exact (beq_eq_false_iff_ne.mpr e).symm
theorem ygk (a b : Str) : decide ((Sum.inr a : Key) = Sum.inr b) = decide (a = b):=by
 by_cases e : a = b
 ·subst e; simp
 ·have h : ¬ (Sum.inr a : Key) = Sum.inr b:=fun q=>e (Sum.inr.inj q)
  rw [decide_eq_false h,decide_eq_false e]
theorem yfi (a : Int) (b : Str) : decide ((Sum.inl a : Key) = Sum.inr b) = false:=decide_eq_false (fun q=>nomatch q)
theorem yfj (a : Str) (b : Int) : decide ((Sum.inr a : Key) = Sum.inl b) = false:=decide_eq_false (fun q=>nomatch q)
theorem zcu {prog : Program} {w : World} {A : Around} {E : Value -> Shared -> Prop} {s : Shared} {b : Bool} {Q : Int -> Shared -> Prop} (h : Q (hashInt (b01 b)) { s with toks:=s.toks + 1 }) :
  wpAny (model prog w) A (pyHash (.bool b)) Q E s:=by
 unfold pyHash
 unfold pyHashByItsType
 have hv : [Value.bool b].any Value.onHeap = false:=rfl
 refine wpAny_bind ?_
 rw [cRoomFor,if_neg (by rw [hv]; exact Bool.false_ne_true)]; refine wpAny_pure ?_
 refine wpAny_bind (wpAny_specialOf (PySem.typeIs_bool s b) PySem.F.slot_bool_hash.lookup ?_)
 show wpAny _ _ (if (some (Value.builtin "int.__hash__") == some Value.none) = true then _ else _) Q E s
 rw [if_neg (by rw [beq_builtin_none]; exact Bool.false_ne_true)]
 refine wpAny_bind (wpAny_specialOf (PySem.typeIs_bool s b) PySem.F.slot_bool_hash.lookup ?_)
 show wpAny _ _ (callSpecialIfBoundUnlessNone? (.bool b) "__hash__" _ >>= _) Q E s
 cases b with
 | false =>
  refine wpAny_bind (wpAny_callSpecialIfBoundUnlessNone?_slot (PySem.typeIs_bool s false) PySem.F.slot_bool_hash
   (wpAny_call_entry PySem.F.slot_bool_hash (PySem.typeIs_bool s false) entry_int_hash
    (show wpAny _ _ (do ret (<- mkInt 0)) _ _ s from wpAny_ret_mkInt ?_) (args_int_hash _)))
  exact wpAny_pure h
 | true =>
  refine wpAny_bind (wpAny_callSpecialIfBoundUnlessNone?_slot (PySem.typeIs_bool s true) PySem.F.slot_bool_hash
   (wpAny_call_entry PySem.F.slot_bool_hash (PySem.typeIs_bool s true) entry_int_hash
    (show wpAny _ _ (do ret (<- mkInt 1)) _ _ s from wpAny_ret_mkInt ?_) (args_int_hash _)))
  exact wpAny_pure h
theorem zii (a b : Bool) : (a == b) = decide ((Sum.inl (b01 a) : Key) = Sum.inl (b01 b)):=by cases a<;>cases b<;>decide
def ybw (prog : Program) (w : World) : PySem.KeyKind prog w Key where
 is:=ydP
 hash:=keyH w
 inj:=fun v a b ha hb=>by
  rcases zas ha with ⟨i,t,rfl,rfl⟩ | ⟨c,rfl,rfl⟩ | ⟨x,t,rfl,rfl⟩
  ·rcases zas hb with ⟨j,u,rfl,e⟩ | ⟨d,rfl,e⟩ | ⟨y,u,rfl,e⟩
   ·injection e with e1 _; rw [e1]
   ·exact nomatch e
   ·exact nomatch e
  ·rcases zas hb with ⟨j,u,rfl,e⟩ | ⟨d,rfl,e⟩ | ⟨y,u,rfl,e⟩
   ·exact nomatch e
   ·injection e with e1; rw [e1]
   ·exact nomatch e
  ·rcases zas hb with ⟨j,u,rfl,e⟩ | ⟨d,rfl,e⟩ | ⟨y,u,rfl,e⟩
   ·exact nomatch e
   ·exact nomatch e
   ·injection e with e1 _; rw [e1]
 byValue:=fun k v h=>by
  rcases zas h with ⟨i,t,rfl,rfl⟩ | ⟨c,rfl,rfl⟩ | ⟨x,t,rfl,rfl⟩<;>rfl
 pyHash:=fun hv h=>by
  rcases zas hv with ⟨i,t,rfl,rfl⟩ | ⟨c,rfl,rfl⟩ | ⟨x,t,rfl,rfl⟩
  ·exact wpAny_pyHash_int h
  ·exact zcu h
  ·exact wpAny_pyHash_str h
 eqBool:=fun hu hv h=>by
  rcases zas hu with ⟨i,t,rfl,rfl⟩ | ⟨c,rfl,rfl⟩ | ⟨x,t,rfl,rfl⟩
  ·rcases zas hv with ⟨j,u,rfl,rfl⟩ | ⟨d,rfl,rfl⟩ | ⟨y,u,rfl,rfl⟩
   ·rw [yeO] at h; exact wpAny_eqBool_int h
   ·rw [yeO] at h; exact SeqAt.EqAt.int_bool i t d _ _ _ _ h
   ·rw [yfi] at h; exact SeqAt.EqAt.int_str i t y u _ _ _ _ h
  ·rcases zas hv with ⟨j,u,rfl,rfl⟩ | ⟨d,rfl,rfl⟩ | ⟨y,u,rfl,rfl⟩
   ·rw [yeO] at h; exact SeqAt.EqAt.bool_int c j u _ _ _ _ h
   ·rw [<- zii] at h; exact SeqAt.EqAt.bool_bool c d _ _ _ _ h
   ·rw [yfi] at h; exact SeqAt.EqAt.bool_str c y u _ _ _ _ h
  ·rcases zas hv with ⟨j,u,rfl,rfl⟩ | ⟨d,rfl,rfl⟩ | ⟨y,u,rfl,rfl⟩
   ·rw [yfj] at h; exact SeqAt.EqAt.str_int x t j u _ _ _ _ h
   ·rw [yfj] at h; exact SeqAt.EqAt.str_bool x t d _ _ _ _ h
   ·rw [ygk] at h; exact wpAny_eqBool_str h
 «strs» := fun k x t v h=>by
  rcases zas h with ⟨i,u,rfl,e⟩ | ⟨d,rfl,e⟩ | ⟨y,u,rfl,e⟩
  ·exact nomatch e
  ·exact nomatch e
  ·injection e with e1 _
   subst e1
   cases v<;>rfl
theorem zcx (prog : Program) (w : World) (i : Int) (t : Tok) : (ybw prog w).is (.inl i) (.int i t) = true:=zgw i t
theorem zcy (prog : Program) (w : World) (x : Str) (t : Tok) : (ybw prog w).is (.inr x) (.str x t) = true:=zgx x t
end L2
namespace L2
open PySem PySem.Spec PyProof.Rows
inductive V where
 | non | bl (b : Bool) | int (i : Int) | str (x : Str) | byt (b : Array UInt8) | flt (b : UInt64) | ref (a : Addr) | ty (n : String)
 deriving DecidableEq
def RelV : V -> Value -> Prop
 | .non,u=>u = Value.none
 | .bl b,u=>u = Value.bool b
 | .int i,u=>∃ t,u = Value.int i t
 | .str x,u=>∃ t,u = Value.str x t
 | .byt b,u=>∃ t,u = Value.bytes b t
 | .flt b,u=>∃ t,u = Value.float b t
 | .ref a,u=>u = Value.ref a
 | .ty n,u=>u = Value.type n
abbrev Vals : List V -> List Value -> Prop:=Paired RelV
theorem Vals.length {xs : List V} {us : List Value} (r : Vals xs us) : xs.length = us.length:=Paired.length r
theorem Vals.get : ∀ {xs : List V} {us : List Value} {i : Nat} {x : V},Vals xs us -> xs[i]? = some x -> ∃ u,us[i]? = some u /\ RelV x u
 | _,_,_,_,.nil,e=>by simp at e
 | _,_,0,_,.cons r _,e=>by simp at e; subst e; exact ⟨_,rfl,r⟩
 | _,_,i + 1,x,.cons _ t,e=>by
  obtain ⟨u,h1,h2⟩:=Vals.get (i:=i) (x:=x) t (by simpa using e)
  exact ⟨u,by simpa using h1,h2⟩
theorem Vals.set {x : V} {u : Value} (r : RelV x u) : ∀ {xs : List V} {us : List Value} (i : Nat),Vals xs us -> Vals (xs.set i x) (us.set i u)
 | _,_,_,.nil=>.nil
 | _,_,0,.cons _ t=>.cons r t
 | _,_,i + 1,.cons q t=>.cons q (Vals.set r i t)
theorem Vals.append : ∀ {xs ys : List V} {us ws : List Value},Vals xs us -> Vals ys ws -> Vals (xs++ys) (us++ws)
 | _,_,_,_,.nil,s=>s
 | _,_,_,_,.cons r t,s=>.cons r (Vals.append t s)
theorem Vals.take : ∀ {xs : List V} {us : List Value} (n : Nat),Vals xs us -> Vals (xs.take n) (us.take n)
 | _,_,0,_=>.nil
 | _,_,_ + 1,.nil=>.nil
 | _,_,n + 1,.cons r t=>.cons r (Vals.take n t)
theorem Vals.drop : ∀ {xs : List V} {us : List Value} (n : Nat),Vals xs us -> Vals (xs.drop n) (us.drop n)
 | _,_,0,r=>r
 | _,_,_ + 1,.nil=>.nil
 | _,_,n + 1,.cons _ t=>Vals.drop n t
def RelO : Option V -> Option Value -> Prop
 | some v,some u=>RelV v u
 | none,none=>True
 | _,_=>False
def KV {κ : Type} : List (κ × V) -> List (κ × Value) -> Prop:=Paired fun (p : κ × V) (q : κ × Value)=>p.1 = q.1 /\ RelV p.2 q.2
def kV : Key -> V
 | .inl i=>.int i
 | .inr x=>.str x
def kOf : V -> Option Key
 | .int i=>some (.inl i)
 | .bl b=>some (.inl (b01 b))
 | .str x=>some (.inr x)
 | _=>none
theorem ygl (k : Key) : kOf (kV k) = some k:=by cases k<;>rfl
inductive HO where
 | lst (xs : List V)
 | tup (xs : List V)
 | dK (kvs : List (Key × V)) | dT (kvs : List (List Key × V))
 | set (S : Int -> Bool) (n : Nat)
 | ins (C dx : Addr) (fs : List (Str × V))
 | own (x : Addr)
 | xd (fs : List (Str × V))
 | met (f x : Addr)
 | rng (lo hi : Int)
 | frz (o : Obj) (u : HO)
 | tbl (ps : Array Value)
 | ext (φ : Heap -> Prop)
abbrev Hp:=Addr -> Option HO
def upd (H : Hp) (a : Addr) (o : HO) : Hp:=fun b=>if b = a then some o else H b
theorem zat {H : Hp} {a : Addr} {o : HO} : upd H a o a = some o:=by unfold upd; rw [if_pos rfl]
theorem yaB {H : Hp} {a b : Addr} {o : HO} (h : b ≠ a) : upd H a o b = H b:=by unfold upd; rw [if_neg h]
theorem yhD {H : Hp} {a b : Addr} {o u : HO} (h : H a = some o) (h' : H b = some u) (d : o ≠ u) : a ≠ b:=by
 intro e; subst e; rw [h] at h'; exact d (Option.some.inj h')
theorem zap {H : Hp} {a b : Addr} {o : HO} (h : H a = some o) (h' : H b = none) : a ≠ b:=by
 intro e; subst e; rw [h] at h'; cases h'
section
variable (P : Program) (w : World)
def ObjOk (H : Hp) (h : Heap) (a : Addr) : HO -> Prop
 | .lst xs=>xs.length <= sizeLine /\ ∃ (its : List Value) (n : Nat),Vals xs its /\ h.get? a = some { cls:=.type "list",data:=.seq its.toArray n }
 | .tup xs=>xs.length <= sizeLine /\ ∃ its : List Value,Vals xs its /\ IsTup h a its.toArray
 | .dK kvs=>kvs.length <= sizeLine /\ (a == sysModules) = false /\ ∃ vs,KV kvs vs /\ h.DictOf (ybw P w) a vs
 | .dT kvs=>kvs.length <= sizeLine /\ (a == sysModules) = false /\ ∃ xs : List (List Key × Addr × Value),
   Paired (fun (p : List Key × V) (q : List Key × Addr × Value)=>p.1 = q.1 /\ (∃ ys,H q.2.1 = some (.tup ys) /\ ys.map kOf = p.1.map some) /\ RelV p.2 q.2.2) kvs xs /\
   ∃ o es ep,h.get? a = some o /\ o.ExactDict /\ o.data = .dict es ep /\ es.toList = xs.map (entryOfKey (tupleKind (ybw P w))) /\ (xs.map (·.1)).Nodup
 | .set S n=>h.SetOf (intKind P w) a S n
 | .ins C dx fs=>H dx = some (.own a) /\ fs.length <= 1000 /\ dx ≠ a /\ h.get? a = some (PySem.W.instObj C dx) /\
   ∃ mA,h.Ns1 dx mA /\ (∀ f,RelO (fs.lookup f) (mA f)) /\ PySem.Within mA (fs.map (·.1))
 | .own _=>∃ o,h.get? a = some o
 | .xd fs=>∃ mA,h.Ns1 a mA /\ ∀ f,RelO (fs.lookup f) (mA f)
 | .rng lo hi=>∃ t u v,h.get? a = some { cls:=.type "range",data:=.fields #[.int lo t,.int hi u,.int 1 v] }
 | .frz o u=>h.get? a = some o /\ ObjOk H h a u
 | .tbl ps=>h.get? a = some { cls:=.none,data:=.fields ps }
 | .met f x=>h.get? a = some (PySem.W.methodObj (.ref f) (.ref x))
 | .ext φ=>φ h /\ (∃ o,h.get? a = some o) /\ ∀ h1 h2 : Heap,φ h1 -> (∀ o,h1.get? a = some o -> h2.get? a = some o) -> φ h2
def HOk (H : Hp) (h : Heap) : Prop:=∀ a o,H a = some o -> ObjOk P w H h a o
end
section
variable {P : Program} {w : World} {H H' : Hp} {h h' : Heap} {a : Addr} {o : HO}
theorem ObjOk.lt (x : ObjOk P w H h a o) : a < h.objs.size:=by
 cases o with
 | lst xs=>obtain ⟨_,_,_,_,e⟩:=x; exact Heap.lt_size e
 | tup xs=>obtain ⟨_,_,_,p⟩:=x; exact p.lt
 | dK kvs=>obtain ⟨_,_,_,_,o,_,_,e,_⟩:=x; exact Heap.lt_size e
 | dT kvs=>obtain ⟨_,_,_,_,o,_,_,e,_⟩:=x; exact Heap.lt_size e
 | set S n=>obtain ⟨o,_,_,_,e,_⟩:=x; exact Heap.lt_size e
 | ins C dx fs=>obtain ⟨_,_,_,e,_⟩:=x; exact Heap.lt_size e
 | own y=>obtain ⟨_,e⟩:=x; exact Heap.lt_size e
 | xd fs=>obtain ⟨_,⟨_,_,_,e,_⟩,_⟩:=x; exact Heap.lt_size e
 | rng lo hi=>obtain ⟨_,_,_,e⟩:=x; exact Heap.lt_size e
 | frz ob u=>obtain ⟨e,_⟩:=x; exact Heap.lt_size e
 | tbl ps=>exact Heap.lt_size (show h.get? a = some _ from x)
 | met f y=>exact Heap.lt_size (show h.get? a = some _ from x)
 | ext φ=>obtain ⟨_,⟨_,e⟩,_⟩:=x; exact Heap.lt_size e
theorem Paired.mapP {α β : Type} {F G : α -> β -> Prop} : ∀ {l₁ : List α} {l₂ : List β},Paired F l₁ l₂ -> (∀ a b,F a b -> G a b) -> Paired G l₁ l₂
 | _,_,.nil,_=>.nil
 | _,_,.cons r t,f=>.cons (f _ _ r) (Paired.mapP t f)
theorem ObjOk.stay (x : ObjOk P w H h a o) (k : ∀ b u,(b = a \/ H b = some (.own a)) -> h.get? b = some u -> h'.get? b = some u)
  (ho : ∀ b,H b = some (.own a) -> H' b = some (.own a)) (ht : ∀ b xs,H b = some (.tup xs) -> H' b = some (.tup xs)) : ObjOk P w H' h' a o:=by
 induction o with
 | lst xs=>obtain ⟨z,its,n,r,e⟩:=x; exact ⟨z,its,n,r,k _ _ (.inl rfl) e⟩
 | tup xs=>obtain ⟨z,its,r,ob,e,c⟩:=x; exact ⟨z,its,r,ob,k _ _ (.inl rfl) e,c⟩
 | dK kvs=>obtain ⟨z,y,vs,r,ob,es,ep,e,c⟩:=x; exact ⟨z,y,vs,r,ob,es,ep,k _ _ (.inl rfl) e,c⟩
 | dT kvs =>
  obtain ⟨z,y,xs,r,ob,es,ep,e,c⟩:=x
  exact ⟨z,y,xs,Paired.mapP r fun p q z=>⟨z.1,z.2.1.imp fun _ e=>⟨ht _ _ e.1,e.2⟩,z.2.2⟩,ob,es,ep,k _ _ (.inl rfl) e,c⟩
 | set S n=>obtain ⟨ob,es,ep,t,e,c⟩:=x; exact ⟨ob,es,ep,t,k _ _ (.inl rfl) e,c⟩
 | ins C dx fs =>
  obtain ⟨d,z,ne,e,mA,⟨od,es,ep,e2,c⟩,r⟩:=x
  exact ⟨ho _ d,z,ne,k _ _ (.inl rfl) e,mA,⟨od,es,ep,k _ _ (.inr d) e2,c⟩,r⟩
 | own y=>obtain ⟨ob,e⟩:=x; exact ⟨ob,k _ _ (.inl rfl) e⟩
 | xd fs=>obtain ⟨mA,⟨od,es,ep,e,c⟩,r⟩:=x; exact ⟨mA,⟨od,es,ep,k _ _ (.inl rfl) e,c⟩,r⟩
 | rng lo hi=>obtain ⟨t,u,v,e⟩:=x; exact ⟨t,u,v,k _ _ (.inl rfl) e⟩
 | frz ob u ih=>obtain ⟨e,q⟩:=x; exact ⟨k _ _ (.inl rfl) e,ih q⟩
 | tbl ps =>
  have e : h.get? a = some { cls:=.none,data:=.fields ps }:=x
  show h'.get? a = some { cls:=.none,data:=.fields ps }
  exact k a _ (.inl rfl) e
 | met f y =>
  have e : h.get? a = some (PySem.W.methodObj (.ref f) (.ref y)):=x
  show h'.get? a = some (PySem.W.methodObj (.ref f) (.ref y))
  exact k a _ (.inl rfl) e
 | ext φ=>obtain ⟨p,⟨o,e⟩,st⟩:=x; exact ⟨st _ _ p fun o q=>k _ _ (.inl rfl) q,⟨o,k _ _ (.inl rfl) e⟩,st⟩
theorem HOk.lt (x : HOk P w H h) (e : H a = some o) : a < h.objs.size:=(x a o e).lt
theorem HOk.fresh (x : HOk P w H h) (e : h.objs.size <= a) : H a = none:=by
 cases q : H a with
 | none=>rfl
 | some u=>exact absurd (Nat.lt_of_lt_of_le (x.lt q) e) (Nat.lt_irrefl _)
theorem HOk.kept (x : HOk P w H h) (k : ∀ b u,h.get? b = some u -> h'.get? b = some u) : HOk P w H h' := fun a o e =>
 (x a o e).stay (fun b u _ q=>k b u q) (fun _ q=>q) fun _ _ q=>q
theorem HOk.laid (x : HOk P w H h) (k : ∀ b u,h.get? b = some u -> h'.get? b = some u) (hp : h.objs.size <= a) (new : ObjOk P w (upd H a o) h' a o) : HOk P w (upd H a o) h' := fun b u e=>by
 have hn:=x.fresh hp
 by_cases hb : b = a
 ·subst hb; rw [zat] at e; cases e; exact new
 ·rw [yaB hb] at e
  exact (x b u e).stay (fun c v _ q=>k c v q) (fun c q=>by rw [yaB (zap q hn)]; exact q) fun c xs q=>by rw [yaB (zap q hn)]; exact q
end
def Rd (H : Hp) (a : Addr) (u : HO) : Prop:=H a = some u \/ ∃ o,H a = some (.frz o u)
theorem Rd.ok {P : Program} {w : World} {H : Hp} {h : Heap} {a : Addr} {u : HO} (r : Rd H a u) (x : HOk P w H h) : ObjOk P w H h a u:=by
 rcases r with r | ⟨o,r⟩
 ·exact x a u r
 ·obtain ⟨_,q⟩:=x a _ r
  exact q
def Mut : Option HO -> Prop
 | some (.lst _)=>True
 | some (.dK _)=>True
 | some (.dT _)=>True
 | some (.set _ _)=>True
 | some (.ins _ _ _)=>True
 | some (.ext _)=>True
 | _=>False
section
variable {P : Program} {w : World} {H : Hp} {h h' : Heap} {x e : Addr} {o' : HO}
theorem HOk.write (ok : HOk P w H h) (mu : Mut (H x)) (he : e = x \/ H e = some (.own x)) (k : ∀ b u,b ≠ e -> h.get? b = some u -> h'.get? b = some u) (heo : ∃ u,h'.get? e = some u)
  (new : ObjOk P w (upd H x o') h' x o') : HOk P w (upd H x o') h' := fun b u q=>by
 have nown : ∀ c y,H c = some (.own y) -> c ≠ x:=fun c y r z=>by subst z; rw [r] at mu; exact mu
 have ntup : ∀ c xs,H c = some (.tup xs) -> c ≠ x:=fun c xs r z=>by subst z; rw [r] at mu; exact mu
 by_cases hb : b = x
 ·subst hb; rw [zat] at q; cases q; exact new
 ·rw [yaB hb] at q
  by_cases hbe : b = e
  ·have q' : H b = some (.own x):=by
    rcases he with z | z
    ·exact absurd (hbe.trans z) hb
    ·rw [hbe]; exact z
   rw [q] at q'; cases q'
   obtain ⟨v,hv⟩:=heo
   exact ⟨v,by rw [hbe]; exact hv⟩
  ·refine (ok b u q).stay (fun c v hc r=>k c v ?_ r) (fun c r=>by rw [yaB (nown c b r)]; exact r) fun c xs r=>by rw [yaB (ntup c xs r)]; exact r
   rcases hc with rfl | hc
   ·exact hbe
   ·rintro rfl
    rcases he with z | z
    ·exact nown c b hc z
    ·rw [hc] at z; cases z; exact hb rfl
end
structure Un (fs ex : List Addr) (H H' : Hp) (h h' : Heap) : Prop where
 keep : ∀ b o,h.get? b = some o -> H b = none -> b ∉ fs -> b ∉ ex -> h'.get? b = some o
 slot : ∀ b o,h.get? b = some o -> H b = none -> b ∈ fs -> b ∉ ex -> ∃ sl,h'.get? b = some { o with slots:=sl }
 free : ∀ b o,h.get? b = some o -> H b = none -> b ∉ ex -> H' b = none
 there : ∀ b o,h.get? b = some o -> b ∉ ex -> ∃ o',h'.get? b = some o'
 tups : ∀ b xs,H b = some (.tup xs) -> H' b = some (.tup xs)
 frzs : ∀ b o u,H b = some (.frz o u) -> H' b = some (.frz o u)
 tbls : ∀ b ps,H b = some (.tbl ps) -> ∃ more,H' b = some (.tbl (ps++more))
section
variable {fs fs' ex ex' : List Addr} {H H1 H2 : Hp} {h h1 h2 h' : Heap} {a x e : Addr} {o : HO}
theorem Un.any (u : Un fs ex H H1 h h1) {b : Addr} {ob : Obj} (q : h.get? b = some ob) (n : H b = none) (hx : b ∉ ex) : ∃ sl,h1.get? b = some { ob with slots:=sl }:=by
 by_cases hb : b ∈ fs
 ·exact u.slot b ob q n hb hx
 ·exact ⟨ob.slots,u.keep b ob q n hb hx⟩
theorem Un.kept (k : ∀ b u,h.get? b = some u -> h'.get? b = some u) : Un fs ex H H h h' :=
 ⟨fun b ob q _ _ _=>k b ob q,fun b ob q _ _ _=>⟨ob.slots,k b ob q⟩,fun _ _ _ n _=>n,fun b ob q _=>⟨ob,k b ob q⟩,fun _ _ q=>q,fun _ _ _ q=>q,fun _ ps q=>⟨#[],by rw [q]; simp⟩⟩
theorem Un.refl : Un fs ex H H h h:=Un.kept fun _ _ q=>q
theorem Un.laid (k : ∀ b u,h.get? b = some u -> h'.get? b = some u) (hp : h.objs.size <= a) (hn : H a = none) : Un fs ex H (upd H a o) h h' where
 keep:=fun b u q _ _ _=>k b u q
 slot:=fun b u q _ _ _=>⟨u.slots,k b u q⟩
 free:=fun b u q n _=>by rw [yaB (Nat.ne_of_lt (Nat.lt_of_lt_of_le (Heap.lt_size q) hp))]; exact n
 there:=fun b u q _=>⟨u,k b u q⟩
 tups:=fun b xs q=>by rw [yaB (zap q hn)]; exact q
 frzs:=fun b u xs q=>by rw [yaB (zap q hn)]; exact q
 tbls:=fun b ps q=>⟨#[],by rw [yaB (zap q hn),q]; simp⟩
theorem Un.write (mu : Mut (H x)) (he : e = x \/ H e = some (.own x)) (k : ∀ b u,b ≠ e -> h.get? b = some u -> h'.get? b = some u) (heo : ∃ u,h'.get? e = some u) : Un fs ex H (upd H x o) h h' := by
 have hx : ∀ b,H b = none -> b ≠ x:=fun b n z=>by subst z; rw [n] at mu; exact mu
 have hb : ∀ b,H b = none -> b ≠ e:=fun b n z=>by
  subst z
  rcases he with r | r
  ·exact hx b n r
  ·rw [n] at r; cases r
 have hm : ∀ b u,H b = some u -> ¬ Mut (some u) -> b ≠ x:=fun b u q nm z=>by subst z; rw [q] at mu; exact nm mu
 refine ⟨fun b u q n _ _=>k b u (hb b n) q,fun b u q n _ _=>⟨u.slots,k b u (hb b n) q⟩,fun b u q n _=>by rw [yaB (hx b n)]; exact n,fun b u q _=>?_,
  fun b xs q=>by rw [yaB (hm b _ q fun z=>z)]; exact q,fun b u xs q=>by rw [yaB (hm b _ q fun z=>z)]; exact q,fun b ps q=>⟨#[],by rw [yaB (hm b _ q fun z=>z),q]; simp⟩⟩
 by_cases hbe : b = e
 ·subst hbe; exact heo
 ·exact ⟨u,k b u hbe q⟩
end
def trk (h : Heap) (H : Hp) : List Addr:=(List.range h.objs.size).filter fun a=>(H a).isSome
def hidT (h : Heap) (H : Hp) : Heap:=PySem.W.hideAll h (trk h H)
theorem zgy (h : Heap) (H : Hp) : (hidT h H).objs.size = h.objs.size:=PySem.W.hideAll_size _ _
theorem zhg {h : Heap} {H : Hp} {b : Addr} {o : Obj} (e : h.get? b = some o) (n : H b = none) : (hidT h H).get? b = some o :=
 PySem.W.hideAll_get _ e fun hm=>by
  have q : (H b).isSome = true:=(List.mem_filter.mp hm).2
  rw [n] at q; simp at q
theorem zij {h : Heap} {H : Hp} {b : Addr} {o : Obj} (e : (hidT h H).get? b = some o) : h.get? b = some o /\ H b = none:=by
 have e' : h.get? b = some o:=PySem.W.of_hideAll (trk h H) e
 refine ⟨e',?_⟩
 cases q : H b with
 | none=>rfl
 | some x =>
  have hm : b ∈ trk h H:=List.mem_filter.mpr ⟨List.mem_range.mpr (Heap.lt_size e'),by simp [q]⟩
  have z : (hidT h H).get? b = none:=PySem.W.hideAll_none (trk h H) hm
  rw [z] at e; cases e
end L2
namespace L2
open PySem PySem.Spec PyProof.Rows
structure Mod (K : PySem.W.Frag) (mg : Str -> Option Value) (base : Heap) : Prop where
 kin : K.In base
 glob : base.Ns mainGlobals mg
 blt : ∃ mb,base.Ns builtinsNs mb /\ ∀ x : Str,x ≠ "__name__" -> mb x = bootBuiltins x
 nolimit : base.NoLimit
structure Cx where
 prog : Program
 w : World
 K : PySem.W.Frag
 mg : Str -> Option Value
 base : Heap
 A : Around
 N : List Str
 s₀ : Shared
 H₀ : Hp
 env : Env
 outer : List Env
 stack : List Env
 ex : List Addr
 fn : Str -> Bool
 calm : Bool
 pn : List (Addr × Obj)
 xe : Value -> Shared -> Prop
def frs (l : List Env) : List Addr:=l.filterMap (·.frame)
abbrev Cx.fs (X : Cx) : List Addr:=frs X.outer
def Vis (sc : Scope) (x : Str) : Prop:=sc.names.lookup x = some .local \/ sc.names.lookup x = some .cell \/ sc.names.lookup x = some .free
def Loc (sc : Scope) (x : Str) : Prop:=sc.names.lookup x = some .local \/ sc.names.lookup x = some .cell
def Look (env : Env) (h : Heap) (m : Str -> Option Value) (x : Str) (u : Value) : Prop :=
 (env.kindOf x = some .local /\ m x = some u) \/ ((env.kindOf x = some .cell \/ env.kindOf x = some .free) /\ ∃ c,env.cells.lookup x = some c /\ h.IsCell c (some u))
structure Cx.Ok (X : Cx) : Prop where
 mod : Mod X.K X.mg X.base
 kind : X.env.scope.kind = .function
 glob : X.env.globals = mainGlobals
 blt : X.env.builtins = builtinsNs
 above : X.s₀.heap.objs.size <= X.env.locals
 inj : ∀ x y c,X.env.cells.lookup x = some c -> X.env.cells.lookup y = some c -> x = y
 has : ∀ x,(X.env.kindOf x = some .cell \/ X.env.kindOf x = some .free) -> ∃ c,X.env.cells.lookup x = some c
 cab : ∀ x c,X.fn x = true -> X.env.cells.lookup x = some c -> X.s₀.heap.objs.size <= c
 hd : X.calm = true -> X.A.handled = none
 frames : X.A.frames = some X.stack
 stk : X.stack = X.outer \/ (X.stack = X.env :: X.outer /\ X.env.frame = some X.env.locals)
 exf : ∀ b ∈ X.ex,b ≠ X.env.locals /\ ∀ x c,X.env.cells.lookup x = some c -> c ≠ b
 bs : ∀ b o,X.base.get? b = some o -> X.s₀.heap.get? b = some o /\ X.H₀ b = none
 bsz : X.base.objs.size <= X.s₀.heap.objs.size
 noex : ∀ b o,X.base.get? b = some o -> b ∉ X.ex
 exfs : ∀ b ∈ X.ex,b ∉ X.fs
 funs : X.s₀.heap.FunFrames X.base X.outer
 frf : ∀ b ∈ X.fs,X.H₀ b = none
structure Inv (X : Cx) (pins : List (Addr × Obj)) (σ : List (Option V)) (H : Hp) (s : Shared) : Prop where
 ok : X.Ok
 os : s.os = X.s₀.os
 bare : AllBare s.gens
 base : Un X.fs X.ex X.H₀ H X.s₀.heap s.heap
 loc : ∃ m,s.heap.Ns X.env.locals m /\ ∀ (i : Nat) (x : Str) (v : V),X.N[i]? = some x -> σ[i]? = some (some v) -> Vis X.env.scope x -> ∃ u,RelV v u /\ Look X.env s.heap m x u
 cell : ∀ x c,X.env.cells.lookup x = some c -> ∃ v,s.heap.IsCell c v
 free : H X.env.locals = none
 freeC : ∀ x c,X.env.cells.lookup x = some c -> H c = none
 pin : ∀ p ∈ X.pn++pins,s.heap.get? p.1 = some p.2 /\ H p.1 = none /\ p.1 ≠ X.env.locals /\ p.1 ∉ X.fs /\ ∀ v,p.2.data ≠ .cell v
 hok : HOk X.prog X.w H s.heap
 len : σ.length = X.N.length
section
variable {X : Cx} {pins : List (Addr × Obj)} {σ : List (Option V)} {H H' : Hp} {s : Shared} {h' : Heap}
theorem Cx.Ok.nofr (ok : X.Ok) {b : Addr} {o : Obj} (e : X.base.get? b = some o) : b ∉ X.fs:=fun hb=>by
 have:=(ok.funs.mem hb).1
 rw [e] at this; cases this
theorem Inv.bs (I : Inv X pins σ H s) : ∀ b o,X.base.get? b = some o -> s.heap.get? b = some o /\ H b = none:=fun b o e =>
 ⟨I.base.keep b o (I.ok.bs b o e).1 (I.ok.bs b o e).2 (I.ok.nofr e) (I.ok.noex b o e),I.base.free b o (I.ok.bs b o e).1 (I.ok.bs b o e).2 (I.ok.noex b o e)⟩
theorem Inv.bk (I : Inv X pins σ H s) : ∀ b o,X.base.get? b = some o -> s.heap.get? b = some o:=fun b o e=>(I.bs b o e).1
theorem Inv.mod (I : Inv X pins σ H s) : Mod X.K X.mg X.base:=I.ok.mod
theorem Inv.kIn (I : Inv X pins σ H s) : X.K.In s.heap:=I.ok.mod.kin.keeps I.bk
theorem Inv.fr (I : Inv X pins σ H s) : ∃ m,Fr X.base X.env.locals s.heap m :=
 let ⟨m,hn,_⟩:=I.loc
 ⟨m,hn,I.bk,Nat.le_trans I.ok.bsz I.ok.above⟩
theorem Inv.lt (I : Inv X pins σ H s) : X.env.locals < s.heap.objs.size:=let ⟨_,hn,_⟩:=I.loc; hn.lt
theorem Inv.sz (I : Inv X pins σ H s) : X.s₀.heap.objs.size <= s.heap.objs.size:=Nat.le_trans I.ok.above (Nat.le_of_lt I.lt)
theorem Inv.nofs (I : Inv X pins σ H s) {a : Addr} (h : s.heap.objs.size <= a) : a ∉ X.fs:=fun hb=>by
 obtain ⟨_,o,ho,_⟩:=I.ok.funs.mem hb
 exact absurd (Nat.lt_of_lt_of_le (Heap.lt_size ho) (Nat.le_trans I.sz h)) (Nat.lt_irrefl _)
theorem Inv.cne (I : Inv X pins σ H s) : ∀ x c,X.env.cells.lookup x = some c -> c ≠ X.env.locals:=fun x c e z=>by
 obtain ⟨v,o,ho,hd⟩:=I.cell x c e
 obtain ⟨m,⟨o',es,ep,ho',hd',_⟩,_⟩:=I.loc
 rw [z,ho'] at ho; cases ho; rw [hd'] at hd; cases hd
theorem Inv.funs (I : Inv X pins σ H s) : s.heap.FunFrames X.base X.outer:=by
 have all : ∀ (l : List Env),(∀ b ∈ frs l,b ∈ X.fs) -> X.s₀.heap.FunFrames X.base l -> s.heap.FunFrames X.base l:=by
  intro l
  induction l with
  | nil=>intro _ _; trivial
  | cons env r ih =>
   intro hs hl
   obtain ⟨hk,⟨L,o,hf,hn,ho,hd⟩,hr⟩:=hl
   have hL : L ∈ X.fs:=hs L (by unfold frs; rw [List.filterMap_cons,hf]; exact List.mem_cons_self)
   obtain ⟨sl,e⟩:=I.base.slot L o ho (I.ok.frf L hL) hL fun z=>I.ok.exfs L z hL
   exact ⟨hk,⟨L,_,hf,hn,e,hd⟩,ih (fun b hb=>hs b (by unfold frs; rw [List.filterMap_cons,hf]; exact List.mem_cons_of_mem _ hb)) hr⟩
 exact all X.outer (fun _ hb=>hb) I.ok.funs
theorem Inv.stack (I : Inv X pins σ H s) : s.heap.FunFrames X.base X.stack:=by
 rcases I.ok.stk with e | ⟨e,hf⟩
 ·rw [e]; exact I.funs
 ·rw [e]
  obtain ⟨m,hn,_⟩:=I.loc
  refine .cons (by rw [I.ok.kind]; decide) hf hn ?_ I.funs
  exact Heap.get?_none_of_le (Nat.le_trans I.ok.bsz I.ok.above)
theorem Inv.stkSub (I : Inv X pins σ H s) : ∀ b ∈ frs X.stack,b ∈ X.env.locals :: X.fs:=fun b hb=>by
 rcases I.ok.stk with e | ⟨e,hf⟩
 ·rw [e] at hb; exact List.mem_cons_of_mem _ hb
 ·rw [e] at hb
  unfold frs at hb
  rw [List.filterMap_cons,hf] at hb
  exact hb
theorem Inv.stkFree (I : Inv X pins σ H s) : ∀ b ∈ frs X.stack,H b = none:=fun b hb=>by
 rcases List.mem_cons.mp (I.stkSub b hb) with e | hb
 ·rw [e]; exact I.free
 ·obtain ⟨_,o,ho,_⟩:=I.ok.funs.mem hb
  exact I.base.free b o ho (I.ok.frf b hb) fun z=>I.ok.exfs b z hb
theorem Inv.step {g' : Array GenState} {t' : Nat} {d' : Drawn} {ch : List Addr} (I : Inv X pins σ H s)
  (hch : ∀ b ∈ ch,(b ∈ X.ex \/ X.s₀.heap.objs.size <= b) /\ b ≠ X.env.locals /\ (∀ x c,X.env.cells.lookup x = some c -> c ≠ b) /\ ∀ p ∈ X.pn++pins,p.1 ≠ b)
  (keep : ∀ b o,b ≠ X.env.locals -> b ∉ X.fs -> b ∉ ch -> s.heap.get? b = some o -> H b = none -> h'.get? b = some o)
  (slot : ∀ b o,b ≠ X.env.locals -> b ∈ X.fs -> b ∉ ch -> s.heap.get? b = some o -> H b = none -> ∃ sl,h'.get? b = some { o with slots:=sl }) (free : ∀ b o,b ∉ ch -> s.heap.get? b = some o -> H b = none -> H' b = none)
  (there : ∀ b o,b ∉ ch -> s.heap.get? b = some o -> ∃ o',h'.get? b = some o')
  (tups : ∀ b xs,H b = some (.tup xs) -> H' b = some (.tup xs)) (frzs : ∀ b o u,H b = some (.frz o u) -> H' b = some (.frz o u)) (tbls : ∀ b ps,H b = some (.tbl ps) -> ∃ more,H' b = some (.tbl (ps++more)))
  (ns : ∀ m,s.heap.Ns X.env.locals m -> h'.Ns X.env.locals m) (hok : HOk X.prog X.w H' h') (hg : AllBare g') :
  Inv X pins σ H' { s with heap:=h',gens:=g',drawn:=d',toks:=t' }:=by
 have neL : ∀ b o,X.s₀.heap.get? b = some o -> b ≠ X.env.locals:=fun b o e=>Nat.ne_of_lt (Nat.lt_of_lt_of_le (Heap.lt_size e) I.ok.above)
 have neC : ∀ b o,X.s₀.heap.get? b = some o -> b ∉ X.ex -> b ∉ ch:=fun b o e hx hb=>by
  rcases (hch b hb).1 with z | z
  ·exact hx z
  ·exact absurd (Nat.lt_of_lt_of_le (Heap.lt_size e) z) (Nat.lt_irrefl _)
 have cellK : ∀ x c,X.env.cells.lookup x = some c -> ∀ v,s.heap.IsCell c v -> h'.IsCell c v:=fun x c e v ⟨o,ho,hd⟩=>by
  have nch : c ∉ ch:=fun z=>(hch c z).2.2.1 x c e rfl
  by_cases hc : c ∈ X.fs
  ·obtain ⟨sl,q⟩:=slot c o (I.cne x c e) hc nch ho (I.freeC x c e)
   exact ⟨_,q,hd⟩
  ·exact ⟨o,keep c o (I.cne x c e) hc nch ho (I.freeC x c e),hd⟩
 refine ⟨I.ok,I.os,hg,⟨fun b o e n hb hx=>?_,fun b o e n hb hx=>?_,fun b o e n hx=>?_,fun b o e hx=>?_,fun b xs e=>tups b xs (I.base.tups b xs e),fun b o xs e=>frzs b o xs (I.base.frzs b o xs e),fun b ps e=>?_⟩,?_,fun x c e=>?_,?_,fun x c e=>?_,fun p hp=>?_,hok,I.len⟩
 ·exact keep b o (neL b o e) hb (neC b o e hx) (I.base.keep b o e n hb hx) (I.base.free b o e n hx)
 ·obtain ⟨sl,e1⟩:=I.base.slot b o e n hb hx
  obtain ⟨sl',e2⟩:=slot b _ (neL b o e) hb (neC b o e hx) e1 (I.base.free b o e n hx)
  exact ⟨sl',e2⟩
 ·obtain ⟨o',e1⟩:=I.base.there b o e hx
  exact free b o' (neC b o e hx) e1 (I.base.free b o e n hx)
 ·obtain ⟨o',e1⟩:=I.base.there b o e hx
  exact there b o' (neC b o e hx) e1
 ·obtain ⟨m1,e1⟩:=I.base.tbls b ps e
  obtain ⟨m2,e2⟩:=tbls b _ e1
  exact ⟨m1++m2,by rw [e2,Array.append_assoc]⟩
 ·obtain ⟨m,hn,hl⟩:=I.loc
  refine ⟨m,ns m hn,fun i x v e1 e2 e3=>?_⟩
  obtain ⟨u,r,l⟩:=hl i x v e1 e2 e3
  refine ⟨u,r,?_⟩
  rcases l with l | ⟨k,c,e,z⟩
  ·exact .inl l
  ·exact .inr ⟨k,c,e,cellK x c e _ z⟩
 ·obtain ⟨v,z⟩:=I.cell x c e
  exact ⟨v,cellK x c e v z⟩
 ·obtain ⟨m,⟨o,_,_,ho,_⟩,_⟩:=I.loc
  exact free _ o (fun z=>(hch _ z).2.1 rfl) ho I.free
 ·obtain ⟨v,o,ho,hd⟩:=I.cell x c e
  exact free c o (fun z=>(hch c z).2.2.1 x c e rfl) ho (I.freeC x c e)
 ·obtain ⟨e,n,ne,nf,d⟩:=I.pin p hp
  have nch : p.1 ∉ ch:=fun z=>(hch p.1 z).2.2.2 p hp rfl
  exact ⟨keep p.1 p.2 ne nf nch e n,free p.1 p.2 nch e n,ne,nf,d⟩
theorem Inv.un {t' : Nat} (I : Inv X pins σ H s) (u : Un X.fs [] H H' s.heap h') (hok : HOk X.prog X.w H' h') : Inv X pins σ H' { s with heap:=h',toks:=t' }:=by
 obtain ⟨m,⟨o,es,ep,ho,r⟩,_⟩:=id I.loc
 obtain ⟨sl,hL⟩:=u.any ho I.free (by simp)
 exact I.step (g' := s.gens) (d' := s.drawn) (ch:=[]) (fun _ z=>nomatch z) (fun b o _ hb _ e n=>u.keep b o e n hb (by simp)) (fun b o _ hb _ e n=>u.slot b o e n hb (by simp)) (fun b o _ e n=>u.free b o e n (by simp)) (fun b o _ e=>u.there b o e (by simp)) u.tups u.frzs u.tbls (fun m' hm=>by
  obtain ⟨o',es',ep',ho',r'⟩:=hm
  rw [ho] at ho'; cases ho'
  exact ⟨_,es',ep',hL,r'⟩) hok I.bare
theorem Inv.call {g' : Array GenState} {t' : Nat} {d' : Drawn} {ch : List Addr} (I : Inv X pins σ H s) (u : Un (frs X.stack) ch H H' s.heap h') (hok : HOk X.prog X.w H' h') (hg : AllBare g')
  (hch : ∀ b ∈ ch,(b ∈ X.ex \/ X.s₀.heap.objs.size <= b) /\ b ≠ X.env.locals /\ (∀ x c,X.env.cells.lookup x = some c -> c ≠ b) /\ ∀ p ∈ X.pn++pins,p.1 ≠ b) :
  Inv X pins σ H' { s with heap:=h',gens:=g',drawn:=d',toks:=t' }:=by
 obtain ⟨m,⟨o,es,ep,ho,r⟩,_⟩:=id I.loc
 obtain ⟨sl,hL⟩:=u.any ho I.free fun z=>(hch _ z).2.1 rfl
 exact I.step (ch:=ch) hch (fun b o hL hb hc e n=>u.keep b o e n (fun z=>(List.mem_cons.mp (I.stkSub b z)).elim hL hb) hc) (fun b o _ _ hc e n=>u.any e n hc) (fun b o hc e n=>u.free b o e n hc) (fun b o hc e=>u.there b o e hc) u.tups u.frzs u.tbls (fun m' hm=>by
  obtain ⟨o',es',ep',ho',r'⟩:=hm
  rw [ho] at ho'; cases ho'
  exact ⟨_,es',ep',hL,r'⟩) hok hg
theorem Inv.turned {t' : Nat} {it : Addr} (I : Inv X pins σ H s) (k : ∀ b o,b ≠ it -> s.heap.get? b = some o -> h'.get? b = some o) (hn : H it = none) (hL : it ≠ X.env.locals)
  (h1 : it ∈ X.ex \/ X.s₀.heap.objs.size <= it) (h2 : ∀ x c,X.env.cells.lookup x = some c -> c ≠ it) (h3 : ∀ p ∈ X.pn++pins,p.1 ≠ it) : Inv X pins σ H { s with heap:=h',toks:=t' }:=by
 have nit : ∀ b u,H b = some u -> b ≠ it:=fun b u e z=>by rw [z,hn] at e; cases e
 refine I.step (g' := s.gens) (d' := s.drawn) (ch:=[it]) (fun b hb=>?_) (fun b o _ _ hc e _=>k b o (fun z=>hc (by simp [z])) e) (fun b o _ _ hc e _=>⟨o.slots,k b o (fun z=>hc (by simp [z])) e⟩) (fun _ _ _ _ n=>n)
  (fun b o hc e=>⟨o,k b o (fun z=>hc (by simp [z])) e⟩) (fun _ _ e=>e) (fun _ _ _ e=>e) (fun b ps e=>⟨#[],by rw [e]; simp⟩) (fun m hm=>?_) (fun b u e=>?_) I.bare
 ·have e : b = it:=by simpa using hb
  subst e
  exact ⟨h1,hL,h2,h3⟩
 ·obtain ⟨o,es,ep,ho,r⟩:=hm
  exact ⟨o,es,ep,k _ o (Ne.symm hL) ho,r⟩
 ·refine (I.hok b u e).stay (fun c v hc q=>k c v ?_ q) (fun _ q=>q) fun _ _ q=>q
  rcases hc with z | z
  ·rw [z]; exact nit b u e
  ·exact nit c _ z
theorem Inv.tok (I : Inv X pins σ H s) (t : Nat) : Inv X pins σ H { s with toks:=t }:=I.un (h' := s.heap) (t' := t) Un.refl I.hok
theorem Inv.kept {t' : Nat} (I : Inv X pins σ H s) (k : ∀ b u,s.heap.get? b = some u -> h'.get? b = some u) : Inv X pins σ H { s with heap:=h',toks:=t' }:=I.un (Un.kept k) (I.hok.kept k)
theorem Inv.laid {a : Addr} {o : HO} {t' : Nat} (I : Inv X pins σ H s) (k : ∀ b u,s.heap.get? b = some u -> h'.get? b = some u) (hp : s.heap.objs.size <= a) (new : ObjOk X.prog X.w (upd H a o) h' a o) :
  Inv X pins σ (upd H a o) { s with heap:=h',toks:=t' }:=I.un (Un.laid k hp (I.hok.fresh hp)) (I.hok.laid k hp new)
theorem Inv.write {x e : Addr} {o : HO} {t' : Nat} (I : Inv X pins σ H s) (mu : Mut (H x)) (he : e = x \/ H e = some (.own x)) (k : ∀ b u,b ≠ e -> s.heap.get? b = some u -> h'.get? b = some u) (heo : ∃ u,h'.get? e = some u)
  (new : ObjOk X.prog X.w (upd H x o) h' x o) : Inv X pins σ (upd H x o) { s with heap:=h',toks:=t' }:=I.un (Un.write mu he k heo) (I.hok.write mu he k heo new)
theorem Inv.weak {σ' : List (Option V)} (I : Inv X pins σ H s) (hl : σ'.length = σ.length) (w : ∀ (i : Nat) v,σ'[i]? = some (some v) -> σ[i]? = some (some v)) : Inv X pins σ' H s :=
 ⟨I.ok,I.os,I.bare,I.base,let ⟨m,hn,hl'⟩:=I.loc; ⟨m,hn,fun i x v e1 e2 e3=>hl' i x v e1 (w i v e2) e3⟩,I.cell,I.free,I.freeC,I.pin,I.hok,hl.trans I.len⟩
theorem Inv.pins_of {pins' : List (Addr × Obj)} (I : Inv X pins σ H s) (h : ∀ p ∈ pins',s.heap.get? p.1 = some p.2 /\ H p.1 = none /\ p.1 ≠ X.env.locals /\ p.1 ∉ X.fs /\ ∀ v,p.2.data ≠ .cell v) : Inv X pins' σ H s :=
 ⟨I.ok,I.os,I.bare,I.base,I.loc,I.cell,I.free,I.freeC,fun p hp=>(List.mem_append.mp hp).elim (fun z=>I.pin p (List.mem_append_left _ z)) (h p),I.hok,I.len⟩
theorem zbH {N : List Str} (hN : N.Nodup) {i j : Nat} {x : Str} (a : N[i]? = some x) (b : N[j]? = some x) : i = j:=by
 obtain ⟨h1,e1⟩:=List.getElem?_eq_some_iff.mp a
 obtain ⟨h2,e2⟩:=List.getElem?_eq_some_iff.mp b
 exact (List.getElem_inj hN).mp (e1.trans e2.symm)
theorem zdF {M : Model} {A : Around} {E : Value -> Shared -> Prop} {i : Nat} {x : Str} {v : V} {u : Value} {Q : Unit -> Shared -> Prop} (I : Inv X pins σ H s) (hN : X.N.Nodup) (hi : X.N[i]? = some x) (hx : Loc X.env.scope x) (r : RelV v u)
  (h : ∀ s',Inv X pins (σ.set i (some v)) H s' -> (∃ a,Heap.SameBut a s.heap s'.heap /\ (a = X.env.locals \/ X.env.cells.lookup x = some a)) -> Q () s') (hf : X.fn x = true \/ X.env.scope.names.lookup x = some .local:=by first | exact .inl rfl | exact .inr rfl | assumption) : wpAny M A (storeName X.env x u) Q E s:=by
 obtain ⟨m,hn,hl⟩:=id I.loc
 have hcls : (X.env.scope.kind == .class || (X.env.scope.kind == .module && X.env.locals != X.env.globals)) = false:=by rw [I.ok.kind]; rfl
 have hiσ : i < σ.length:=by rw [I.len]; exact (List.getElem?_eq_some_iff.mp hi).1
 have cne:=I.cne
 have tracked : ∀ {a : Addr} {h' : Heap},(∃ o,s.heap.get? a = some o /\ H a = none) -> Heap.SameBut a s.heap h' -> HOk X.prog X.w H h' := fun {a h'} ha hs b ob e=>by
  obtain ⟨_,_,hfree⟩:=ha
  refine (I.hok b ob e).stay (fun c w' hc q=>(hs.2 c ?_).trans q) (fun _ q=>q) fun _ _ q=>q
  rintro rfl
  rcases hc with rfl | hc
  ·rw [hfree] at e; cases e
  ·rw [hfree] at hc; cases hc
 rcases hx with hk | hk
 ·refine wpAny_storeName_local hk hn (fun h' hn' hs=>?_) hcls
  obtain ⟨oL,_,_,hoL,_⟩:=id hn
  refine h _ ⟨I.ok,I.os,I.bare,⟨fun b o e n hb hx=>?_,fun b o e n hb hx=>?_,I.base.free,fun b o e hx=>?_,I.base.tups,I.base.frzs,I.base.tbls⟩,⟨_,hn',fun j y v' e1 e2 e3=>?_⟩,fun y c e=>?_,I.free,I.freeC,fun p hp=>?_,tracked ⟨oL,hoL,I.free⟩ hs,by simpa using I.len⟩ ⟨_,hs,.inl rfl⟩
  ·exact (hs.2 b (Nat.ne_of_lt (Nat.lt_of_lt_of_le (Heap.lt_size e) I.ok.above))).trans (I.base.keep b o e n hb hx)
  ·obtain ⟨sl,e1⟩:=I.base.slot b o e n hb hx
   exact ⟨sl,(hs.2 b (Nat.ne_of_lt (Nat.lt_of_lt_of_le (Heap.lt_size e) I.ok.above))).trans e1⟩
  ·obtain ⟨o',e1⟩:=I.base.there b o e hx
   exact ⟨o',(hs.2 b (Nat.ne_of_lt (Nat.lt_of_lt_of_le (Heap.lt_size e) I.ok.above))).trans e1⟩
  ·by_cases hj : j = i
   ·subst hj
    rw [hi] at e1; cases e1
    rw [List.getElem?_set_self hiσ] at e2
    cases e2
    exact ⟨u,r,.inl ⟨hk,by simp⟩⟩
   ·rw [List.getElem?_set_ne (Ne.symm hj)] at e2
    obtain ⟨u',r',q⟩:=hl j y v' e1 e2 e3
    refine ⟨u',r',?_⟩
    rcases q with ⟨k,e⟩ | ⟨k,c,e,z⟩
    ·refine .inl ⟨k,?_⟩
     have : y ≠ x:=fun e=>hj (zbH hN e1 (e ▸ hi))
     simp [this,e]
    ·exact .inr ⟨k,c,e,z.sameBut hs (cne y c e)⟩
  ·obtain ⟨w',z⟩:=I.cell y c e
   exact ⟨w',z.sameBut hs (cne y c e)⟩
  ·obtain ⟨e,n,ne,nf,d⟩:=I.pin p hp
   exact ⟨(hs.2 p.1 ne).trans e,n,ne,nf,d⟩
 ·have hfn : X.fn x = true:=by
   rcases hf with z | z
   ·exact z
   ·rw [z] at hk; cases hk
  obtain ⟨c,hc⟩:=I.ok.has x (.inl hk)
  obtain ⟨w',z⟩:=I.cell x c hc
  refine wpAny_storeName_cell I.ok.kind hk hc z (fun h' hc' hs=>?_)
  obtain ⟨oc,hoc,hocd⟩:=id z
  refine h { s with heap:=h' } ⟨I.ok,I.os,I.bare,⟨fun b o e n hb hx=>?_,fun b o e n hb hx=>?_,I.base.free,fun b o e hx=>?_,I.base.tups,I.base.frzs,I.base.tbls⟩,⟨m,hn.sameBut hs (Ne.symm (cne x c hc)),fun j y v' e1 e2 e3=>?_⟩,fun y c' e=>?_,I.free,I.freeC,fun p hp=>?_,tracked ⟨oc,hoc,I.freeC x c hc⟩ hs,by simpa using I.len⟩ ⟨c,hs,.inr hc⟩
  ·exact (hs.2 b (Nat.ne_of_lt (Nat.lt_of_lt_of_le (Heap.lt_size e) (I.ok.cab x c hfn hc)))).trans (I.base.keep b o e n hb hx)
  ·obtain ⟨sl,e1⟩:=I.base.slot b o e n hb hx
   exact ⟨sl,(hs.2 b (Nat.ne_of_lt (Nat.lt_of_lt_of_le (Heap.lt_size e) (I.ok.cab x c hfn hc)))).trans e1⟩
  ·obtain ⟨o',e1⟩:=I.base.there b o e hx
   exact ⟨o',(hs.2 b (Nat.ne_of_lt (Nat.lt_of_lt_of_le (Heap.lt_size e) (I.ok.cab x c hfn hc)))).trans e1⟩
  ·by_cases hj : j = i
   ·subst hj
    rw [hi] at e1; cases e1
    rw [List.getElem?_set_self hiσ] at e2
    cases e2
    exact ⟨u,r,.inr ⟨.inl hk,c,hc,hc'⟩⟩
   ·rw [List.getElem?_set_ne (Ne.symm hj)] at e2
    obtain ⟨u',r',q⟩:=hl j y v' e1 e2 e3
    refine ⟨u',r',?_⟩
    rcases q with q | ⟨k,c',e,z'⟩
    ·exact .inl q
    ·refine .inr ⟨k,c',e,z'.sameBut hs ?_⟩
     rintro rfl
     exact hj (zbH hN e1 (I.ok.inj _ _ _ e hc ▸ hi))
  ·by_cases hcc : c' = c
   ·subst hcc; exact ⟨_,hc'⟩
   ·obtain ⟨w2,z2⟩:=I.cell y c' e
    exact ⟨w2,z2.sameBut hs hcc⟩
  ·obtain ⟨e,n,ne,nf,d⟩:=I.pin p hp
   refine ⟨(hs.2 p.1 ?_).trans e,n,ne,nf,d⟩
   intro q
   rw [q,hoc] at e
   have q' : oc = p.2:=Option.some.inj e
   exact d w' (by rw [<- q']; exact hocd)
theorem zbI {M : Model} {A : Around} {E : Value -> Shared -> Prop} {i : Nat} {x : Str} {v : V} {u : Value} {Q : Unit -> Shared -> Prop} (I : Inv X pins σ H s) (hN : X.N.Nodup) (hi : X.N[i]? = some x) (hx : Loc X.env.scope x) (r : RelV v u)
  (h : ∀ s',Inv X pins (σ.set i (some v)) H s' -> Q () s') (hf : X.fn x = true \/ X.env.scope.names.lookup x = some .local:=by first | exact .inl rfl | exact .inr rfl | assumption) : wpAny M A (storeName X.env x u) Q E s :=
 zdF I hN hi hx r (fun s' I' _=>h s' I') hf
theorem Inv.call' {s' : Shared} {ch : List Addr} (I : Inv X pins σ H s) (ho : s'.os = s.os) (u : Un (frs X.stack) ch H H' s.heap s'.heap) (hok : HOk X.prog X.w H' s'.heap) (hg : AllBare s'.gens)
  (hch : ∀ b ∈ ch,(b ∈ X.ex \/ X.s₀.heap.objs.size <= b) /\ b ≠ X.env.locals /\ (∀ x c,X.env.cells.lookup x = some c -> c ≠ b) /\ ∀ p ∈ X.pn++pins,p.1 ≠ b) : Inv X pins σ H' s' := by
 obtain ⟨h',g',d',t',o'⟩:=s'
 have e : o' = s.os:=ho
 subst e
 exact I.call (g' := g') (t' := t') (d' := d') u hok hg hch
end
abbrev XK:=Value -> Option Addr -> Hp -> Prop
abbrev St:=List (Option V)
abbrev VK:=V -> Hp -> Prop
abbrev TE:=St -> Hp -> VK -> Prop
abbrev TT:=St -> Hp -> (Bool -> Hp -> Prop) -> Prop
abbrev TA:=St -> Hp -> (List V -> Hp -> Prop) -> Prop
structure Ends where
 nx : St -> Hp -> Prop
 rt : VK
 bk : St -> Hp -> Prop:=fun _ _=>False
 ct : St -> Hp -> Prop:=fun _ _=>False
abbrev TS:=Ends -> St -> Hp -> Prop
def EP (X : Cx) (pins : List (Addr × Obj)) (σ : St) (Q : VK) (u : Value) (s' : Shared) : Prop:=∃ v H',Inv X pins σ H' s' /\ RelV v u /\ Q v H'
def TP (X : Cx) (pins : List (Addr × Obj)) (σ : St) (Q : Bool -> Hp -> Prop) (b : Bool) (s' : Shared) : Prop:=∃ H',Inv X pins σ H' s' /\ Q b H'
def AP (X : Cx) (pins : List (Addr × Obj)) (σ : St) (Q : List V -> Hp -> Prop) (us : List Value) (s' : Shared) : Prop:=∃ vs H',Inv X pins σ H' s' /\ Vals vs us /\ Q vs H'
def SP (X : Cx) (pins : List (Addr × Obj)) (D : Ends) (f : Flow) (s' : Shared) : Prop :=
 match f with
 | .next=>∃ σ' H',Inv X pins σ' H' s' /\ D.nx σ' H'
 | .brk=>∃ σ' H',Inv X pins σ' H' s' /\ D.bk σ' H'
 | .cont=>∃ σ' H',Inv X pins σ' H' s' /\ D.ct σ' H'
 | .ret u=>∃ v σ' H',Inv X pins σ' H' s' /\ RelV v u /\ D.rt v H'
def PE (X : Cx) (e : Expr) (t : TE) : Prop :=
 ∀ (pins : List (Addr × Obj)) (s : Shared) (σ : St) (H : Hp) (Q : VK),Inv X pins σ H s -> t σ H Q -> wpAny (model X.prog X.w) X.A (eval e X.env) (EP X pins σ Q) X.xe s
def PT (X : Cx) (e : Expr) (t : TT) : Prop :=
 ∀ (pins : List (Addr × Obj)) (s : Shared) (σ : St) (H : Hp) (Q : Bool -> Hp -> Prop),Inv X pins σ H s -> t σ H Q -> wpAny (model X.prog X.w) X.A (isTrue e X.env (eval e X.env)) (TP X pins σ Q) X.xe s
def PW (X : Cx) (e : Expr) (t : TT) : Prop :=
 ∀ (whole : Sem Value) (pins : List (Addr × Obj)) (s : Shared) (σ : St) (H : Hp) (Q : Bool -> Hp -> Prop),Inv X pins σ H s -> t σ H Q -> wpAny (model X.prog X.w) X.A (isTrue e X.env whole) (TP X pins σ Q) X.xe s
theorem PW.pt {X : Cx} {e : Expr} {t : TT} (h : PW X e t) : PT X e t:=h _
def PA (X : Cx) (es : List Expr) (t : TA) : Prop :=
 ∀ (pos : Pos) (pins : List (Addr × Obj)) (s : Shared) (σ : St) (H : Hp) (Q : List V -> Hp -> Prop),Inv X pins σ H s -> t σ H Q -> wpAny (model X.prog X.w) X.A (spliced (backTo pos (starEach es X.env))) (AP X pins σ Q) X.xe s
def PS (X : Cx) (st : Stmt) (t : TS) : Prop :=
 ∀ (pins : List (Addr × Obj)) (s : Shared) (σ : St) (H : Hp) (D : Ends),Inv X pins σ H s -> t D σ H -> wpAny (model X.prog X.w) X.A (exec st X.env) (SP X pins D) X.xe s
def PSs (X : Cx) (st : List Stmt) (t : TS) : Prop :=
 ∀ (pins : List (Addr × Obj)) (s : Shared) (σ : St) (H : Hp) (D : Ends),Inv X pins σ H s -> t D σ H -> wpAny (model X.prog X.w) X.A (execs st X.env) (SP X pins D) X.xe s
theorem thn {α : Type} {t : Sem α} {Q Q' : α -> Shared -> Prop} {M : Model} {A : Around} {E : Value -> Shared -> Prop} {s : Shared} (h : wpAny M A t Q E s) (hQ : ∀ a s,Q a s -> Q' a s) : wpAny M A t Q' E s:=wpAny_mono h hQ fun _ _ x=>x
end L2
namespace L2
open PySem PySem.Spec PyProof.Rows
section
variable {X : Cx}
theorem bin {a b : Expr} {ta tb : TE} (ha : PE X a ta) (hb : PE X b tb) {pins : List (Addr × Obj)} {s : Shared} {σ : St} {H : Hp} {R : V -> V -> Hp -> Prop} (I : Inv X pins σ H s) (h : ta σ H fun x H1=>tb σ H1 fun y H2=>R x y H2)
  {α : Type} {Q : α -> Shared -> Prop} {f : Value -> Value -> Sem α}
  (hf : ∀ v u s2 x y H2,Inv X pins σ H2 s2 -> RelV x v -> RelV y u -> R x y H2 -> wpAny (model X.prog X.w) X.A (f v u) Q X.xe s2) :
  wpAny (model X.prog X.w) X.A (eval a X.env) (fun v s₁=>wpAny (model X.prog X.w) X.A (eval b X.env) (fun u s₂=>wpAny (model X.prog X.w) X.A (f v u) Q X.xe s₂) X.xe s₁) X.xe s:=by
 refine thn (ha pins s σ H _ I h) fun v s1 ⟨x,H1,I1,r1,q1⟩=>?_
 refine thn (hb pins s1 σ H1 _ I1 q1) fun u s2 ⟨y,H2,I2,r2,q2⟩=>?_
 exact hf v u s2 x y H2 I2 r1 r2 q2
def tVar (i : Nat) : TE:=fun σ H Q=>∃ v,σ[i]? = some (some v) /\ Q v H
def tC (v : V) : TE:=fun _ H Q=>Q v H
theorem ygm {i : Nat} {x : Str} {pos : Pos} (hN : X.N[i]? = some x) (hv : Vis X.env.scope x) (hd : (x == ("__debug__" : Str)) = false:=by decide) (hcd : (x == ("__classdict__" : Str)) = false:=by decide) : PE X (.Name x pos) (tVar i):=by
 intro pins s σ H Q I h
 obtain ⟨v,e,h⟩:=h
 obtain ⟨m,hn,hl⟩:=I.loc
 obtain ⟨u,r,l⟩:=hl i x v hN e hv
 have fin : EP X pins σ Q u s:=⟨v,H,I,r,h⟩
 rcases l with ⟨hk,hm⟩ | ⟨hk,c,hc,hcell⟩
 ·exact wpAny_Name (wpAny_loadName_local I.ok.kind hk hn hm fin) hd
 ·rcases hk with hk | hk
  ·exact wpAny_Name (wpAny_loadName_cell I.ok.kind hk hc hcell fin) hd
  ·exact wpAny_Name (wpAny_loadName_free I.ok.kind hk hc hcell fin hcd) hd
theorem ygn {i j pos} : PE X (.Constant (.int i) j pos) (tC (.int i)):=fun _ _ _ H _ I h=>wpAny_Constant_int ⟨.int i,H,I.tok _,⟨_,rfl⟩,h⟩
theorem yhE {b j pos} : PE X (.Constant (.bool b) j pos) (tC (.bl b)):=fun _ _ _ H _ I h=>Constant_bool ⟨.bl b,H,I,rfl,h⟩
theorem ygo {j pos} : PE X (.Constant .none j pos) (tC .non):=fun _ _ _ H _ I h=>Constant_none ⟨.non,H,I,rfl,h⟩
theorem ygp {x j pos} : PE X (.Constant (.str x) j pos) (tC (.str x)):=fun _ _ _ H _ I h=>Calls.Constant_str ⟨.str x,H,I.tok _,⟨_,rfl⟩,h⟩
def Gl (X : Cx) (x : Str) : Prop:=X.env.kindOf x = some .globalImplicit
theorem zby {E : Value -> Shared -> Prop} {pins : List (Addr × Obj)} {s : Shared} {σ : St} {H : Hp} {x : Str} {u : Value} {pos : Pos} {Q : Value -> Shared -> Prop} (I : Inv X pins σ H s) (hg : Gl X x) (hm : X.mg x = some u) (h : Q u s)
  (hd : (x == ("__debug__" : Str)) = false:=by decide) : wpAny (model X.prog X.w) X.A (eval (.Name x pos) X.env) Q E s :=
 Calls.Name_function_global I.ok.kind hg (Calls.loadGlobal_global (by rw [I.ok.glob]; exact I.mod.glob.keeps I.bk) hm h) hd
theorem yeh {E : Value -> Shared -> Prop} {pins : List (Addr × Obj)} {s : Shared} {σ : St} {H : Hp} {x : Str} {u : Value} {pos : Pos} {Q : Value -> Shared -> Prop} (I : Inv X pins σ H s) (hg : Gl X x) (hm : X.mg x = none) (hv : bootBuiltins x = some u) (h : Q u s)
  (hn : x ≠ "__name__" := by decide) (hd : (x == ("__debug__" : Str)) = false:=by decide) : wpAny (model X.prog X.w) X.A (eval (.Name x pos) X.env) Q E s:=by
 obtain ⟨mb,h1,h2⟩:=I.mod.blt
 exact Calls.Name_function_global I.ok.kind hg (Calls.loadGlobal_builtin (by rw [I.ok.glob]; exact I.mod.glob.keeps I.bk) hm (by rw [I.ok.blt]; exact h1.keeps I.bk) ((h2 x hn).trans hv) h) hd
theorem zfa {x : Str} {v : V} {u : Value} {pos : Pos} (hg : Gl X x) (hm : X.mg x = some u) (r : RelV v u) (hd : (x == ("__debug__" : Str)) = false:=by decide) : PE X (.Name x pos) (tC v) :=
 fun _ _ _ H _ I h=>zby I hg hm ⟨v,H,I,r,h⟩ hd
theorem zfb {x : Str} {v : V} {u : Value} {pos : Pos} (hg : Gl X x) (hm : X.mg x = none) (hv : bootBuiltins x = some u) (r : RelV v u) (hn : x ≠ "__name__" := by decide) (hd : (x == ("__debug__" : Str)) = false:=by decide) : PE X (.Name x pos) (tC v) :=
 fun _ _ _ H _ I h=>yeh I hg hm hv ⟨v,H,I,r,h⟩ hn hd
variable {a b : Expr} {ta tb : TE} {pos : Pos}
variable {tA tB' : TT} {rest : List Expr}
def tAnd (t u : TT) : TT:=fun σ H Q=>t σ H fun c H1=>if c = true then u σ H1 Q else Q false H1
def tOr (t u : TT) : TT:=fun σ H Q=>t σ H fun c H1=>if c = true then Q true H1 else u σ H1 Q
def tNot (t : TT) : TT:=fun σ H Q=>t σ H fun c H1=>Q (!c) H1
theorem zik (ha : PT X a tA) : PW X (.BoolOp .And [a] pos) tA:=by
 intro wh pins s σ H Q I h
 refine isTrue_and (thn (ha pins s σ H Q I h) fun c s1 e=>?_)
 cases c with
 | true=>exact isTrue_and_nil e
 | false=>exact e
theorem ygq (ha : PT X a tA) : PW X (.BoolOp .Or [a] pos) tA:=by
 intro wh pins s σ H Q I h
 refine isTrue_or (thn (ha pins s σ H Q I h) fun c s1 e=>?_)
 cases c with
 | false=>exact isTrue_or_nil e
 | true=>exact e
theorem ygr (ha : PT X a tA) (hb : PW X (.BoolOp .And (b :: rest) pos) tB') : PW X (.BoolOp .And (a :: b :: rest) pos) (tAnd tA tB'):=by
 intro wh pins s σ H Q I h
 refine isTrue_and (thn (ha pins s σ H _ I h) fun c s1 ⟨H1,I1,q1⟩=>?_)
 cases c with
 | true=>exact hb wh pins s1 σ H1 Q I1 q1
 | false=>exact ⟨H1,I1,q1⟩
theorem yhF (ha : PT X a tA) (hb : PW X (.BoolOp .Or (b :: rest) pos) tB') : PW X (.BoolOp .Or (a :: b :: rest) pos) (tOr tA tB'):=by
 intro wh pins s σ H Q I h
 refine isTrue_or (thn (ha pins s σ H _ I h) fun c s1 ⟨H1,I1,q1⟩=>?_)
 cases c with
 | true=>exact ⟨H1,I1,q1⟩
 | false=>exact hb wh pins s1 σ H1 Q I1 q1
theorem ygs (ha : PT X a tA) : PT X (.UnaryOp .Not a pos) (tNot tA):=by
 intro pins s σ H Q I h
 exact isTrue_not (ha pins s σ H (fun c H1=>Q (!c) H1) I h)
def yhG (ta tb : TE) : TE:=fun σ H Q=>ta σ H fun x H1=>∃ c,x = .bl c /\ if c = true then tb σ H1 Q else Q (.bl false) H1
def tOrV (ta tb : TE) : TE:=fun σ H Q=>ta σ H fun x H1=>∃ c,x = .bl c /\ if c = true then Q (.bl true) H1 else tb σ H1 Q
def yhH (ta : TE) : TE:=fun σ H Q=>ta σ H fun x H1=>∃ c,x = .bl c /\ Q (.bl (!c)) H1
theorem ygt {op} {t : TE} (h : PE X a t) : PE X (.BoolOp op [a] pos) t:=fun pins s σ H Q I hw=>BoolOp_one (h pins s σ H Q I hw)
theorem ygu (ha : PE X a ta) (hb : PE X (.BoolOp .And (b :: rest) pos) tb) : PE X (.BoolOp .And (a :: b :: rest) pos) (yhG ta tb):=by
 intro pins s σ H Q I h
 refine BoolOp_and (thn (ha pins s σ H _ I h) fun v s1 ⟨x,H1,I1,r1,q1⟩=>?_)
 obtain ⟨c,rfl,q1⟩:=q1
 cases r1
 refine wpAny_truthy_bool ?_
 cases c with
 | true=>exact hb pins s1 σ H1 Q I1 q1
 | false=>exact ⟨.bl false,H1,I1,rfl,q1⟩
theorem yhI (ha : PE X a ta) (hb : PE X (.BoolOp .Or (b :: rest) pos) tb) : PE X (.BoolOp .Or (a :: b :: rest) pos) (tOrV ta tb):=by
 intro pins s σ H Q I h
 refine BoolOp_or (thn (ha pins s σ H _ I h) fun v s1 ⟨x,H1,I1,r1,q1⟩=>?_)
 obtain ⟨c,rfl,q1⟩:=q1
 cases r1
 refine wpAny_truthy_bool ?_
 cases c with
 | false=>exact hb pins s1 σ H1 Q I1 q1
 | true=>exact ⟨.bl true,H1,I1,rfl,q1⟩
theorem ygv (ha : PE X a ta) : PE X (.UnaryOp .Not a pos) (yhH ta):=by
 intro pins s σ H Q I h
 refine UnaryOp_ (thn (ha pins s σ H _ I h) fun v s1 ⟨x,H1,I1,r1,q1⟩=>?_)
 obtain ⟨c,rfl,q1⟩:=q1
 cases r1
 exact not_of (wpAny_truthy_bool ⟨.bl (!c),H1,I1,rfl,q1⟩)
def tIf (t : TT) (ta tb : TE) : TE:=fun σ H Q=>t σ H fun c H1=>if c = true then ta σ H1 Q else tb σ H1 Q
theorem zhh {c : Expr} (hc : PT X c tA) (ha : PE X a ta) (hb : PE X b tb) : PE X (.IfExp c a b pos) (tIf tA ta tb):=by
 intro pins s σ H Q I h
 refine wpAny_IfExp (thn (hc pins s σ H _ I h) fun d s1 ⟨H1,I1,q1⟩=>?_)
 cases d with
 | true=>exact ha pins s1 σ H1 Q I1 q1
 | false=>exact hb pins s1 σ H1 Q I1 q1
end
end L2
namespace L2
open PySem PySem.Spec PyProof.Rows
def SqL (K : PySem.W.Frag) (H : Hp) (a : Addr) (xs : List V) : Prop :=
 Rd H a (.lst xs) \/
  ∃ (o : Obj) (its : Array Value) (n : Nat),K.lookup a = some o /\ o.cls = .type "list" /\ o.dict = none /\ o.data = .seq its n /\ its.size <= sizeLine /\ Vals xs its.toList
def SqT (K : PySem.W.Frag) (H : Hp) (a : Addr) (xs : List V) : Prop :=
 Rd H a (.tup xs) \/
  ∃ (o : Obj) (its : Array Value) (n : Nat),K.lookup a = some o /\ o.cls = .type "tuple" /\ o.data = .seq its n /\ its.size <= sizeLine /\ Vals xs its.toList
def absV : Value -> Option V
 | .none=>some .non
 | .bool b=>some (.bl b)
 | .int i _=>some (.int i)
 | .str x _=>some (.str x)
 | .bytes b _=>some (.byt b)
 | .float b _=>some (.flt b)
 | .ref a=>some (.ref a)
 | .type n=>some (.ty n)
 | _=>none
theorem RelV.abs {x : V} {u : Value} (r : RelV x u) : absV u = some x:=by
 cases x with
 | non=>cases r; rfl
 | bl _=>cases r; rfl
 | int _=>obtain ⟨t,rfl⟩:=r; rfl
 | str _=>obtain ⟨t,rfl⟩:=r; rfl
 | byt _=>obtain ⟨t,rfl⟩:=r; rfl
 | flt _=>obtain ⟨t,rfl⟩:=r; rfl
 | ref _=>cases r; rfl
 | ty _=>cases r; rfl
theorem RelV.inj {x y : V} {u : Value} (r : RelV x u) (q : RelV y u) : x = y:=Option.some.inj (r.abs.symm.trans q.abs)
theorem Vals.inj : ∀ {xs ys : List V} {us : List Value},Vals xs us -> Vals ys us -> xs = ys
 | _,_,_,.nil,.nil=>rfl
 | _,_,_,.cons r t,.cons r' t' => by rw [r.inj r',Vals.inj t t']
section
variable {X : Cx} {pins : List (Addr × Obj)} {σ : St} {H : Hp} {s : Shared} {a : Addr} {xs ys : List V}
theorem SqL.of {K : PySem.W.Frag} (h : H a = some (.lst xs)) : SqL K H a xs:=.inl (.inl h)
theorem SqT.of {K : PySem.W.Frag} (h : H a = some (.tup xs)) : SqT K H a xs:=.inl (.inl h)
theorem Inv.list (I : Inv X pins σ H s) (h : SqL X.K H a xs) : ∃ its : List Value,Vals xs its /\ PlainL s.heap a its.toArray /\ xs.length <= sizeLine:=by
 rcases h with h | ⟨o,its,n,hk,hc,hd,hs,hz,r⟩
 ·obtain ⟨z,its,n,r,e⟩:=h.ok I.hok
  exact ⟨its,r,⟨_,n,e,rfl,rfl,rfl⟩,z⟩
 ·refine ⟨its.toList,r,⟨o,n,I.kIn a o hk,hc,hd,by simpa using hs⟩,?_⟩
  have e:=r.length
  simp only [Array.length_toList] at e
  omega
theorem Inv.tuple (I : Inv X pins σ H s) (h : SqT X.K H a xs) : ∃ its : List Value,Vals xs its /\ IsTup s.heap a its.toArray /\ xs.length <= sizeLine:=by
 rcases h with h | ⟨o,its,n,hk,hc,hs,hz,r⟩
 ·obtain ⟨z,its,r,p⟩:=h.ok I.hok
  exact ⟨its,r,p,z⟩
 ·refine ⟨its.toList,r,⟨o,I.kIn a o hk,hc,n,by simpa using hs⟩,?_⟩
  have e:=r.length
  simp only [Array.length_toList] at e
  omega
theorem Inv.list_inj (I : Inv X pins σ H s) (h : SqL X.K H a xs) (h' : SqL X.K H a ys) : xs = ys:=by
 obtain ⟨its,r,⟨o,n,e,_,_,d⟩,_⟩:=I.list h
 obtain ⟨its',r',⟨o',n',e',_,_,d'⟩,_⟩:=I.list h'
 rw [e] at e'; cases e'
 rw [d] at d'
 injection d' with d1 _
 have : its = its' := by simpa using congrArg Array.toList d1
 subst this
 exact r.inj r'
theorem Inv.tuple_inj (I : Inv X pins σ H s) (h : SqT X.K H a xs) (h' : SqT X.K H a ys) : xs = ys:=by
 obtain ⟨its,r,⟨o,e,_,n,d⟩,_⟩:=I.tuple h
 obtain ⟨its',r',⟨o',e',_,n',d'⟩,_⟩:=I.tuple h'
 rw [e] at e'; cases e'
 rw [d] at d'
 injection d' with d1 _
 have : its = its' := by simpa using congrArg Array.toList d1
 subst this
 exact r.inj r'
end
abbrev Cx.wish (X : Cx) (E : Value -> Shared -> Prop) : Cx:={ X with xe:=E }
abbrev Cx.nox (X : Cx) : Cx:=X.wish fun _ _=>False
theorem Cx.Ok.wish {X : Cx} (ok : X.Ok) (E : Value -> Shared -> Prop) : (X.wish E).Ok :=
 ⟨ok.mod,ok.kind,ok.glob,ok.blt,ok.above,ok.inj,ok.has,ok.cab,ok.hd,ok.frames,ok.stk,ok.exf,ok.bs,ok.bsz,ok.noex,ok.exfs,ok.funs,ok.frf⟩
theorem Cx.Ok.unwish {X : Cx} {E : Value -> Shared -> Prop} (ok : (X.wish E).Ok) : X.Ok :=
 ⟨ok.mod,ok.kind,ok.glob,ok.blt,ok.above,ok.inj,ok.has,ok.cab,ok.hd,ok.frames,ok.stk,ok.exf,ok.bs,ok.bsz,ok.noex,ok.exfs,ok.funs,ok.frf⟩
section
variable {X : Cx} {pins : List (Addr × Obj)} {σ : St} {H : Hp} {s : Shared} {E : Value -> Shared -> Prop}
theorem Inv.wish (I : Inv X pins σ H s) (E : Value -> Shared -> Prop) : Inv (X.wish E) pins σ H s:=⟨I.ok.wish E,I.os,I.bare,I.base,I.loc,I.cell,I.free,I.freeC,I.pin,I.hok,I.len⟩
theorem Inv.unwish (I : Inv (X.wish E) pins σ H s) : Inv X pins σ H s:=⟨I.ok.unwish,I.os,I.bare,I.base,I.loc,I.cell,I.free,I.freeC,I.pin,I.hok,I.len⟩
theorem SP.unwish {D : Ends} {f : Flow} {s' : Shared} (h : SP (X.wish E) pins D f s') : SP X pins D f s' := by
 cases f with
 | next=>obtain ⟨σ',H',I,q⟩:=h; exact ⟨σ',H',I.unwish,q⟩
 | brk=>obtain ⟨σ',H',I,q⟩:=h; exact ⟨σ',H',I.unwish,q⟩
 | cont=>obtain ⟨σ',H',I,q⟩:=h; exact ⟨σ',H',I.unwish,q⟩
 | ret u=>obtain ⟨v,σ',H',I,r,q⟩:=h; exact ⟨v,σ',H',I.unwish,r,q⟩
end
section
variable {X : Cx} {st : Stmt} {rest : List Stmt} {t u : TS} {e : Expr} {te : TE} {pos : Pos}
def yhJ : TS:=fun D σ H=>D.nx σ H
def tSeq (t u : TS) : TS:=fun D σ H=>t { D with nx:=u D } σ H
theorem zil : PSs X [] yhJ:=fun _ _ σ H _ I h=>wpAny_execs_nil ⟨σ,H,I,h⟩
theorem zhi (h1 : PS X st t) (h2 : PSs X rest u) : PSs X (st :: rest) (tSeq t u):=by
 intro pins s σ H D I h
 refine wpAny_execs_cons (thn (h1 pins s σ H { D with nx:=u D } I h) fun f s1 q=>?_)
 cases f with
 | next =>
  obtain ⟨σ',H',I',q⟩:=q
  exact h2 pins s1 σ' H' D I' q
 | ret v=>exact q
 | brk=>exact q
 | cont=>exact q
theorem zim (h1 : PS X st t) : PSs X [st] t:=by
 intro pins s σ H D I h
 refine wpAny_execs_cons (thn (h1 pins s σ H D I h) fun f s1 q=>?_)
 cases f with
 | next=>exact wpAny_execs_nil q
 | ret v=>exact q
 | brk=>exact q
 | cont=>exact q
def ygw : TS:=fun D σ H=>D.bk σ H
theorem zhj : PS X (.Break pos) ygw:=fun _ _ σ H _ I h=>wpAny_Break ⟨σ,H,I,h⟩
theorem Inv.quiet {pins : List (Addr × Obj)} {σ : St} {H : Hp} {s : Shared} (I : Inv X pins σ H s) : interactive X.env = false:=by simp [interactive,I.ok.kind]
def yhK (te : TE) : TS:=fun D σ H=>te σ H fun _ H1=>D.nx σ H1
theorem zin (he : PE X e te) (hs : swapsWith e none pos.line X.env = pure false:=by rfl) : PS X (.Expr e pos) (yhK te):=by
 intro pins s σ H D I h
 exact wpAny_Expr_any (thn (he pins s σ H _ I h) fun v s1 ⟨x,H1,I1,r1,q1⟩=>⟨σ,H1,I1,q1⟩) I.quiet hs
def tRet (te : TE) : TS:=fun D σ H=>te σ H D.rt
theorem ygx (he : PE X e te) : PS X (.Return (some e) pos) (tRet te):=by
 intro pins s σ H D I h
 exact wpAny_Return_some (thn (he pins s σ H _ I h) fun v s1 ⟨x,H1,I1,r1,q1⟩=>⟨x,σ,H1,I1,r1,q1⟩)
def tIfS (c : TT) (t u : TS) : TS:=fun D σ H=>c σ H fun b H1=>if b = true then t D σ H1 else u D σ H1
theorem yhL {c : Expr} {a b : List Stmt} {tc : TT} (hc : PT X c tc) (ha : PSs X a t) (hb : PSs X b u) : PS X (.If c a b pos) (tIfS tc t u):=by
 intro pins s σ H D I h
 refine wpAny_If (thn (hc pins s σ H _ I h) fun d s1 ⟨H1,I1,q1⟩=>?_)
 cases d with
 | true=>exact ha pins s1 σ H1 D I1 q1
 | false=>exact hb pins s1 σ H1 D I1 q1
end
abbrev TG:=V -> St -> Hp -> (St -> Hp -> Prop) -> Prop
def PG (X : Cx) (target : Expr) (t : TG) : Prop :=
 ∀ (pins : List (Addr × Obj)) (s : Shared) (σ : St) (H : Hp) (v : V) (u : Value) (Q : St -> Hp -> Prop),Inv X pins σ H s -> RelV v u -> t v σ H Q ->
  wpAny (model X.prog X.w) X.A (assign target X.env u) (fun _ s' => ∃ σ' H',Inv X pins σ' H' s' /\ Q σ' H') X.xe s
abbrev TSet:=V -> V -> V -> Hp -> (Hp -> Prop) -> Prop
def PSet (X : Cx) (t : TSet) : Prop :=
 ∀ (pins : List (Addr × Obj)) (s : Shared) (σ : St) (H : Hp) (o i v : V) (ov iv u : Value) (Q : Hp -> Prop),Inv X pins σ H s -> RelV o ov -> RelV i iv -> RelV v u -> t o i v H Q ->
  wpAny (model X.prog X.w) X.A (setItem ov iv u) (fun _ s' => ∃ H',Inv X pins σ H' s' /\ Q H') X.xe s
section
variable {X : Cx} {pos : Pos}
def yeE (i : Nat) : TG:=fun v σ H Q=>Q (σ.set i (some v)) H
theorem zio {i : Nat} {x : Str} (hN : X.N.Nodup) (hi : X.N[i]? = some x) (hx : Loc X.env.scope x) (hf : X.fn x = true \/ X.env.scope.names.lookup x = some .local:=by first | exact .inl rfl | exact .inr rfl | assumption) : PG X (.Name x pos) (yeE i):=by
 intro pins s σ H v u Q I r h
 exact wpAny_assign_Name (zbI I hN hi hx r (fun s' I' => ⟨_,H,I',h⟩) hf)
def gSub (to ti : TE) (t : TSet) : TG:=fun v σ H Q=>to σ H fun o H1=>ti σ H1 fun i H2=>t o i v H2 fun H3=>Q σ H3
theorem ygy {o i : Expr} {to ti : TE} {t : TSet} (ho : PE X o to) (hi : PE X i ti) (hs : PSet X t)
  (ha : ∀ v,assign (.Subscript o i pos) X.env v = (do
   let ov <- holding [v] (eval o X.env)
   let iv <- holding [v,ov] (eval i X.env)
   standAt pos
   holding [v,ov,iv] (setItem ov iv v)
   release [v,ov,iv] []):=by intro _; rfl) : PG X (.Subscript o i pos) (gSub to ti t):=by
 intro pins s σ H v u Q I r h
 rw [ha]
 refine wpAny_bind (wpAny_holding (thn (ho pins s σ H _ I h) fun ov s1 ⟨x,H1,I1,r1,q1⟩=>?_))
 refine wpAny_bind (wpAny_holding (thn (hi pins s1 σ H1 _ I1 q1) fun iv s2 ⟨y,H2,I2,r2,q2⟩=>?_))
 refine wpAny_bind (wpAny_standAt (wpAny_bind (wpAny_holding (thn (hs pins s2 σ H2 x y v ov iv u _ I2 r1 r2 r q2) fun _ s3 ⟨H3,I3,q3⟩=>?_))))
 exact wpAny_release ⟨σ,H3,I3,q3⟩
def tAsg (te : TE) (g : TG) : TS:=fun D σ H=>te σ H fun x H1=>g x σ H1 D.nx
theorem ygz {tg e : Expr} {te : TE} {g : TG} (he : PE X e te) (hg : PG X tg g) (hs : swapsWithSole [tg] e pos.line X.env = pure false:=by rfl) (hw : swappedStores [tg] e X.env = pure none:=by rfl)
  (h1 : (assignEach [tg] X.env).map (·.2) = [assign tg X.env]:=by rfl) : PS X (.Assign [tg] e pos) (tAsg te g):=by
 intro pins s σ H D I h
 refine wpAny_Assign_stores (thn (he pins s σ H _ I h) fun v s1 ⟨x,H1,I1,r1,q1⟩=>?_) hs hw
 rw [h1]
 exact thn (hg pins s1 σ H1 x v _ I1 r1 q1) fun _ s2 q=>q
theorem ygA {i : Nat} {x : Str} {e : Expr} {te : TE} {pos' : Pos} (hN : X.N.Nodup) (hi : X.N[i]? = some x) (hx : Loc X.env.scope x) (he : PE X e te) (hs : swapsWith e (some (.Name x pos')) pos.line X.env = pure false:=by rfl) (hf : X.fn x = true \/ X.env.scope.names.lookup x = some .local:=by first | exact .inl rfl | exact .inr rfl | assumption) :
  PS X (.Assign [.Name x pos'] e pos) (tAsg te (yeE i)):=by
 intro pins s σ H D I h
 refine wpAny_Assign_Name (thn (he pins s σ H _ I h) fun v s1 ⟨y,H1,I1,r1,q1⟩=>?_) hs
 exact zbI I1 hN hi hx r1 (fun s2 I2=>⟨_,H1,I2,q1⟩) hf
end
section
variable {X : Cx} {pos : Pos}
def ygB (c : TT) (tb : TS) : TS:=fun D σ H=>∃ W : Nat -> St -> Hp -> Prop,(∃ m,W m σ H) /\ ∀ m σ H,W m σ H ->
 c σ H fun b H1=>if b = true then ∃ N : St -> Hp -> Prop,(∀ σ' H',N σ' H' -> ∃ m',m' < m /\ W m' σ' H') /\ tb { D with nx:=N,ct:=N,bk:=D.nx } σ H1 else D.nx σ H1
theorem zhk {c : Expr} {body : List Stmt} {tc : TT} {tb : TS} (hp : PassesOwn (model X.prog X.w) X.A X.env X.xe) (hc : PT X c tc) (hb : PSs X body tb) : PS X (.While c body [] pos) (ygB tc tb):=by
 intro pins s σ H D I h
 obtain ⟨W,⟨m0,w0⟩,turn⟩:=h
 refine wpAny_While (codeAny_whileLoop (fun n s' => ∃ σ' H',Inv X pins σ' H' s' /\ W n σ' H') ?_ m0 ⟨σ,H,I,w0⟩)
 rintro n s1 ⟨σ1,H1,I1,w1⟩
 refine wpAny_passesOwn hp (thn (hc pins s1 σ1 H1 _ I1 (turn n σ1 H1 w1)) fun b s2 ⟨H2,I2,q2⟩=>?_)
 cases b with
 | true =>
  obtain ⟨N,hN,q2⟩:=q2
  rw [if_pos rfl]
  refine wpAny_passesOwn hp (thn (hb pins s2 σ1 H2 _ I2 q2) fun f s3 q3=>?_)
  cases f with
  | next =>
   obtain ⟨σ3,H3,I3,n3⟩:=q3
   obtain ⟨m',hm,w3⟩:=hN σ3 H3 n3
   exact ⟨m',hm,σ3,H3,I3,w3⟩
  | cont =>
   obtain ⟨σ3,H3,I3,n3⟩:=q3
   obtain ⟨m',hm,w3⟩:=hN σ3 H3 n3
   exact ⟨m',hm,σ3,H3,I3,w3⟩
  | brk=>exact q3
  | ret v=>exact q3
 | false =>
  rw [if_neg Bool.false_ne_true]
  exact wpAny_execs_nil ⟨σ1,H2,I2,q2⟩
end
structure It where
 go : Nat -> Hp -> Prop
 yld : Nat -> Hp -> V -> Hp -> Prop
 stop : Nat -> Hp -> Prop
def FpOk (X : Cx) (pins : List (Addr × Obj)) (H : Hp) (b : Addr) : Prop :=
 H b = none /\ b ≠ X.env.locals /\ b ∉ X.fs /\ (b ∈ X.ex \/ X.s₀.heap.objs.size <= b) /\ (∀ x c,X.env.cells.lookup x = some c -> c ≠ b) /\ ∀ p ∈ X.pn++pins,p.1 ≠ b
theorem Inv.fpOk {X : Cx} {pins : List (Addr × Obj)} {σ : St} {H H' : Hp} {s : Shared} {b : Addr} (I : Inv X pins σ H s) (hb : s.heap.objs.size <= b) (hn : H' b = none) : FpOk X pins H' b:=by
 refine ⟨hn,Nat.ne_of_gt (Nat.lt_of_lt_of_le I.lt hb),I.nofs hb,.inr (Nat.le_trans I.sz hb),fun x c e z=>?_,fun p hp z=>?_⟩
 ·obtain ⟨v,q⟩:=I.cell x c e
  exact absurd (Nat.lt_of_lt_of_le q.lt (by rw [z]; exact hb)) (Nat.lt_irrefl _)
 ·exact absurd (Nat.lt_of_lt_of_le (Heap.lt_size (I.pin p hp).1) (by rw [z]; exact hb)) (Nat.lt_irrefl _)
structure Turn (P : Program) (w : World) (K : PySem.W.Frag) (tg : Expr) (J : It) (fp : List Addr) (it : Addr) (tn : Nat -> Heap -> Prop) : Prop where
 mem : it ∈ fp
 obj : ∀ i h,tn i h -> ∀ b ∈ fp,∃ o,h.get? b = some o /\ ∀ v,o.data ≠ .cell v
 keep : ∀ i h h',tn i h -> (∀ b ∈ fp,∀ o,h.get? b = some o -> h'.get? b = some o) -> tn i h'
 item : ∀ (X : Cx),X.prog = P -> X.w = w -> X.K = K -> X.calm = true -> ∀ (i : Nat) (pins : List (Addr × Obj)) (s : Shared) (σ : St) (H : Hp) (E : Value -> Shared -> Prop),Inv X pins σ H s -> (∀ b ∈ fp,FpOk X pins H b) -> tn i s.heap -> J.go i H ->
  wpAny (model P w) X.A (pyNext (.ref it)) (fun r s1=>∃ u,r = some u /\
   wpAny (model P w) X.A (letOwnedTupleGo tg (.ref it) u) (fun _ s2=>∃ x H',Inv X pins σ H' s2 /\ RelV x u /\ J.yld i H x H' /\ tn (i + 1) s2.heap /\ ∀ b ∈ fp,H' b = none) E s1) E s
 done : ∀ (X : Cx),X.prog = P -> X.w = w -> X.K = K -> X.calm = true -> ∀ (i : Nat) (pins : List (Addr × Obj)) (s : Shared) (σ : St) (H : Hp) (E : Value -> Shared -> Prop),Inv X pins σ H s -> (∀ b ∈ fp,FpOk X pins H b) -> tn i s.heap -> J.stop i H ->
  wpAny (model P w) X.A (pyNext (.ref it)) (fun r s1=>r = none /\ Inv X pins σ H s1) E s
 self : ∀ (A : Around) (i : Nat) (s : Shared) (Q : Value -> Shared -> Prop) (E : Value -> Shared -> Prop),tn i s.heap -> Q (.ref it) s -> wpAny (model P w) A (pyIter (.ref it)) Q E s
abbrev TI:=St -> Hp -> (It -> Hp -> Prop) -> Prop
def PIE (X : Cx) (pins : List (Addr × Obj)) (σ : St) (tg : Expr) (R : It -> Hp -> Prop) (itv : Value) (s2 : Shared) : Prop :=
 ∃ (it : Addr) (fp : List Addr) (tn : Nat -> Heap -> Prop) (J : It) (H' : Hp),itv = .ref it /\ Inv X pins σ H' s2 /\ Turn X.prog X.w X.K tg J fp it tn /\ tn 0 s2.heap /\ (∀ b ∈ fp,FpOk X pins H' b) /\ R J H'
def PI (X : Cx) (tg iter : Expr) (wi : TI) : Prop :=
 ∀ (pins : List (Addr × Obj)) (s : Shared) (σ : St) (H : Hp) (R : It -> Hp -> Prop),Inv X pins σ H s -> wi σ H R ->
  wpAny (model X.prog X.w) X.A (eval iter X.env) (fun v s1=>wpAny (model X.prog X.w) X.A (pyIter v) (PIE X pins σ tg R) X.xe s1) X.xe s
theorem yeF {M : Model} {A : Around} {E : Value -> Shared -> Prop} {s : Shared} {tg : Expr} {it : Addr} {u : Value} {o : Obj} {n : String} {vs : Array Value} {Q : Unit -> Shared -> Prop} (ho : s.heap.get? it = some o) (hc : o.cls = .type n) (hd : o.data = .fields vs)
  (hn : ["enumerate", "zip", "dict_itemiterator", "dict_reverseitemiterator", "odict_iterator", "itertools.zip_longest", "itertools.pairwise"].contains n = false) (hQ : Q () s) : wpAny M A (letOwnedTupleGo tg (.ref it) u) Q E s:=by
 unfold letOwnedTupleGo
 cases tg<;>first
  | exact wpAny_pure hQ
  | (cases u<;>first
    | exact wpAny_pure hQ
    | (refine wpAny_bind (wpAny_load ho ?_)
       rw [hc,hd]
       show wpAny M A (if (["enumerate", "zip", "dict_itemiterator", "dict_reverseitemiterator", "odict_iterator", "itertools.zip_longest", "itertools.pairwise"].contains n && vs[0]? == some (rawInt _)) = true then _ else _) Q E s
       rw [if_neg (by intro h; rw [hn,Bool.false_and] at h; cases h)]
       exact wpAny_pure hQ))
def Itl (K : PySem.W.Frag) (a : Addr) : It :=
 ⟨fun i H=>∃ xs x,SqL K H a xs /\ xs[i]? = some x,fun i H x H' => H' = H /\ ∀ xs,SqL K H a xs -> xs[i]? = some x,fun i H=>∃ xs,SqL K H a xs /\ xs.length <= i⟩
def Itt (K : PySem.W.Frag) (a : Addr) : It :=
 ⟨fun i H=>∃ xs x,SqT K H a xs /\ xs[i]? = some x,fun i H x H' => H' = H /\ ∀ xs,SqT K H a xs -> xs[i]? = some x,fun i H=>∃ xs,SqT K H a xs /\ xs.length <= i⟩
def Itr (lo : Int) (n : Nat) : It:=⟨fun i _=>i < n,fun i H x H' => H' = H /\ x = .int (lo + i),fun i _=>n <= i⟩
theorem zgz {P : Program} {w : World} {K : PySem.W.Frag} {tg : Expr} (a it : Addr) : Turn P w K tg (Itl K a) [it] it (fun i h=>h.IsListIter it a i) where
 mem:=by simp
 obj:=fun i h st b hb=>by
  have e : b = it:=by simpa using hb
  subst e
  obtain ⟨o,e,c,d⟩:=st
  exact ⟨o,e,fun v z=>by rw [d] at z; cases z⟩
 keep:=fun i h h' st k=>st.at fun o e=>k it (by simp) o e
 item:=by
  intro X hP hw hK hc i pins s σ H E I hf st hg
  subst hP hw hK
  obtain ⟨xs,x,hq,hx⟩:=hg
  obtain ⟨its,rv,p,hz⟩:=I.list hq
  obtain ⟨u,hu,ru⟩:=rv.get hx
  obtain ⟨f0,f1,f2,f3,f4,f5⟩:=hf it (by simp)
  refine wpAny_pyNext_list_item st p.isList (x:=u) (by simpa using hu) fun h' st' sb=>?_
  have I1 : Inv X pins σ H { s with heap:=h' }:=I.turned (t' := s.toks) (fun b o hb e=>(sb.2 b hb).trans e) f0 f1 f3 f4 f5
  obtain ⟨o,e,c,d⟩:=id st'
  exact ⟨u,rfl,yeF (s:={ s with heap:=h' }) e c d (by decide) ⟨x,H,I1,ru,⟨rfl,fun ys hy=>by rw [I.list_inj hy hq]; exact hx⟩,st',fun b hb=>(hf b hb).1⟩⟩
 done:=by
  intro X hP hw hK hc i pins s σ H E I hf st hg
  subst hP hw hK
  obtain ⟨xs,hq,hx⟩:=hg
  obtain ⟨its,rv,p,hz⟩:=I.list hq
  obtain ⟨f0,f1,f2,f3,f4,f5⟩:=hf it (by simp)
  have hl:=rv.length
  exact wpAny_pyNext_list_end (I.ok.hd hc) st p.isList (by simp; omega) fun h' eb=>⟨rfl,I.turned (t' := s.toks) (fun b o hb e=>eb b o hb e) f0 f1 f3 f4 f5⟩
 self:=fun _ _ _ _ _ st h=>wpAny_pyIter_listiter st h
theorem zf5 {P : Program} {w : World} {K : PySem.W.Frag} {tg : Expr} (a it : Addr) : Turn P w K tg (Itt K a) [it] it (fun i h=>h.IsTupleIter it a i) where
 mem:=by simp
 obj:=fun i h st b hb=>by
  have e : b = it:=by simpa using hb
  subst e
  obtain ⟨o,e,c,d⟩:=st
  exact ⟨o,e,fun v z=>by rw [d] at z; cases z⟩
 keep:=fun i h h' st k=>st.at fun o e=>k it (by simp) o e
 item:=by
  intro X hP hw hK hc i pins s σ H E I hf st hg
  subst hP hw hK
  obtain ⟨xs,x,hq,hx⟩:=hg
  obtain ⟨its,rv,p,hz⟩:=I.tuple hq
  obtain ⟨u,hu,ru⟩:=rv.get hx
  obtain ⟨f0,f1,f2,f3,f4,f5⟩:=hf it (by simp)
  refine wpAny_pyNext_tuple_item st (show s.heap.IsTuple a its.toArray from p) (x:=u) (by simpa using hu) fun h' st' sb=>?_
  have I1 : Inv X pins σ H { s with heap:=h' }:=I.turned (t' := s.toks) (fun b o hb e=>(sb.2 b hb).trans e) f0 f1 f3 f4 f5
  obtain ⟨o,e,c,d⟩:=id st'
  exact ⟨u,rfl,yeF (s:={ s with heap:=h' }) e c d (by decide) ⟨x,H,I1,ru,⟨rfl,fun ys hy=>by rw [I.tuple_inj hy hq]; exact hx⟩,st',fun b hb=>(hf b hb).1⟩⟩
 done:=by
  intro X hP hw hK hc i pins s σ H E I hf st hg
  subst hP hw hK
  obtain ⟨xs,hq,hx⟩:=hg
  obtain ⟨its,rv,p,hz⟩:=I.tuple hq
  obtain ⟨f0,f1,f2,f3,f4,f5⟩:=hf it (by simp)
  have hl:=rv.length
  exact wpAny_pyNext_tuple_end (I.ok.hd hc) st (show s.heap.IsTuple a its.toArray from p) (by simp; omega) fun h' eb=>⟨rfl,I.turned (t' := s.toks) (fun b o hb e=>eb b o hb e) f0 f1 f3 f4 f5⟩
 self:=fun _ _ _ _ _ st h=>wpAny_pyIter_tupleiter st h
theorem zf6 {P : Program} {w : World} {K : PySem.W.Frag} {tg : Expr} (it : Addr) (lo : Int) (n : Nat) : Turn P w K tg (Itr lo n) [it] it (fun i h=>IsRangeIter h it (lo + (i : Nat) * 1) ((n : Int) - (i : Nat)) 1) where
 mem:=by simp
 obj:=fun i h st b hb=>by
  have e : b = it:=by simpa using hb
  subst e
  exact ⟨_,st,fun v z=>by
   have z' : Data.fields _ = Data.cell v:=z
   cases z'⟩
 keep:=fun i h h' st k=>k it (by simp) _ st
 item:=by
  intro X hP hw hK hc i pins s σ H E I hf st hg
  subst hP hw hK
  obtain ⟨f0,f1,f2,f3,f4,f5⟩:=hf it (by simp)
  have W:=Walks.range (prog:=X.prog) (w:=X.w) (I.ok.hd hc) it lo 1 n
  refine W.item i s _ _ hg st fun v h' tk hv st' kk=>?_
  obtain ⟨t,rfl⟩:=hv
  have I1 : Inv X pins σ H { s with heap:=h',toks:=tk }:=I.turned (fun b o hb e=>kk b o (by simpa using hb) e) f0 f1 f3 f4 f5
  refine ⟨_,rfl,yeF (s:={ s with heap:=h',toks:=tk }) (n := "range_iterator") st' rfl rfl (by decide) ⟨.int (lo + i),H,I1,⟨t,?_⟩,⟨rfl,rfl⟩,st',fun b hb=>(hf b hb).1⟩⟩
  rw [Int.mul_one]
 done:=by
  intro X hP hw hK hc i pins s σ H E I hf st hg
  subst hP hw hK
  obtain ⟨f0,f1,f2,f3,f4,f5⟩:=hf it (by simp)
  exact wpAny_pyNext_range_end (I.ok.hd hc) st (by have : n <= i:=hg; omega) fun h' eb=>⟨rfl,I.turned (t' := s.toks) (fun b o hb e=>eb b o hb e) f0 f1 f3 f4 f5⟩
 self:=fun _ _ _ _ _ st h=>wpAny_pyIter_rangeiter st h
end L2
namespace L2
open PySem PySem.Spec PyProof.Rows
section
variable {X : Cx} {tg : Expr}
def yfY (K : PySem.W.Frag) (tl : TE) : TI:=fun σ H R=>tl σ H fun x H1=>∃ a,x = .ref a /\ (∃ xs,SqL K H1 a xs) /\ R (Itl K a) H1
def iTup (K : PySem.W.Frag) (tl : TE) : TI:=fun σ H R=>tl σ H fun x H1=>∃ a,x = .ref a /\ (∃ xs,SqT K H1 a xs) /\ R (Itt K a) H1
theorem ziq {l : Expr} {tl : TE} (hl : PE X l tl) : PI X tg l (yfY X.K tl):=by
 intro pins s σ H R I h
 refine thn (hl pins s σ H _ I h) fun v s1 ⟨x,H1,I1,r1,q1⟩=>?_
 obtain ⟨a,e,⟨xs,hq⟩,q⟩:=q1
 subst e
 cases r1
 obtain ⟨its,rv,p,hz⟩:=I1.list hq
 refine wpAny_pyIter_list p.isList ?_
 refine ⟨s1.heap.objs.size,[s1.heap.objs.size],_,_,H1,rfl,I1.kept (t' := s1.toks) fun b o e=>Heap.get?_push_of_some _ e,zgz a _,⟨_,Heap.get?_push_size _ rfl,rfl,rfl⟩,fun b hb=>?_,q⟩
 have e : b = s1.heap.objs.size:=by simpa using hb
 subst e
 exact I1.fpOk (Nat.le_refl _) (I1.hok.fresh (Nat.le_refl _))
theorem ygC {l : Expr} {tl : TE} (hl : PE X l tl) : PI X tg l (iTup X.K tl):=by
 intro pins s σ H R I h
 refine thn (hl pins s σ H _ I h) fun v s1 ⟨x,H1,I1,r1,q1⟩=>?_
 obtain ⟨a,e,⟨xs,hq⟩,q⟩:=q1
 subst e
 cases r1
 obtain ⟨its,rv,p,hz⟩:=I1.tuple hq
 refine wpAny_pyIter_tuple (show s1.heap.IsTuple a its.toArray from p) ?_
 refine ⟨s1.heap.objs.size,[s1.heap.objs.size],_,_,H1,rfl,I1.kept (t' := s1.toks) fun b o e=>Heap.get?_push_of_some _ e,zf5 a _,⟨_,Heap.get?_push_size _ rfl,rfl,rfl⟩,fun b hb=>?_,q⟩
 have e : b = s1.heap.objs.size:=by simpa using hb
 subst e
 exact I1.fpOk (Nat.le_refl _) (I1.hok.fresh (Nat.le_refl _))
theorem zhl {pins : List (Addr × Obj)} {σ : St} {H : Hp} {s : Shared} {R : It -> Hp -> Prop} {E : Value -> Shared -> Prop} {lo hi : Int} {t u v : Tok} {tk : Nat} (I : Inv X pins σ H s) (h1 : -(2 ^ 62) <= lo) (h2 : lo < 2 ^ 62) (h3 : -(2 ^ 62) <= hi) (h4 : hi < 2 ^ 62)
  (q : R (Itr lo (hi - lo).toNat) H) : wpAny (model X.prog X.w) X.A (pyIter (.ref s.heap.objs.size)) (PIE X pins σ tg R) E { s with heap:=s.heap.push { cls:=.type "range",data:=.fields #[.int lo t,.int hi u,.int 1 v] },toks:=tk }:=by
 refine wpAny_pyIter_range (IsRange.new ..) (small_one h1 h2 h3 h4) ?_
 have I1 : Inv X pins σ H { s with heap:=s.heap.push { cls:=.type "range",data:=.fields #[.int lo t,.int hi u,.int 1 v] },toks:=tk }:=I.kept fun b o e=>Heap.get?_push_of_some _ e
 refine ⟨(s.heap.push { cls:=.type "range",data:=.fields #[.int lo t,.int hi u,.int 1 v] }).objs.size,[(s.heap.push { cls:=.type "range",data:=.fields #[.int lo t,.int hi u,.int 1 v] }).objs.size],_,_,H,rfl,
  I1.kept (t' := tk) fun b o e=>Heap.get?_push_of_some _ e,zf6 _ lo (hi - lo).toNat,?_,fun b hb=>?_,q⟩
 ·have e1 : lo + ((0 : Nat) : Int) * 1 = lo:=by simp
  have e2 : (((hi - lo).toNat : Nat) : Int) - ((0 : Nat) : Int) = Builtin.Range.rangeSize lo hi 1:=by rw [rangeSize_one]; split<;>omega
  show IsRangeIter _ _ (lo + ((0 : Nat) : Int) * 1) ((((hi - lo).toNat : Nat) : Int) - ((0 : Nat) : Int)) 1
  rw [e1,e2]
  exact Heap.get?_push_size _ rfl
 ·have e : b = (s.heap.push { cls:=.type "range",data:=.fields #[.int lo t,.int hi u,.int 1 v] }).objs.size:=by simpa using hb
  subst e
  exact I1.fpOk (Nat.le_refl _) (I1.hok.fresh (Nat.le_refl _))
def yhM (ta : TA) : TI:=fun σ H R=>ta σ H fun vs H1=>∃ j : Int,vs = [.int j] /\ -(2 ^ 62) <= j /\ j < 2 ^ 62 /\ R (Itr 0 j.toNat) H1
theorem zgA {a : Expr} {ta : TA} {p pos : Pos} (hg : Gl X "range") (hm : X.mg "range" = none) (ha : PA X [a] ta) (hs : starEach [a] X.env = [(false,eval a X.env)]:=by rfl) : PI X tg (.Call (.Name "range" p) [a] [] pos) (yhM ta):=by
 intro pins s σ H R I h
 refine Call_ (yeh I hg hm boot_range (PyProof.Rows.callWith_type1 (thn (ha pos pins s σ H _ I h) fun us s1 ⟨vs,H1,I1,r1,q1⟩=>?_) hs rfl))
 obtain ⟨j,e,q1,q2,q⟩:=q1
 subst e
 cases r1 with
 | cons r rr =>
  cases rr
  obtain ⟨t,rfl⟩:=r
  exact call_range_1 (zhl I1 (by omega) (by omega) q1 q2 (by simpa using q))
def tFor (wi : TI) (g : TG) (tb : TS) : TS:=fun D σ H=>wi σ H fun J H1=>∃ W : Nat -> Nat -> St -> Hp -> Prop,(∃ m,W 0 m σ H1) /\ ∀ i m σ H,W i m σ H ->
 (J.stop i H /\ D.nx σ H) \/ (J.go i H /\ ∃ N : St -> Hp -> Prop,(∀ σ' H',N σ' H' -> ∃ m',m' < m /\ W (i + 1) m' σ' H') /\ ∀ x H',J.yld i H x H' -> g x σ H' fun σ2 H2=>tb { D with nx:=N,ct:=N,bk:=D.nx } σ2 H2)
def ycw (fp : List Addr) (h : Heap) : List (Addr × Obj):=fp.filterMap fun b=>(h.get? b).map fun o=>(b,o)
theorem za7 {fp : List Addr} {h : Heap} {b : Addr} {o : Obj} (hb : b ∈ fp) (e : h.get? b = some o) : (b,o) ∈ ycw fp h:=List.mem_filterMap.mpr ⟨b,hb,by rw [e]; rfl⟩
theorem zgB {fp : List Addr} {h : Heap} {p : Addr × Obj} (hp : p ∈ ycw fp h) : p.1 ∈ fp /\ h.get? p.1 = some p.2:=by
 obtain ⟨b,hb,e⟩:=List.mem_filterMap.mp hp
 cases q : h.get? b with
 | none=>rw [q] at e; cases e
 | some o =>
  rw [q] at e
  have e' : (b,o) = p:=Option.some.inj e
  subst e'
  exact ⟨hb,q⟩
theorem Inv.pinned {pins : List (Addr × Obj)} {σ : St} {H : Hp} {s : Shared} {fp : List Addr} (I : Inv X pins σ H s) (hf : ∀ b ∈ fp,FpOk X pins H b) (ho : ∀ b ∈ fp,∃ o,s.heap.get? b = some o /\ ∀ v,o.data ≠ .cell v) : Inv X (pins++ycw fp s.heap) σ H s :=
 I.pins_of fun p hp=>(List.mem_append.mp hp).elim (fun z=>I.pin p (List.mem_append_right _ z)) fun z=>by
  obtain ⟨hb,e⟩:=zgB z
  obtain ⟨f0,f1,f2,_⟩:=hf p.1 hb
  obtain ⟨o,e',d⟩:=ho p.1 hb
  rw [e] at e'; cases e'
  exact ⟨e,f0,f1,f2,d⟩
theorem Inv.unpinned {pins pl : List (Addr × Obj)} {σ : St} {H : Hp} {s : Shared} (I : Inv X (pins++pl) σ H s) : Inv X pins σ H s:=I.pins_of fun p hp=>I.pin p (List.mem_append_right _ (List.mem_append_left _ hp))
theorem ygD {iter : Expr} {body : List Stmt} {wi : TI} {g : TG} {tb : TS} {pos : Pos} (hp : PassesOwn (model X.prog X.w) X.A X.env X.xe) (hc : X.calm = true) (hi : PI X tg iter wi) (hg : PG X tg g) (hb : PSs X body tb)
  (hs : ∀ x,foldedSetIterable iter X.env x = pure x:=by intro _; rfl) : PS X (.For tg iter body [] pos) (tFor wi g tb):=by
 intro pins s σ H D I h
 refine wpAny_For (thn (hi pins s σ H _ I h) fun v s1 h1=>thn h1 fun itv s2 h2=>?_) hs
 obtain ⟨it,fp,tn,J,H2,e,I2,T,st2,f2,W,⟨m0,w0⟩,turn⟩:=h2
 subst e
 have stat : ∀ {H' : Hp},(∀ b ∈ fp,H' b = none) -> ∀ b ∈ fp,FpOk X pins H' b:=fun hn b hb=>⟨hn b hb,(f2 b hb).2⟩
 refine codeAny_forLoop_any (fun n s' => ∃ i σ' H',Inv X pins σ' H' s' /\ tn i s'.heap /\ (∀ b ∈ fp,H' b = none) /\ W i n σ' H') ?_ m0 ⟨0,σ,H2,I2,st2,fun b hb=>(f2 b hb).1,w0⟩
 rintro n s3 ⟨i,σ3,H3,I3,st3,fr3,w3⟩
 rcases turn i n σ3 H3 w3 with ⟨stop,qn⟩ | ⟨go,N,hN,step⟩
 ·refine wpAny_passesOwn hp (thn (T.done X rfl rfl rfl hc i pins s3 σ3 H3 X.xe I3 (stat fr3) st3 stop) fun r s4 ⟨hr,I4⟩=>?_)
  subst hr
  exact wpAny_execs_nil ⟨σ3,H3,I4,qn⟩
 ·refine wpAny_passesOwn hp (thn (T.item X rfl rfl rfl hc i pins s3 σ3 H3 X.xe I3 (stat fr3) st3 go) fun r s4 ⟨u,hr,h4⟩=>?_)
  subst hr
  refine wpAny_passesOwn hp (thn h4 fun _ s5 ⟨x,H5,I5,r5,y5,st5,fr5⟩=>?_)
  have I5' := I5.pinned (stat fr5) (T.obj _ _ st5)
  refine wpAny_passesOwn hp (thn (hg _ s5 σ3 H5 x u _ I5' r5 (step x H5 y5)) fun _ s6 ⟨σ6,H6,I6,q6⟩=>?_)
  refine wpAny_passesOwn hp (thn (hb _ s6 σ6 H6 _ I6 q6) fun f s7 q7=>?_)
  have again : ∀ {σ7 : St} {H7 : Hp},Inv X (pins++ycw fp s5.heap) σ7 H7 s7 -> N σ7 H7 -> ∃ m,m < n /\ ∃ i σ' H',Inv X pins σ' H' s7 /\ tn i s7.heap /\ (∀ b ∈ fp,H' b = none) /\ W i m σ' H' := fun {σ7 H7} I7 n7=>by
   obtain ⟨m',hm,w7⟩:=hN σ7 H7 n7
   refine ⟨m',hm,i + 1,σ7,H7,I7.unpinned,T.keep _ _ _ st5 fun b hb o e=>(I7.pin (b,o) (List.mem_append_right _ (List.mem_append_right _ (za7 hb e)))).1,fun b hb=>?_,w7⟩
   obtain ⟨o,e,d⟩:=T.obj _ _ st5 b hb
   exact (I7.pin (b,o) (List.mem_append_right _ (List.mem_append_right _ (za7 hb e)))).2.1
  cases f with
  | next=>obtain ⟨σ7,H7,I7,n7⟩:=q7; exact again I7 n7
  | cont=>obtain ⟨σ7,H7,I7,n7⟩:=q7; exact again I7 n7
  | brk=>obtain ⟨σ7,H7,I7,q7⟩:=q7; exact ⟨σ7,H7,I7.unpinned,q7⟩
  | ret v=>obtain ⟨x7,σ7,H7,I7,r7,q7⟩:=q7; exact ⟨x7,σ7,H7,I7.unpinned,r7,q7⟩
end
end L2
namespace L2
open PySem PySem.Spec PyProof.Rows
abbrev R2:=V -> V -> Hp -> VK -> Prop
def OpR (X : Cx) (f : Value -> Value -> Sem Value) (r : R2) : Prop :=
 ∀ (pins : List (Addr × Obj)) (s : Shared) (σ : St) (H : Hp) (x y : V) (v u : Value) (Q : VK),Inv X pins σ H s -> RelV x v -> RelV y u -> r x y H Q ->
  wpAny (model X.prog X.w) X.A (f v u) (EP X pins σ Q) X.xe s
def UnR (X : Cx) (f : Value -> Sem Value) (r : V -> Hp -> VK -> Prop) : Prop :=
 ∀ (pins : List (Addr × Obj)) (s : Shared) (σ : St) (H : Hp) (x : V) (v : Value) (Q : VK),Inv X pins σ H s -> RelV x v -> r x H Q ->
  wpAny (model X.prog X.w) X.A (f v) (EP X pins σ Q) X.xe s
def CallR (X : Cx) (f : Value) (r : List V -> Hp -> VK -> Prop) : Prop :=
 ∀ (pins : List (Addr × Obj)) (s : Shared) (σ : St) (H : Hp) (xs : List V) (us : List Value) (Q : VK),Inv X pins σ H s -> Vals xs us -> r xs H Q ->
  wpAny (model X.prog X.w) X.A (call f us) (EP X pins σ Q) X.xe s
def TruR (X : Cx) (r : V -> Hp -> (Bool -> Hp -> Prop) -> Prop) : Prop :=
 ∀ (pins : List (Addr × Obj)) (s : Shared) (σ : St) (H : Hp) (x : V) (v : Value) (Q : Bool -> Hp -> Prop),Inv X pins σ H s -> RelV x v -> r x H Q ->
  wpAny (model X.prog X.w) X.A (truthy v) (TP X pins σ Q) X.xe s
def tOp (r : R2) (ta tb : TE) : TE:=fun σ H Q=>ta σ H fun x H1=>tb σ H1 fun y H2=>r x y H2 Q
def tUn (r : V -> Hp -> VK -> Prop) (ta : TE) : TE:=fun σ H Q=>ta σ H fun x H1=>r x H1 Q
def rI (C : Int -> Int -> Prop) (g : Int -> Int -> V) : R2:=fun x y H Q=>∃ i j,x = .int i /\ y = .int j /\ C i j /\ Q (g i j) H
def rI0 (g : Int -> Int -> V) : R2:=fun x y H Q=>∃ i j,x = .int i /\ y = .int j /\ Q (g i j) H
def rU (g : Int -> V) : V -> Hp -> VK -> Prop:=fun x H Q=>∃ i,x = .int i /\ Q (g i) H
section
variable {X : Cx} {a b c : Expr} {ta tb tc : TE} {pos : Pos}
theorem binT (ha : PE X a ta) (hb : PE X b tb) {pins : List (Addr × Obj)} {s : Shared} {σ : St} {H : Hp} {R : V -> V -> Hp -> Prop} (I : Inv X pins σ H s)
  (h : ta σ H fun x H1=>tb σ H1 fun y H2=>R x y H2) {Q : Value -> Shared -> Prop} {f : Value -> Value -> Sem Value}
  (hf : ∀ v u s2 x y H2,Inv X pins σ H2 s2 -> RelV x v -> RelV y u -> R x y H2 -> wpAny (model X.prog X.w) X.A (f v u) Q X.xe s2) :
  wpAny (model X.prog X.w) X.A (eval a X.env) (fun v s₁=>wpAny (model X.prog X.w) X.A (eval b X.env) (fun u s₂=>wpAny (model X.prog X.w) X.A (f v u) Q X.xe s₂) X.xe s₁) X.xe s:=by
 refine thn (ha pins s σ H _ I h) fun v s1 ⟨x,H1,I1,r1,q1⟩=>?_
 refine thn (hb pins s1 σ H1 _ I1 q1) fun u s2 ⟨y,H2,I2,r2,q2⟩=>?_
 exact hf v u s2 x y H2 I2 r1 r2 q2
theorem yhN {op : Operator} {r : R2} (ho : OpR X (binaryOp op) r) (ha : PE X a ta) (hb : PE X b tb) : PE X (.BinOp a op b pos) (tOp r ta tb):=by
 intro pins s σ H Q I h
 exact wpAny_BinOp (binT ha hb I h fun v u s2 x y H2 I2 rx ry q=>ho pins s2 σ H2 x y v u Q I2 rx ry q)
theorem yhO {op : UnaryOp} {r : V -> Hp -> VK -> Prop} (ho : UnR X (unaryOp op) r) (ha : PE X a ta) : PE X (.UnaryOp op a pos) (tUn r ta):=by
 intro pins s σ H Q I h
 exact UnaryOp_ (thn (ha pins s σ H _ I h) fun v s1 ⟨x,H1,I1,r1,q1⟩=>ho pins s1 σ H1 x v Q I1 r1 q1)
theorem opI {f : Value -> Value -> Sem Value} {C : Int -> Int -> Prop} {g : Int -> Int -> Int}
  (rule : ∀ (i j : Int) (t u : Tok) (s : Shared) (Q : Value -> Shared -> Prop) (E : Value -> Shared -> Prop),C i j -> Q (.int (g i j) s.toks) { s with toks:=s.toks + 1 } -> wpAny (model X.prog X.w) X.A (f (.int i t) (.int j u)) Q E s) :
  OpR X f (rI C fun i j=>.int (g i j)):=by
 intro pins s σ H x y v u Q I rx ry h
 obtain ⟨i,j,rfl,rfl,hc,q⟩:=h
 obtain ⟨t,rfl⟩:=rx
 obtain ⟨t',rfl⟩:=ry
 exact rule i j t t' s _ _ hc ⟨.int (g i j),H,I.tok _,⟨_,rfl⟩,q⟩
theorem opI0 {f : Value -> Value -> Sem Value} {g : Int -> Int -> Int}
  (rule : ∀ (i j : Int) (t u : Tok) (s : Shared) (Q : Value -> Shared -> Prop) (E : Value -> Shared -> Prop),Q (.int (g i j) s.toks) { s with toks:=s.toks + 1 } -> wpAny (model X.prog X.w) X.A (f (.int i t) (.int j u)) Q E s) :
  OpR X f (rI0 fun i j=>.int (g i j)):=by
 intro pins s σ H x y v u Q I rx ry h
 obtain ⟨i,j,rfl,rfl,q⟩:=h
 obtain ⟨t,rfl⟩:=rx
 obtain ⟨t',rfl⟩:=ry
 exact rule i j t t' s _ _ ⟨.int (g i j),H,I.tok _,⟨_,rfl⟩,q⟩
theorem opB0 {f : Value -> Value -> Sem Value} {g : Int -> Int -> Bool}
  (rule : ∀ (i j : Int) (t u : Tok) (s : Shared) (Q : Value -> Shared -> Prop) (E : Value -> Shared -> Prop),Q (.bool (g i j)) s -> wpAny (model X.prog X.w) X.A (f (.int i t) (.int j u)) Q E s) :
  OpR X f (rI0 fun i j=>.bl (g i j)):=by
 intro pins s σ H x y v u Q I rx ry h
 obtain ⟨i,j,rfl,rfl,q⟩:=h
 obtain ⟨t,rfl⟩:=rx
 obtain ⟨t',rfl⟩:=ry
 exact rule i j t t' s _ _ ⟨.bl (g i j),H,I,rfl,q⟩
def CPow (i j : Int) : Prop:=0 <= j /\ j <= 1000000 /\ i.natAbs < 2 ^ 64
def CMul (i j : Int) : Prop:=(-(2 ^ 64) < i /\ i < 2 ^ 64) \/ (-(2 ^ 64) < j /\ j < 2 ^ 64)
theorem CMul.ok {i j : Int} (h : CMul i j) : IntMulOk i j:=by
 rcases h with ⟨h1,h2⟩ | ⟨h1,h2⟩
 ·exact .of_left (intBits_le_64 h1 h2)
 ·exact .of_right (intBits_le_64 h1 h2)
theorem op_add : OpR X (binaryOp .Add) (rI0 fun i j=>.int (i + j)):=opI0 fun _ _ _ _ _ _ _ q=>add_int q
theorem ygE : OpR X (binaryOp .Sub) (rI0 fun i j=>.int (i - j)):=opI0 fun _ _ _ _ _ _ _ q=>sub_int q
theorem ygF : OpR X (binaryOp .Mod) (rI (fun _ j=>0 < j) fun i j=>.int (i % j)):=opI fun i j _ _ _ _ _ hc q=>by
 have h1 : (0 : Int) < j:=hc
 exact mod_int' (by omega) (by rw [Int.fmod_eq_emod_of_nonneg i (by omega)]; exact q)
theorem ygG : OpR X (binaryOp .Pow) (rI CPow fun i j=>.int (i ^ j.toNat)):=opI fun _ _ _ _ _ _ _ hc q=>pow_int_small hc.1 hc.2.1 hc.2.2 q
theorem unI {f : Value -> Sem Value} {g : Int -> Int}
  (rule : ∀ (i : Int) (t : Tok) (s : Shared) (Q : Value -> Shared -> Prop) (E : Value -> Shared -> Prop),Q (.int (g i) s.toks) { s with toks:=s.toks + 1 } -> wpAny (model X.prog X.w) X.A (f (.int i t)) Q E s) :
  UnR X f (rU fun i=>.int (g i)):=by
 intro pins s σ H x v Q I rx h
 obtain ⟨i,rfl,q⟩:=h
 obtain ⟨t,rfl⟩:=rx
 exact rule i t s _ _ ⟨.int (g i),H,I.tok _,⟨_,rfl⟩,q⟩
theorem ygH : UnR X (unaryOp .USub) (rU fun i=>.int (-i)):=unI fun _ _ _ _ _ q=>neg_int q
end
def scal : V -> V -> Bool
 | .non,.non=>true | .non,.int _=>true | .int _,.non=>true | .non,.bl _=>true | .bl _,.non=>true | .non,.str _=>true | .str _,.non=>true
 | .int _,.int _=>true | .bl _,.bl _=>true | .str _,.str _=>true | .byt _,.byt _=>true
 | .int _,.str _=>true | .str _,.int _=>true | .bl _,.str _=>true | .str _,.bl _=>true
 | _,_=>false
def rEq : R2:=fun x y H Q=>scal x y = true /\ Q (.bl (decide (x = y))) H
def rNe : R2:=fun x y H Q=>scal x y = true /\ Q (.bl (!decide (x = y))) H
theorem zfc {i j : Int} : decide (V.int i = V.int j) = (i == j):=by
 rw [Bool.eq_iff_iff]
 simp
theorem yfk {i j : Bool} : decide (V.bl i = V.bl j) = (i == j):=by
 rw [Bool.eq_iff_iff]
 simp
theorem zfd {i j : Str} : decide (V.str i = V.str j) = (i == j):=by
 rw [Bool.eq_iff_iff]
 simp
theorem zfe {i j : Array UInt8} : decide (V.byt i = V.byt j) = (i.toList == j.toList):=by
 rw [Bool.eq_iff_iff]
 cases i
 cases j
 simp
section
variable {X : Cx} {a b c : Expr} {ta tb tc : TE} {pos : Pos}
theorem yaV {pins : List (Addr × Obj)} {σ : St} {H : Hp} {s : Shared} {Q : VK} {k k' : Bool} (I : Inv X pins σ H s) (q : Q (.bl k) H) (e : k = k') : EP X pins σ Q (.bool k') s:=by
 subst e
 exact ⟨.bl k,H,I,rfl,q⟩
theorem op_eq : OpR X (compareOp .Eq) rEq:=by
 intro pins s σ H x y v u Q I rx ry h
 obtain ⟨hs,q⟩:=h
 cases x with
 | non =>
  cases rx
  cases y with
  | non=>cases ry; exact PySem.EqNone.eq_none_none (yaV I q (by simp))
  | bl j=>cases ry; exact PySem.EqNone.eq_none_bool (yaV I q (by simp))
  | int j=>obtain ⟨t',rfl⟩:=ry; exact PySem.EqNone.eq_none_int (yaV I q (by simp))
  | str j=>obtain ⟨t',rfl⟩:=ry; exact PySem.EqNone.eq_none_str (yaV I q (by simp))
  | _=>exact absurd (show false = true from hs) Bool.false_ne_true
 | bl i =>
  cases rx
  cases y with
  | non=>cases ry; exact PySem.EqNone.eq_bool_none (yaV I q (by simp))
  | bl j=>cases ry; exact eq_bool (yaV I q yfk)
  | str j=>obtain ⟨t',rfl⟩:=ry; exact PySem.EqMixed.eq_bool_str (yaV I q (by simp))
  | _=>exact absurd (show false = true from hs) Bool.false_ne_true
 | int i =>
  obtain ⟨t,rfl⟩:=rx
  cases y with
  | non=>cases ry; exact PySem.EqNone.eq_int_none (yaV I q (by simp))
  | int j=>obtain ⟨t',rfl⟩:=ry; exact eq_int (yaV I q zfc)
  | str j=>obtain ⟨t',rfl⟩:=ry; exact PySem.EqMixed.eq_int_str (yaV I q (by simp))
  | _=>exact absurd (show false = true from hs) Bool.false_ne_true
 | str i =>
  obtain ⟨t,rfl⟩:=rx
  cases y with
  | non=>cases ry; exact PySem.EqNone.eq_str_none (yaV I q (by simp))
  | bl j=>cases ry; exact PySem.EqMixed.eq_str_bool (yaV I q (by simp))
  | int j=>obtain ⟨t',rfl⟩:=ry; exact PySem.EqMixed.eq_str_int (yaV I q (by simp))
  | str j=>obtain ⟨t',rfl⟩:=ry; exact eq_str (yaV I q zfd)
  | _=>exact absurd (show false = true from hs) Bool.false_ne_true
 | byt i =>
  obtain ⟨t,rfl⟩:=rx
  cases y with
  | byt j=>obtain ⟨t',rfl⟩:=ry; exact PySem.W.eq_bytes (yaV I q zfe)
  | _=>exact absurd (show false = true from hs) Bool.false_ne_true
 | _=>cases y<;>exact absurd (show false = true from hs) Bool.false_ne_true
theorem op_ne : OpR X (compareOp .NotEq) rNe:=by
 intro pins s σ H x y v u Q I rx ry h
 obtain ⟨hs,q⟩:=h
 cases x with
 | non =>
  cases rx
  cases y with
  | non=>cases ry; exact PySem.EqNone.ne_none_none (yaV I q (by simp))
  | bl j=>cases ry; exact PySem.EqNone.ne_none_bool (yaV I q (by simp))
  | int j=>obtain ⟨t',rfl⟩:=ry; exact PySem.EqNone.ne_none_int (yaV I q (by simp))
  | str j=>obtain ⟨t',rfl⟩:=ry; exact PySem.EqNone.ne_none_str (yaV I q (by simp))
  | _=>exact absurd (show false = true from hs) Bool.false_ne_true
 | bl i =>
  cases rx
  cases y with
  | non=>cases ry; exact PySem.EqNone.ne_bool_none (yaV I q (by simp))
  | bl j=>cases ry; exact ne_bool (yaV I q (congrArg not yfk))
  | str j=>obtain ⟨t',rfl⟩:=ry; exact PySem.EqMixed.ne_bool_str (yaV I q (by simp))
  | _=>exact absurd (show false = true from hs) Bool.false_ne_true
 | int i =>
  obtain ⟨t,rfl⟩:=rx
  cases y with
  | non=>cases ry; exact PySem.EqNone.ne_int_none (yaV I q (by simp))
  | int j=>obtain ⟨t',rfl⟩:=ry; exact ne_int (yaV I q (congrArg not zfc))
  | str j=>obtain ⟨t',rfl⟩:=ry; exact PySem.EqMixed.ne_int_str (yaV I q (by simp))
  | _=>exact absurd (show false = true from hs) Bool.false_ne_true
 | str i =>
  obtain ⟨t,rfl⟩:=rx
  cases y with
  | non=>cases ry; exact PySem.EqNone.ne_str_none (yaV I q (by simp))
  | bl j=>cases ry; exact PySem.EqMixed.ne_str_bool (yaV I q (by simp))
  | int j=>obtain ⟨t',rfl⟩:=ry; exact PySem.EqMixed.ne_str_int (yaV I q (by simp))
  | str j=>obtain ⟨t',rfl⟩:=ry; exact ne_str (yaV I q (congrArg not zfd))
  | _=>exact absurd (show false = true from hs) Bool.false_ne_true
 | byt i =>
  obtain ⟨t,rfl⟩:=rx
  cases y with
  | byt j=>obtain ⟨t',rfl⟩:=ry; exact PySem.W.ne_bytes (yaV I q (congrArg not zfe))
  | _=>exact absurd (show false = true from hs) Bool.false_ne_true
 | _=>cases y<;>exact absurd (show false = true from hs) Bool.false_ne_true
theorem op_lt : OpR X (compareOp .Lt) (rI0 fun i j=>.bl (decide (i < j))):=opB0 fun _ _ _ _ _ _ _ q=>lt_int q
theorem op_le : OpR X (compareOp .LtE) (rI0 fun i j=>.bl (decide (i <= j))):=opB0 fun _ _ _ _ _ _ _ q=>le_int q
theorem yhP : OpR X (compareOp .Gt) (rI0 fun i j=>.bl (decide (j < i))):=opB0 fun _ _ _ _ _ _ _ q=>gt_int q
theorem yhQ : OpR X (compareOp .GtE) (rI0 fun i j=>.bl (decide (j <= i))):=opB0 fun _ _ _ _ _ _ _ q=>ge_int q
theorem zgC : OpR X (compareOp .Lt) (fun x y H Q=>∃ i j,x = .str i /\ y = .str j /\ Q (.bl (decide (i.cps.toList < j.cps.toList))) H):=by
 intro pins s σ H x y v u Q I rx ry h
 obtain ⟨i,j,rfl,rfl,q⟩:=h
 obtain ⟨t,rfl⟩:=rx
 obtain ⟨t',rfl⟩:=ry
 exact lt_str (yaV I q rfl)
theorem ygI : OpR X (compareOp .Is) (fun x y H Q=>y = .non /\ Q (.bl (decide (x = .non))) H):=by
 intro pins s σ H x y v u Q I rx ry h
 obtain ⟨rfl,q⟩:=h
 cases ry
 refine is_none_gen (yaV I q ?_)
 cases x<;>first
  | (cases rx; rfl)
  | (obtain ⟨t,rfl⟩:=rx; rfl)
theorem OpR.or {f : Value -> Value -> Sem Value} {r r' : R2} (h : OpR X f r) (h' : OpR X f r') : OpR X f (fun x y H Q=>r x y H Q \/ r' x y H Q):=by
 intro pins s σ H x y v u Q I rx ry q
 rcases q with q | q
 ·exact h pins s σ H x y v u Q I rx ry q
 ·exact h' pins s σ H x y v u Q I rx ry q
theorem yan (b : Expr) {op : CmpOp} (h : op ≠ .In:=by decide) (h2 : op ≠ .NotIn:=by decide) : behindInMarks op b = false:=by
 have e1 : (op == CmpOp.In) = false:=by cases op<;>first | rfl | exact absurd rfl h
 have e2 : (op == CmpOp.NotIn) = false:=by cases op<;>first | rfl | exact absurd rfl h2
 cases b<;>simp [behindInMarks,e1,e2]
theorem zir {op : CmpOp} {r : R2} (ho : OpR X (compareOp op) r) (ha : PE X a ta) (hb : PE X b tb) (hm : behindInMarks op b = false) : PE X (.Compare a [op] [b] pos) (tOp r ta tb):=by
 intro pins s σ H Q I h
 exact wpAny_Compare1 (binT ha hb I h fun v u s2 x y H2 I2 rx ry q=>ho pins s2 σ H2 x y v u Q I2 rx ry q) hm
def yhR (t : TE) : TT:=fun σ H Q=>t σ H fun x H' => ∃ k,x = .bl k /\ Q k H'
theorem zis {op : CmpOp} {r : R2} (ho : OpR X (compareOp op) r) (ha : PE X a ta) (hb : PE X b tb) (hm : behindInMarks op b = false) : PT X (.Compare a [op] [b] pos) (yhR (tOp r ta tb)):=by
 intro pins s σ H Q I h
 refine wpAny_isTrue_Compare1 (thn (ha pins s σ H _ I h) fun v s1 ⟨x,H1,I1,r1,q1⟩=>thn (hb pins s1 σ H1 _ I1 q1) fun u s2 ⟨y,H2,I2,r2,q2⟩ =>
  thn (ho pins s2 σ H2 x y v u _ I2 r1 r2 q2) fun c s3 ⟨z,H3,I3,r3,k,e,q3⟩=>?_) hm
 subst e
 cases r3
 exact wpAny_truthy_bool ⟨H3,I3,q3⟩
def yfl (r r' : R2) (ta tb tc : TE) : TE:=fun σ H Q=>ta σ H fun x H1=>tb σ H1 fun y H2=>r x y H2 fun z H3=>∃ k,z = .bl k /\
 (if k = true then tc σ H3 fun w' H4=>r' y w' H4 Q else Q (.bl false) H3)
theorem zhm {op op' : CmpOp} {r r' : R2} (ho : OpR X (compareOp op) r) (ho' : OpR X (compareOp op') r') (ha : PE X a ta) (hb : PE X b tb) (hc : PE X c tc)
  (hm : lastMarks [op,op'] [b,c] = false:=by with_unfolding_all rfl) : PE X (.Compare a [op,op'] [b,c] pos) (yfl r r' ta tb tc):=by
 intro pins s σ H Q I h
 refine Compare_chain (thn (ha pins s σ H _ I h) fun v s1 ⟨x,H1,I1,r1,q1⟩=>chain_link (thn (hb pins s1 σ H1 _ I1 q1) fun u s2 ⟨y,H2,I2,r2,q2⟩ =>
  thn (ho pins s2 σ H2 x y v u _ I2 r1 r2 q2) fun d s3 ⟨z,H3,I3,r3,k,e,q3⟩=>?_)) hm
 subst e
 cases r3
 refine wpAny_truthy_bool ?_
 cases k with
 | false=>exact ite_ff ⟨.bl false,H3,I3,rfl,q3⟩
 | true=>exact ite_tt (chain_last (thn (hc pins s3 σ H3 _ I3 q3) fun w' s4 ⟨z',H4,I4,r4,q4⟩=>ho' pins s4 σ H4 y z' u w' Q I4 r2 r4 q4))
def TruV (K : PySem.W.Frag) (x : V) (H : Hp) (k : Bool) : Prop :=
 match x with
 | .non=>k = false
 | .bl b=>k = b
 | .int i=>k = (i != 0)
 | .str y=>y.length <= sizeLine /\ k = ((y.length : Int) != 0)
 | .byt y=>y.size <= sizeLine /\ k = ((y.size : Int) != 0)
 | .ref p=>(∃ xs,SqL K H p xs /\ k = !xs.isEmpty) \/ (∃ xs,SqT K H p xs /\ k = !xs.isEmpty) \/ ∃ kvs,H p = some (.dK kvs) /\ k = !kvs.isEmpty
 | _=>False
theorem zf7 {κ : Type} {kvs : List (κ × V)} {vs : List (κ × Value)} (r : KV kvs vs) : (!vs.isEmpty) = !kvs.isEmpty:=by
 cases r<;>rfl
theorem zcW {xs : List V} {its : List Value} (r : Vals xs its) : (!its.toArray.isEmpty) = !xs.isEmpty:=by
 cases r<;>simp
theorem ydn : (sizeLine : Nat) < 2 ^ 63:=by rw [sizeLine_eq]; decide
theorem ygJ : TruR X (fun x H Q=>∃ k,TruV X.K x H k /\ Q k H):=by
 intro pins s σ H x v Q I rx h
 obtain ⟨k,e,q⟩:=h
 have hl:=ydn
 have hs : sizeLine = 16777216:=sizeLine_eq
 cases x with
 | non =>
  cases rx
  have e' : k = false:=e
  subst e'
  exact truthy_none ⟨H,I,q⟩
 | bl b =>
  cases rx
  have e' : k = b:=e
  subst e'
  exact wpAny_truthy_bool ⟨H,I,q⟩
 | int i =>
  obtain ⟨t,rfl⟩:=rx
  have e' : k = (i != 0):=e
  subst e'
  exact PySem.P.truthy_int ⟨H,I,q⟩
 | str y =>
  obtain ⟨t,rfl⟩:=rx
  obtain ⟨hy,e'⟩ : y.length <= sizeLine /\ k = ((y.length : Int) != 0):=e
  subst e'
  exact PySem.P.truthy_str (by omega) ⟨H,I.tok _,q⟩
 | byt y =>
  obtain ⟨t,rfl⟩:=rx
  obtain ⟨hy,e'⟩ : y.size <= sizeLine /\ k = ((y.size : Int) != 0):=e
  subst e'
  exact PySem.W.truthy_bytes (by omega) ⟨H,I.tok _,q⟩
 | ref p =>
  cases rx
  have e' : (∃ xs,SqL X.K H p xs /\ k = !xs.isEmpty) \/ (∃ xs,SqT X.K H p xs /\ k = !xs.isEmpty) \/ ∃ kvs,H p = some (.dK kvs) /\ k = !kvs.isEmpty:=e
  rcases e' with ⟨xs,hx,e'⟩ | ⟨xs,hx,e'⟩ | ⟨kvs,hx,e'⟩
  ·subst e'
   obtain ⟨its,r,pl,hz⟩:=I.list hx
   have hlen:=r.length
   exact wpAny_truthy_list pl.isList (by simp only [List.size_toArray]; omega) ⟨H,I.tok _,by rw [zcW r]; exact q⟩
  ·subst e'
   obtain ⟨its,r,pl,hz⟩:=I.tuple hx
   have hlen:=r.length
   exact truthy_tuple pl (by simp only [List.size_toArray]; omega) ⟨H,I.tok _,by rw [zcW r]; exact q⟩
  ·subst e'
   obtain ⟨hz,hS,vs,r,m⟩ : kvs.length <= sizeLine /\ (p == sysModules) = false /\ ∃ vs,KV kvs vs /\ s.heap.DictOf (ybw X.prog X.w) p vs:=I.hok p _ hx
   have hlen : kvs.length = vs.length:=Paired.length r
   exact wpAny_truthy_dict hS m (by omega) ⟨H,I.tok _,by rw [zf7 r]; exact q⟩
 | _=>exact (show False from e).elim
theorem zhn (ha : PE X a ta) (he : ∀ whole,isTrue a X.env whole = (do let v <- whole; standAt a.pos; holding [v] (truthy v))) :
  PT X a (fun σ H Q=>ta σ H fun x H' => ∃ k,TruV X.K x H' k /\ Q k H'):=by
 intro pins s σ H Q I h
 exact isTrue_plain (thn (ha pins s σ H _ I h) fun v s1 ⟨x,H1,I1,r1,q1⟩=>ygJ pins s1 σ H1 x v Q I1 r1 q1) (he _)
theorem zf8 : OpR X (binaryOp .Add) (fun x y H Q=>∃ i j,x = .str i /\ y = .str j /\ i.length + j.length <= sizeLine /\ Q (.str (i++j)) H):=by
 intro pins s σ H x y v u Q I rx ry h
 obtain ⟨i,j,rfl,rfl,hz,q⟩:=h
 obtain ⟨t,rfl⟩:=rx
 obtain ⟨t',rfl⟩:=ry
 exact add_str (fun t' tk=>⟨.str (i++j),H,I.tok _,⟨_,rfl⟩,q⟩) hz
theorem ydQ {x : V} {us : List Value} (r : Vals [x] us) : ∃ u,us = [u] /\ RelV x u:=by
 cases r with
 | cons r1 r2=>cases r2; exact ⟨_,rfl,r1⟩
theorem yei {x y : V} {us : List Value} (r : Vals [x,y] us) : ∃ u w',us = [u,w'] /\ RelV x u /\ RelV y w' := by
 cases r with
 | cons r1 r2 =>
  cases r2 with
  | cons r3 r4=>cases r4; exact ⟨_,_,rfl,r1,r3⟩
theorem zho : CallR X (.builtin "abs") (fun xs H Q=>∃ i,xs = [.int i] /\ Q (.int (if i < 0 then -i else i)) H):=by
 intro pins s σ H xs us Q I r h
 obtain ⟨i,rfl,q⟩:=h
 obtain ⟨u,rfl,t,rfl⟩:=ydQ r
 exact call_abs_int fun u tk=>⟨.int (if i < 0 then -i else i),H,I.tok _,⟨_,rfl⟩,q⟩
theorem zgD (hc : X.calm = true) : CallR X (.builtin "max") (fun xs H Q=>∃ i j,xs = [.int i,.int j] /\ Q (.int (if j > i then j else i)) H):=by
 intro pins s σ H xs us Q I r h
 obtain ⟨i,j,rfl,q⟩:=h
 obtain ⟨u,w',rfl,⟨t,rfl⟩,⟨t',rfl⟩⟩:=yei r
 refine max_two_ints (I.ok.hd hc) fun h' tk k=>⟨_,H,I.kept k,?_,q⟩
 by_cases hj : j > i
 ·rw [if_pos hj,if_pos hj]; exact ⟨_,rfl⟩
 ·rw [if_neg hj,if_neg hj]; exact ⟨_,rfl⟩
theorem zgE (hc : X.calm = true) : CallR X (.builtin "min") (fun xs H Q=>∃ i j,xs = [.int i,.int j] /\ Q (.int (if j < i then j else i)) H):=by
 intro pins s σ H xs us Q I r h
 obtain ⟨i,j,rfl,q⟩:=h
 obtain ⟨u,w',rfl,⟨t,rfl⟩,⟨t',rfl⟩⟩:=yei r
 refine min_two_ints (I.ok.hd hc) fun h' tk k=>⟨_,H,I.kept k,?_,q⟩
 by_cases hj : j < i
 ·rw [if_pos hj,if_pos hj]; exact ⟨_,rfl⟩
 ·rw [if_neg hj,if_neg hj]; exact ⟨_,rfl⟩
end
end L2
namespace L2
open PySem PySem.Spec PyProof.Rows
structure ObjM (h : Heap) (x dx C : Addr) (mA : Str -> Option Value) : Prop where
 obj : h.get? x = some (PySem.W.instObj C dx)
 ns : h.Ns1 dx mA
 ne : dx ≠ x
theorem zgF {h : Heap} {dx : Addr} {mA : Str -> Option Value} (n : h.Ns1 dx mA) : ∃ od,h.get? dx = some od /\ ∀ name,PySem.W.lookIn name od = some (mA name):=by
 obtain ⟨o,es,ep,ho,hd,hk,_,hm⟩:=n
 refine ⟨o,ho,fun name=>?_⟩
 have e:=hm name
 unfold nsFind findBy at e
 rw [<- Array.find?_toList] at e
 unfold PySem.W.lookIn
 rw [hd]
 dsimp only
 split
 ·rename_i y q
  rw [q] at e
  exact congrArg some e
 ·rename_i q
  rw [q] at e
  have a : es.toList.any (·.refKey) = false:=by
   rw [List.any_eq_false]
   intro y hy
   obtain ⟨z,t,hkey⟩:=hk y (Array.mem_toList_iff.mp hy)
   simp [DictEntry.refKey,hkey]
  have a' : ¬ es.toList.any (·.refKey) = true:=by rw [a]; exact Bool.false_ne_true
  rw [if_neg a']
  exact congrArg some e
theorem ObjM.look {h : Heap} {x dx C : Addr} {mA : Str -> Option Value} (I : ObjM h x dx C mA) : ∃ od,PySem.W.InstAt h x (PySem.W.instObj C dx) C (some od) /\ ∀ name,PySem.W.lookIn name od = some (mA name) :=
 let ⟨od,ho,hl⟩:=zgF I.ns
 ⟨od,⟨I.obj,rfl,rfl,ho⟩,hl⟩
section
variable {prog : Program} {w : World} {A : Around} {E : Value -> Shared -> Prop} {s : Shared} {K : PySem.W.Frag} {x dx C f : Addr} {mA : Str -> Option Value} {name : Str} {v : Value}
theorem zit {expr : Bool} {Q : Value -> Shared -> Prop} (X : K.In s.heap) (I : ObjM s.heap x dx C mA) (hg : PySem.W.plainGet K C name = true) (hh : PySem.W.hasDictIn K C = true)
  (ha : PySem.W.findIn K (.ref C) name = some none) (hv : mA name = some v) (hv' : PySem.W.handedIn v = true) (h : Q v { s with toks:=s.toks + 1 }) :
  wpAny (model prog w) A (getAttr (.ref x) name expr) Q E s:=by
 obtain ⟨od,J,hl⟩:=I.look
 exact PySem.W.get_value X J (PySem.W.plainGet_of hg).1 (PySem.W.findObj_own hh ha rfl (by rw [hl,hv])) hv' h
theorem zhp {pl : Sem Bool} {Q : Value × List Value -> Shared -> Prop} (X : K.In s.heap) (I : ObjM s.heap x dx C mA) (hg : PySem.W.plainGet K C name = true)
  (hf : PySem.W.findIn K (.ref C) name = some (some (.ref f))) (ht : PySem.W.isFn K (.ref f) = true) (hv : mA name = none) (h : Q (.ref f,[.ref x]) s) :
  wpAny (model prog w) A (getMethod (.ref x) name pl) Q E s:=by
 obtain ⟨od,J,hl⟩:=I.look
 exact PySem.W.method_fn X J (PySem.W.plainGet_of hg).1 (PySem.W.plainGet_of hg).2 hf (beq_iff_eq.mp ht) (by show (PySem.W.lookIn name od).map (·.isSome) = some false; rw [hl,hv]; rfl) h
theorem ziu {ns : List Str} {Q : Unit -> Shared -> Prop} (X : K.In s.heap) (I : ObjM s.heap x dx C mA)
  (hs : PySem.W.findIn K (.ref C) "__setattr__" = some (some (.builtin "object.__setattr__"))) (hp : PySem.W.plainOver K C = true) (ht : PySem.W.takerIn K C name = some none) (hh : PySem.W.hasDictIn K C = true)
  (hw : PySem.Within mA ns) (hsz : ns.length <= sizeLine)
  (h : ∀ h',ObjM h' x dx C (fun y=>if y = name then some v else mA y) -> Heap.SameBut dx s.heap h' -> Q () { s with heap:=h',toks:=s.toks + 2 }) :
  wpAny (model prog w) A (setAttr (.ref x) name v) Q E s:=by
 obtain ⟨od,J,hl⟩:=I.look
 refine PySem.W.set_plain X J hs (PySem.W.osa_open (s:={ s with toks:=s.toks + 1 }) (r:=none) X J hp ht fun b=>?_)
 obtain ⟨cd,hc,hd'⟩:=PySem.W.any_some hh
 have hx : s.heap.get? x = some ⟨.ref C,some dx,.plain,#[]⟩:=I.obj
 refine wpAny_bind (wpAny_pure (wpAny_bind (wpAny_bind (wpAny_loadPart hx (wpAny_bind (PySem.W.Looks.here (s:={ s with toks:=s.toks + 1 }) (PySem.W.looks_clsIn X hc) ?_))))))
 rw [hd']
 refine wpAny_pure (a:=some dx) (wpAny_bind (wpAny_pure (wpAny_bind ?_)))
 refine wpAny_nsSet1 (s:={ s with toks:=s.toks + 1 }) I.ns fun h' hn2 hs2=>?_
 obtain ⟨oD,esD,epD,hoD,hdD,hcD⟩:=hn2.count (PySem.Within.cons name v hw)
 refine wpAny_bind (wpAny_lookBehind hoD (by rw [hdD]; exact pastItsLine_dict (Nat.le_trans hcD (by rw [List.length_cons]; omega))) ?_)
 exact wpAny_pure (h _ ⟨(hs2.2 _ (Ne.symm I.ne)).trans I.obj,hn2,I.ne⟩ hs2)
theorem zhq {R : Result -> Shared -> Prop} {vs : List Value} {kw : List (Str × Value)} (X : K.In s.heap) (hm : PySem.W.makesIn K C = true)
  (hi : PySem.W.findIn K (.ref C) "__init__" = some (some (.ref f))) (hf : PySem.W.typeIn K (.ref f) = some (.type "function"))
  (h : codeAny (model prog w) (A.under (.builtin "type.__call__" ⟨.ref C :: vs,kw⟩)) (.call (.ref f) ⟨.ref (s.heap.objs.size + 1) :: vs,kw⟩) (PySem.W.InitBack (s.heap.objs.size + 1) R)
   { s with heap:=(s.heap.push PySem.W.emptyDict).push (PySem.W.instObj C s.heap.objs.size) }) :
  codeAny (model prog w) A (.call (.ref C) ⟨vs,kw⟩) R s:=by
 obtain ⟨hh,g,d,t,os⟩:=s
 exact PySem.W.make_core (PySem.W.makes_of X hm) (PySem.W.looks_findIn X hi) (fun self=>PySem.W.bind_fn X self hf) (.inl rfl) h
end
def putF (f : Str) (v : V) : List (Str × V) -> List (Str × V)
 | []=>[(f,v)]
 | (g,x) :: r=>if g = f then (g,v) :: r else (g,x) :: putF f v r
theorem za1 (f g : Str) (v : V) : ∀ fs : List (Str × V),(putF f v fs).lookup g = if g = f then some v else fs.lookup g
 | []=>by
  show List.lookup g [(f,v)] = _
  by_cases h : g = f
  ·have hb : (g == f) = true:=beq_iff_eq.mpr h
   simp only [List.lookup,hb,if_pos h]
  ·have hb : (g == f) = false:=beq_eq_false_iff_ne.mpr h
   simp only [List.lookup,hb,if_neg h]
 | (k,x) :: r=>by
  have ih:=za1 f g v r
  rw [show putF f v ((k,x) :: r) = (if k = f then (k,v) :: r else (k,x) :: putF f v r) from rfl]
  by_cases hk : k = f
  ·rw [if_pos hk]
   by_cases h : g = k
   ·have hb : (g == k) = true:=beq_iff_eq.mpr h
    simp only [List.lookup,hb,if_pos (h.trans hk)]
   ·have hb : (g == k) = false:=beq_eq_false_iff_ne.mpr h
    simp only [List.lookup,hb,if_neg (fun e : g = f=>h (e.trans hk.symm))]
  ·rw [if_neg hk]
   by_cases h : g = k
   ·have hb : (g == k) = true:=beq_iff_eq.mpr h
    simp only [List.lookup,hb,if_neg (fun e : g = f=>hk (h.symm.trans e))]
   ·have hb : (g == k) = false:=beq_eq_false_iff_ne.mpr h
    simp only [List.lookup,hb]
    exact ih
theorem zb6 (f : Str) (v : V) : ∀ fs : List (Str × V),f ∈ (putF f v fs).map (·.1) /\ ∀ g,g ∈ fs.map (·.1) -> g ∈ (putF f v fs).map (·.1)
 | []=>⟨by simp [putF],fun g h=>by simp at h⟩
 | (k,x) :: r=>by
  obtain ⟨i1,i2⟩:=zb6 f v r
  rw [show putF f v ((k,x) :: r) = (if k = f then (k,v) :: r else (k,x) :: putF f v r) from rfl]
  by_cases hk : k = f
  ·rw [if_pos hk]
   subst hk
   exact ⟨by simp,fun g h=>by simpa using h⟩
  ·rw [if_neg hk]
   refine ⟨?_,fun g h=>?_⟩
   ·rw [List.map_cons]
    exact List.mem_cons_of_mem _ i1
   ·rw [List.map_cons] at h ⊢
    rcases List.mem_cons.mp h with e | e
    ·exact List.mem_cons.mpr (.inl e)
    ·exact List.mem_cons_of_mem _ (i2 g e)
theorem zcz (f : Str) (v : V) : ∀ fs : List (Str × V),(putF f v fs).length <= fs.length + 1
 | []=>by simp [putF]
 | (k,x) :: r=>by
  have ih:=zcz f v r
  rw [show putF f v ((k,x) :: r) = (if k = f then (k,v) :: r else (k,x) :: putF f v r) from rfl]
  by_cases hk : k = f
  ·rw [if_pos hk,List.length_cons,List.length_cons]; omega
  ·rw [if_neg hk,List.length_cons,List.length_cons]; omega
theorem RelO.some_of {v : V} {o : Option Value} (r : RelO (some v) o) : ∃ u,o = some u /\ RelV v u:=by
 cases o with
 | none=>exact (show False from r).elim
 | some u=>exact ⟨u,rfl,r⟩
theorem RelO.none_of {o : Option Value} (r : RelO none o) : o = none:=by
 cases o with
 | none=>rfl
 | some u=>exact (show False from r).elim
theorem zgG {v : V} {u : Value} (r : RelV v u) : PySem.W.handedIn u = true:=by
 cases v with
 | non=>cases (show u = Value.none from r); rfl
 | bl b=>cases (show u = Value.bool b from r); rfl
 | int i=>obtain ⟨t,e⟩:=(show ∃ t,u = Value.int i t from r); cases e; rfl
 | str x=>obtain ⟨t,e⟩:=(show ∃ t,u = Value.str x t from r); cases e; rfl
 | byt b=>obtain ⟨t,e⟩:=(show ∃ t,u = Value.bytes b t from r); cases e; rfl
 | flt b=>obtain ⟨t,e⟩:=(show ∃ t,u = Value.float b t from r); cases e; rfl
 | ref a=>cases (show u = Value.ref a from r); rfl
 | ty n=>cases (show u = Value.type n from r); rfl
section
variable {P : Program} {w : World} {H H' : Hp} {h h' : Heap} {a C dx : Addr} {fs fs' : List (Str × V)}
theorem zci (hok : HOk P w H h) (e : H a = some (.ins C dx fs)) : ∃ mA,ObjM h a dx C mA /\ (∀ f,RelO (fs.lookup f) (mA f)) /\ PySem.Within mA (fs.map (·.1)) /\ fs.length <= 1000 /\ H dx = some (.own a):=by
 obtain ⟨d,z,ne,ob,mA,n,r,q⟩:=(show ObjOk P w H h a (.ins C dx fs) from hok a _ e)
 exact ⟨mA,⟨ob,n,ne⟩,r,q,z,d⟩
end
structure Cls (K : PySem.W.Frag) (C : Addr) : Prop where
 pg : PySem.W.plainGet K C Str.empty = true
 hd : PySem.W.hasDictIn K C = true
 po : PySem.W.plainOver K C = true
 sa : PySem.W.findIn K (.ref C) "__setattr__" = some (some (.builtin "object.__setattr__"))
theorem Cls.get {K : PySem.W.Frag} {C : Addr} (c : Cls K C) (f : Str) : PySem.W.plainGet K C f = true:=c.pg
def NoAttr (K : PySem.W.Frag) (C : Addr) (f : Str) : Prop:=PySem.W.findIn K (.ref C) f = some none
theorem NoAttr.taker {K : PySem.W.Frag} {C : Addr} {f : Str} (n : NoAttr K C f) : PySem.W.takerIn K C f = some none:=by
 unfold PySem.W.takerIn
 rw [show PySem.W.findIn K (.ref C) f = some none from n]
 rfl
structure Meth (K : PySem.W.Frag) (C : Addr) (m : Str) (f : Addr) : Prop where
 at_ : PySem.W.findIn K (.ref C) m = some (some (.ref f))
 fn : PySem.W.isFn K (.ref f) = true
 kp : PySem.W.keepIn K (.ref f) = true
section
variable {X : Cx} {pins : List (Addr × Obj)} {σ : St} {H : Hp} {s : Shared} {a C dx : Addr} {fs : List (Str × V)} {f : Str} {v : V} {A : Around} {E : Value -> Shared -> Prop}
theorem zf9 {b : Bool} {Q : Value -> Shared -> Prop} (I : Inv X pins σ H s) (e : H a = some (.ins C dx fs)) (c : Cls X.K C) (n : NoAttr X.K C f) (l : fs.lookup f = some v)
  (h : ∀ u s',Inv X pins σ H s' -> RelV v u -> Q u s') : wpAny (model X.prog X.w) A (getAttr (.ref a) f b) Q E s:=by
 obtain ⟨mA,O,r,_,_,_⟩:=zci I.hok e
 obtain ⟨u,hu,ru⟩:=RelO.some_of (v:=v) (o:=mA f) (by rw [<- l]; exact r f)
 exact zit I.kIn O (c.get f) c.hd n hu (zgG ru) (h u _ (I.tok _) ru)
theorem zcX {m : Str} {g : Addr} {pl : Sem Bool} {Q : Value × List Value -> Shared -> Prop} (I : Inv X pins σ H s) (e : H a = some (.ins C dx fs)) (c : Cls X.K C) (k : Meth X.K C m g) (l : fs.lookup m = none)
  (h : Q (.ref g,[.ref a]) s) : wpAny (model X.prog X.w) A (getMethod (.ref a) m pl) Q E s:=by
 obtain ⟨mA,O,r,_,_,_⟩:=zci I.hok e
 have hn : mA m = none:=RelO.none_of (by rw [<- l]; exact r m)
 exact zhp I.kIn O (c.get m) k.at_ k.fn hn h
theorem zga {y : V} {u : Value} {Q : Unit -> Shared -> Prop} (I : Inv X pins σ H s) (e : H a = some (.ins C dx fs)) (c : Cls X.K C) (n : NoAttr X.K C f) (hl : fs.length < 1000) (ry : RelV y u)
  (h : ∀ s',Inv X pins σ (upd H a (.ins C dx (putF f y fs))) s' -> Q () s') : wpAny (model X.prog X.w) A (setAttr (.ref a) f u) Q E s:=by
 obtain ⟨mA,O,r,wi,_,ho⟩:=zci I.hok e
 have hz : (fs.map (·.1)).length <= sizeLine:=by rw [List.length_map,sizeLine_eq]; omega
 refine ziu I.kIn O c.sa c.po n.taker c.hd wi hz fun h' O' sb=>h _ ?_
 have hd : ∃ o,h'.get? dx = some o:=let ⟨o,_,_,e',_⟩:=O'.ns; ⟨o,e'⟩
 refine I.write (x:=a) (e:=dx) (by rw [e]; exact True.intro) (.inr ho) (fun b q hb z=>(sb.2 b hb).trans z) hd ?_
 refine ⟨by rw [yaB O.ne]; exact ho,?_,O.ne,O'.obj,_,O'.ns,fun g=>?_,fun g hg=>?_⟩
 ·have:=zcz f y fs; omega
 ·show RelO ((putF f y fs).lookup g) (if g = f then some u else mA g)
  rw [za1]
  by_cases q : g = f
  ·rw [if_pos q,if_pos q]; exact ry
  ·rw [if_neg q,if_neg q]; exact r g
 ·by_cases q : g = f
  ·rw [q]; exact (zb6 f y fs).1
  ·refine (zb6 f y fs).2 g (wi g fun z=>hg ?_)
   show (if g = f then some u else mA g) = none
   rw [if_neg q]; exact z
theorem Inv.made (I : Inv X pins σ H s) : Inv X pins σ (upd (upd H s.heap.objs.size (.own (s.heap.objs.size + 1))) (s.heap.objs.size + 1) (.ins C s.heap.objs.size []))
  { s with heap:=(s.heap.push PySem.W.emptyDict).push (PySem.W.instObj C s.heap.objs.size) }:=by
 have e1 : (s.heap.push PySem.W.emptyDict).get? s.heap.objs.size = some PySem.W.emptyDict:=Heap.get?_push_size s.heap rfl
 have e2 : ((s.heap.push PySem.W.emptyDict).push (PySem.W.instObj C s.heap.objs.size)).get? (s.heap.objs.size + 1) = some (PySem.W.instObj C s.heap.objs.size):=by
  have:=Heap.get?_push_size (s.heap.push PySem.W.emptyDict) (o:=PySem.W.instObj C s.heap.objs.size) rfl
  rwa [Heap.size_push] at this
 have e3 : (s.heap.push PySem.W.emptyDict).Ns s.heap.objs.size (fun _=>none):=⟨PySem.W.emptyDict,#[],_,e1,rfl,(fun e he=>absurd he (by simp)),fun _=>rfl⟩
 have I1:=I.laid (a:=s.heap.objs.size) (o:=.own (s.heap.objs.size + 1)) (h' := s.heap.push PySem.W.emptyDict) (t' := s.toks) (fun b u q=>Heap.get?_push_of_some _ q) (Nat.le_refl _) ⟨_,e1⟩
 refine I1.laid (a:=s.heap.objs.size + 1) (o:=.ins C s.heap.objs.size []) (t' := s.toks) (fun b u q=>Heap.get?_push_of_some _ q) (Nat.le_of_eq (Heap.size_push _ _)) ?_
 have ne : s.heap.objs.size ≠ s.heap.objs.size + 1:=Nat.ne_of_lt (Nat.lt_succ_self _)
 refine ⟨by rw [yaB ne,zat],Nat.zero_le _,ne,e2,fun _=>none,(Heap.Ns1.of_empty e3).at fun o q=>Heap.get?_push_of_some _ q,fun _=>True.intro,fun y hy=>absurd rfl hy⟩
theorem ziv {prog : Program} {w : World} {env : Env} {e : Expr} {f : Str} {pos : Pos} {s : Shared} {Q : Value -> Shared -> Prop} (hb : attributeBase e f env (eval e env) = eval e env)
  (h : wpAny (model prog w) A (eval e env) (fun o s₁=>wpAny (model prog w) A (getAttr o f true) Q E s₁) E s) : wpAny (model prog w) A (eval (.Attribute e f pos) env) Q E s :=
 Attribute_any_ h (by rw [arm_eval_Attribute,hb])
end
def tFld (K : PySem.W.Frag) (ta : TE) (f : Str) : TE:=fun σ H Q=>ta σ H fun x H1=>∃ a C dx fs v,x = .ref a /\ H1 a = some (.ins C dx fs) /\ Cls K C /\ NoAttr K C f /\ fs.lookup f = some v /\ Q v H1
def sFld (K : PySem.W.Frag) (ta tv : TE) (f : Str) : TS:=fun D σ H=>tv σ H fun y H1=>ta σ H1 fun x H2=>∃ a C dx fs,x = .ref a /\ H2 a = some (.ins C dx fs) /\ Cls K C /\ NoAttr K C f /\ fs.length < 1000 /\
 D.nx σ (upd H2 a (.ins C dx (putF f y fs)))
section
variable {X : Cx} {o e value : Expr} {f : Str} {pos pos' tpos : Pos} {ta tv : TE}
theorem ygK (he : PE X e ta) (hb : attributeBase e f X.env (eval e X.env) = eval e X.env) : PE X (.Attribute e f pos) (tFld X.K ta f):=by
 intro pins s σ H Q I h
 refine ziv hb (thn (he pins s σ H _ I h) fun u s1 ⟨x,H1,I1,rx,a,C,dx,fs,v,ex,ea,c,n,l,q⟩=>?_)
 subst ex
 obtain rfl : u = Value.ref a:=rx
 exact zf9 I1 ea c n l fun u' s2 I2 ru=>⟨v,H1,I2,ru,q⟩
theorem ygL (ha : PE X o ta) (hv : PE X value tv) (hs : swapsWith value (some (.Attribute o f pos')) pos.line X.env = pure false) : PS X (.Assign [.Attribute o f pos'] value pos) (sFld X.K ta tv f):=by
 intro pins s σ H D I h
 refine plainObj_wpAny_Assign_Attribute (thn (hv pins s σ H _ I h) fun u s1 ⟨y,H1,I1,ry,q⟩=>thn (ha pins s1 σ H1 _ I1 q) fun ov s2 ⟨x,H2,I2,rx,a,C,dx,fs,ex,ea,c,n,l,q2⟩=>?_) hs
 subst ex
 obtain rfl : ov = Value.ref a:=rx
 exact zga I2 ea c n l ry fun s3 I3=>⟨σ,_,I3,q2⟩
end
section
variable {X : Cx} {pins : List (Addr × Obj)} {σ : St} {H : Hp} {s : Shared} {A : Around} {E : Value -> Shared -> Prop} {Q : Value -> Shared -> Prop} {c : Value} {b : Bool}
inductive TyOf (K : PySem.W.Frag) (H : Hp) : V -> Value -> Prop where
 | non : TyOf K H .non (.type "NoneType")
 | bl (x : Bool) : TyOf K H (.bl x) (.type "bool")
 | int (i : Int) : TyOf K H (.int i) (.type "int")
 | str (x : Str) : TyOf K H (.str x) (.type "str")
 | flt (x : UInt64) : TyOf K H (.flt x) (.type "float")
 | lst {a : Addr} {xs : List V} (e : H a = some (.lst xs)) : TyOf K H (.ref a) (.type "list")
 | frz {a : Addr} {o : Obj} {xs : List V} (e : H a = some (.frz o (.lst xs))) : TyOf K H (.ref a) (.type "list")
 | tup {a : Addr} {xs : List V} (e : H a = some (.tup xs)) : TyOf K H (.ref a) (.type "tuple")
 | dK {a : Addr} {kvs : List (Key × V)} (e : H a = some (.dK kvs)) : TyOf K H (.ref a) (.type "dict")
 | dT {a : Addr} {kvs : List (List Key × V)} (e : H a = some (.dT kvs)) : TyOf K H (.ref a) (.type "dict")
 | ins {a C dx : Addr} {fs : List (Str × V)} (e : H a = some (.ins C dx fs)) (cl : Cls K C) (ha : PySem.W.findIn K (.ref C) "__class__" = some (some (.builtin "object.__class__")))
   (hn : PySem.W.specialIn K (.builtin "object.__class__") "__get__" = some (some (.builtin "getset_descriptor.__get__"))) (htk : PySem.W.takesIn K (.builtin "object.__class__") = some true)
   (hm : PySem.W.mroIn K C (.type "object") = some true) : TyOf K H (.ref a) (.ref C)
theorem zgH {x : V} {u t : Value} (I : Inv X pins σ H s) (rx : RelV x u) (ty : TyOf X.K H x t) (e : PySem.W.kitOne X.K t c = some b) (h : ∀ tk,Q (.bool b) { s with toks:=tk }) :
  wpAny (model X.prog X.w) A (call (.builtin "isinstance") [u,c]) Q E s:=by
 cases ty with
 | non=>cases (show u = Value.none from rx); exact PySem.W.kia_one PySem.W.kitx_none I.kIn True.intro e (fun z=>nomatch z) h
 | bl y=>cases (show u = Value.bool y from rx); exact PySem.W.kia_one PySem.W.kitx_bool I.kIn True.intro e (fun z=>nomatch z) h
 | int i=>obtain ⟨t,q⟩:=(show ∃ t,u = Value.int i t from rx); cases q; exact PySem.W.kia_one PySem.W.kitx_int I.kIn True.intro e (fun z=>nomatch z) h
 | str y=>obtain ⟨t,q⟩:=(show ∃ t,u = Value.str y t from rx); cases q; exact PySem.W.kia_one PySem.W.kitx_str I.kIn True.intro e (fun z=>nomatch z) h
 | flt y=>obtain ⟨t,q⟩:=(show ∃ t,u = Value.float y t from rx); cases q; exact PySem.W.kia_one PySem.W.kitx_float I.kIn True.intro e (fun z=>nomatch z) h
 | @lst a xs ea =>
  cases (show u = Value.ref a from rx)
  obtain ⟨_,_,n,_,h1⟩:=(show ObjOk X.prog X.w H s.heap a (.lst xs) from I.hok a _ ea)
  exact PySem.W.kia_one PySem.W.kitx_list I.kIn ⟨_,h1,rfl⟩ e (fun z=>nomatch z) h
 | @frz a ob xs ea =>
  cases (show u = Value.ref a from rx)
  obtain ⟨_,_,_,n,_,h1⟩:=(show ObjOk X.prog X.w H s.heap a (.frz ob (.lst xs)) from I.hok a _ ea)
  exact PySem.W.kia_one PySem.W.kitx_list I.kIn ⟨_,h1,rfl⟩ e (fun z=>nomatch z) h
 | @tup a xs ea =>
  cases (show u = Value.ref a from rx)
  obtain ⟨_,_,_,p⟩:=(show ObjOk X.prog X.w H s.heap a (.tup xs) from I.hok a _ ea)
  obtain ⟨o,h1,h2,_⟩:=p
  exact PySem.W.kia_one PySem.W.kitx_tuple I.kIn ⟨o,h1,h2⟩ e (fun z=>nomatch z) h
 | @dK a kvs ea =>
  cases (show u = Value.ref a from rx)
  obtain ⟨_,_,vs,_,p⟩:=(show ObjOk X.prog X.w H s.heap a (.dK kvs) from I.hok a _ ea)
  obtain ⟨o,es,ep,h1,h2,_⟩:=p
  exact PySem.W.kia_one PySem.W.kitx_dict I.kIn ⟨o,h1,h2.1⟩ e (fun z=>nomatch z) h
 | @dT a kvs ea =>
  cases (show u = Value.ref a from rx)
  obtain ⟨_,_,xs,_,o,es,ep,h1,h2,_⟩:=(show ObjOk X.prog X.w H s.heap a (.dT kvs) from I.hok a _ ea)
  exact PySem.W.kia_one PySem.W.kitx_dict I.kIn ⟨o,h1,h2.1⟩ e (fun z=>nomatch z) h
 | @ins a C dx fs ea cl ha hn htk hm =>
  cases (show u = Value.ref a from rx)
  obtain ⟨mA,O,_⟩:=zci I.hok ea
  obtain ⟨od,J,_⟩:=O.look
  exact PySem.W.kia_one (PySem.W.kitx_own (cl.get _) cl.hd ha hn htk hm) I.kIn J e (fun z=>nomatch z) h
end
end L2
namespace L2
open PySem PySem.Spec PyProof.Rows
structure Room (k : Nat) (A : Around) : Prop where
 hd : A.handled = none
 dp : A.depth + 3 * k + 5 < recursionLimit
 un : A.units + 16 * k + 200 < cLine
theorem Room.mono {j k : Nat} {A : Around} (r : Room k A) (h : j <= k) : Room j A:=⟨r.hd,by have:=r.dp; omega,by have:=r.un; omega⟩
theorem Room.deeper {k : Nat} {A : Around} (r : Room (k + 1) A) (env : Env) : Room k (A.deeper env) :=
 ⟨r.hd,by have:=r.dp; show A.depth + 1 + 3 * k + 5 < _; omega,by have:=r.un; show A.units + 3 + 16 * k + 200 < _; omega⟩
theorem zgb {A : Around} {C : Addr} {us : List Value} {kw : List (Str × Value)} : (A.under (.builtin "type.__call__" ⟨.ref C :: us,kw⟩)).depth = A.depth + 1:=by
 first | rfl | simp [Around.under,Code.weight,Code.isCreation,Code.isGuard,Code.isCaller,Code.frames,Code.isFrame,guardIds]
theorem zgc {A : Around} {C : Addr} {us : List Value} {kw : List (Str × Value)} : (A.under (.builtin "type.__call__" ⟨.ref C :: us,kw⟩)).units = A.units + 1:=by
 first | rfl | simp [Around.under,Code.cUnits,Code.frames,Code.isFrame]
theorem Room.make {k : Nat} {A : Around} (r : Room (k + 1) A) (C : Addr) (us : List Value) (kw : List (Str × Value)) : Room k (A.under (.builtin "type.__call__" ⟨.ref C :: us,kw⟩)) :=
 ⟨r.hd,by have:=r.dp; rw [zgb]; omega,by have:=r.un; rw [zgc]; omega⟩
theorem Room.depth {k : Nat} {A : Around} (r : Room k A) : A.depth < recursionLimit:=by have:=r.dp; omega
def tNil : TA:=fun _ H Q=>Q [] H
def yhS (ta : TE) (tr : TA) : TA:=fun σ H Q=>ta σ H fun x H1=>tr σ H1 fun xs H2=>Q (x :: xs) H2
section
variable {X : Cx} {e : Expr} {es : List Expr} {te : TE} {t : TA} {pos : Pos}
theorem yeP : PA X [] tNil:=fun _ _ _ _ H Q I h=>Calls.spliced_nil ⟨[],H,I,.nil,h⟩
theorem zbz (ha : PE X e te) (hr : PA X es t) (hs : starEach (e :: es) X.env = (false,eval e X.env) :: starEach es X.env:=by rfl) : PA X (e :: es) (yhS te t):=by
 intro pos pins s σ H Q I h
 rw [hs]
 show wpAny _ _ (spliced ((false,eval e X.env) :: backTo pos (starEach es X.env))) _ _ s
 refine Calls.spliced_cons (thn (ha pins s σ H _ I h) fun u s1 ⟨x,H1,I1,r1,q1⟩=>?_)
 exact thn (hr pos pins s1 σ H1 _ I1 q1) fun us s2 ⟨xs,H2,I2,r2,q2⟩=>⟨x :: xs,H2,I2,.cons r1 r2,q2⟩
def tTup (t : TA) : TE:=fun σ H Q=>t σ H fun xs H1=>xs.length <= sizeLine /\ ∀ p,H1 p = none -> Q (.ref p) (upd H1 p (.tup xs))
def tLst (t : TA) : TE:=fun σ H Q=>t σ H fun xs H1=>xs.length <= sizeLine /\ ∀ p,H1 p = none -> Q (.ref p) (upd H1 p (.lst xs))
theorem ygM {x1} (h : PA X es t) : PE X (.Tuple es x1 pos) (tTup t):=by
 intro pins s σ H Q I hq
 refine wpAny_Tuple_spliced (thn (h pos pins s σ H _ I hq) fun us s1 ⟨xs,H1,I1,r,z,q⟩=>⟨by rw [<- r.length]; exact z,?_⟩)
 have hf : H1 s1.heap.objs.size = none:=I1.hok.fresh (Nat.le_refl _)
 refine ⟨.ref s1.heap.objs.size,upd H1 s1.heap.objs.size (.tup xs),I1.laid (t' := s1.toks) (fun b u e=>Heap.get?_push_of_some _ e) (Nat.le_refl _) ?_,rfl,q _ hf⟩
 exact ⟨z,us,r,⟨_,Heap.get?_push_size _ rfl,rfl,_,rfl⟩⟩
theorem yfm (h : PA X es t) : PE X (.List es pos) (tLst t):=by
 intro pins s σ H Q I hq
 refine wpAny_List_spliced (thn (h pos pins s σ H _ I hq) fun us s1 ⟨xs,H1,I1,r,z,q⟩=>⟨by rw [<- r.length]; exact z,?_⟩)
 have hf : H1 s1.heap.objs.size = none:=I1.hok.fresh (Nat.le_refl _)
 refine ⟨.ref s1.heap.objs.size,upd H1 s1.heap.objs.size (.lst xs),I1.laid (t' := s1.toks) (fun b u e=>Heap.get?_push_of_some _ e) (Nat.le_refl _) ?_,rfl,q _ hf⟩
 exact ⟨z,us,0,r,Heap.get?_push_size _ rfl⟩
end
abbrev Sp:=List V -> Hp -> VK -> XK -> Prop
abbrev CXT:=List Env -> Hp -> Shared -> XK -> Value -> Shared -> Prop
structure Env0 (P : Program) (w : World) (K : PySem.W.Frag) (mg : Str -> Option Value) (base : Heap) (A : Around) (outer : List Env) (s : Shared) (H : Hp) : Prop where
 frames : A.frames = some outer
 mod : Mod K mg base
 bs : ∀ b o,base.get? b = some o -> s.heap.get? b = some o /\ H b = none
 bsz : base.objs.size <= s.heap.objs.size
 funs : s.heap.FunFrames base outer
 frf : ∀ b ∈ frs outer,H b = none
 hok : HOk P w H s.heap
 bare : AllBare s.gens
def CE (outer : List Env) (P : Program) (w : World) (H : Hp) (s : Shared) (Q : VK) (u : Value) (s' : Shared) : Prop :=
 ∃ v H',s'.os = s.os /\ AllBare s'.gens /\ Un (frs outer) [] H H' s.heap s'.heap /\ HOk P w H' s'.heap /\ RelV v u /\ Q v H'
def CR (CX : CXT) (outer : List Env) (P : Program) (w : World) (H : Hp) (s : Shared) (Q : VK) (E : XK) (r : Result) (s' : Shared) : Prop :=
 match r with
 | .ok (.ret u)=>CE outer P w H s Q u s'
 | .ok _=>False
 | .error e=>CX outer H s E e s'
structure FnOk (P : Program) (w : World) (K : PySem.W.Frag) (mg : Str -> Option Value) (base : Heap) (CX : CXT) (k : Nat) (f : Addr) (fd : FuncData) (ps : List Str) (sp : Sp) : Prop where
 len : ∀ vs H Q E,sp vs H Q E -> vs.length = ps.length
 run : ∀ (A : Around) (outer : List Env) (s : Shared) (H : Hp) (args : Args) (us : List Value) (vs : List V) (Q : VK) (E : XK),Room k A -> Env0 P w K mg base A outer s H -> BindsTo s fd args (ps.zip us) -> Vals vs us -> sp vs H Q E ->
  codeAny (model P w) A (.call (.ref f) args) (CR CX outer P w H s Q E) s
theorem FnOk.imp {P : Program} {w : World} {K : PySem.W.Frag} {mg : Str -> Option Value} {base : Heap} {CX : CXT} {k : Nat} {f : Addr} {fd : FuncData} {ps : List Str} {sp sp' : Sp} (F : FnOk P w K mg base CX k f fd ps sp)
  (h : ∀ vs H Q E,sp' vs H Q E -> sp vs H Q E) : FnOk P w K mg base CX k f fd ps sp' :=
 ⟨fun vs H Q E q=>F.len vs H Q E (h _ _ _ _ q),fun A outer s H args us vs Q E hr he hb hv hs=>F.run A outer s H args us vs Q E hr he hb hv (h _ _ _ _ hs)⟩
theorem Env0.make {P : Program} {w : World} {K : PySem.W.Frag} {mg : Str -> Option Value} {base : Heap} {A : Around} {outer : List Env} {s : Shared} {H : Hp} (e : Env0 P w K mg base A outer s H) (C : Addr) (us : List Value) (kw : List (Str × Value)) :
  Env0 P w K mg base (A.under (.builtin "type.__call__" ⟨.ref C :: us,kw⟩)) outer s H:=⟨by first | exact e.frames | (simpa [Around.under,Code.envs,Code.isFrame,pushEnvs] using e.frames),e.mod,e.bs,e.bsz,e.funs,e.frf,e.hok,e.bare⟩
section
variable {X : Cx} {pins : List (Addr × Obj)} {σ : St} {H : Hp} {s s' : Shared}
theorem Inv.env0 (I : Inv X pins σ H s) : Env0 X.prog X.w X.K X.mg X.base X.A X.stack s H :=
 ⟨I.ok.frames,I.ok.mod,I.bs,Nat.le_trans I.ok.bsz I.sz,I.stack,I.stkFree,I.hok,I.bare⟩
theorem Inv.after {Q : VK} {u : Value} (I : Inv X pins σ H s) (h : CE X.stack X.prog X.w H s Q u s') : EP X pins σ Q u s' := by
 obtain ⟨v,H',os,bare,un,hok,r,q⟩:=h
 obtain ⟨hh,g,d,t,os'⟩:=s'
 obtain rfl : os' = s.os:=os
 exact ⟨v,H',I.call (h' := hh) (g' := g) (d' := d) (t' := t) (ch:=[]) un hok bare (fun b z=>absurd z (by simp)),r,q⟩
end
def Binds (K : PySem.W.Frag) (fd : FuncData) (ps : List Str) (ds : List Value) : Prop :=
 ∀ (s : Shared) (us : List Value),K.In s.heap -> (us++ds).length = ps.length -> BindsTo s fd ⟨us,[]⟩ (ps.zip (us++ds))
theorem Binds.all {K : PySem.W.Frag} {fd : FuncData} {ps : List Str} (h : ∀ us : List Value,us.length = ps.length -> bindArgs fd ⟨us,[]⟩ = pure (ps.zip us)) : Binds K fd ps []:=fun s us _ hl=>by
 rw [List.append_nil] at hl ⊢
 exact .of_eq (h us hl)
def ygN (CX : CXT) (X : Cx) (E : XK) : Prop:=∀ (pins : List (Addr × Obj)) (σ : St) (H : Hp) (s : Shared) (e : Value) (s' : Shared),Inv X pins σ H s -> CX X.stack H s E e s' -> X.xe e s'
section
variable {X : Cx} {CX : CXT} {k : Nat} {f C : Addr} {fd : FuncData} {ps : List Str} {sp : Sp} {dvs : List V} {ds : List Value} {E : XK} {x m : Str} {p pos apos : Pos} {e o : Expr} {es : List Expr} {ta : TE} {t : TA}
structure Mk (K : PySem.W.Frag) (C f : Addr) : Prop where
 makes : PySem.W.makesIn K C = true
 init : PySem.W.findIn K (.ref C) "__init__" = some (some (.ref f))
 fn : PySem.W.isFn K (.ref f) = true
 kp : PySem.W.keepIn K (.ref C) = true
end
section
variable {X : Cx} {CX : CXT} {k : Nat} {f C : Addr} {fd : FuncData} {ps ks : List Str} {sp : Sp} {E : XK} {x m : Str} {p pos apos kpos : Pos} {e o : Expr} {es : List Expr} {kws : List Keyword} {te ta : TE} {t tk : TA} {nm : Option Str}
variable {g : List Value -> List Value -> List Value} {gV : List V -> List V -> List V}
end
structure FnScope (N P : List Str) (sc : Scope) : Prop where
 kind : sc.kind = .function
 co : sc.isCoroutine = false
 gen : sc.isGenerator = false
 nd : N.Nodup
 pre : N.take P.length = P
 par : ∀ x ∈ P,sc.names.lookup x = some .local \/ sc.names.lookup x = some .cell
 nofree : ∀ y ∈ sc.names,y.2 ≠ .free
theorem zdG {kindOf : Str -> Option NameKind} {x : Str} : ∀ {binds : List (Str × Value)} {m : Str -> Option Value},(∀ v,(x,v) ∉ binds) -> bindL kindOf binds m x = m x
 | [],_,_=>rfl
 | (n,v) :: r,m,h=>by
  unfold bindL
  rw [zdG fun w hw=>h w (List.mem_cons_of_mem _ hw)]
  split
  ·have : x ≠ n:=by rintro rfl; exact h v List.mem_cons_self
   simp [this]
  ·rfl
theorem zdH {kindOf : Str -> Option NameKind} {x : Str} : ∀ {binds : List (Str × Value)} {m : Str -> Option Value},(∀ v,(x,v) ∉ binds) -> bindC kindOf binds m x = m x
 | [],_,_=>rfl
 | (n,v) :: r,m,h=>by
  unfold bindC
  rw [zdH fun w hw=>h w (List.mem_cons_of_mem _ hw)]
  split
  ·rfl
  ·have : x ≠ n:=by rintro rfl; exact h v List.mem_cons_self
   simp [this]
theorem zdI {kindOf : Str -> Option NameKind} {x : Str} {v : Value} : ∀ {P : List Str} {vs : List Value} {i : Nat} {m : Str -> Option Value},P.Nodup -> P[i]? = some x -> vs[i]? = some v -> kindOf x = some .local ->
  bindL kindOf (P.zip vs) m x = some v
 | [],_,_,_,_,h,_,_=>by simp at h
 | _ :: _,[],_,_,_,_,h,_=>by simp at h
 | p :: P,w :: vs,0,m,nd,h1,h2,hk=>by
  simp at h1 h2; subst h1; subst h2
  show bindL kindOf ((p,w) :: P.zip vs) m p = _
  unfold bindL
  rw [zdG fun v hv=>(List.nodup_cons.mp nd).1 (List.of_mem_zip hv).1,if_pos hk]
  simp
 | p :: P,w :: vs,i + 1,m,nd,h1,h2,hk=>by
  show bindL kindOf ((p,w) :: P.zip vs) m x = _
  unfold bindL
  exact zdI (i:=i) (List.nodup_cons.mp nd).2 (by simpa using h1) (by simpa using h2) hk
theorem zdJ {kindOf : Str -> Option NameKind} {x : Str} {v : Value} : ∀ {P : List Str} {vs : List Value} {i : Nat} {m : Str -> Option Value},P.Nodup -> P[i]? = some x -> vs[i]? = some v -> kindOf x ≠ some .local ->
  bindC kindOf (P.zip vs) m x = some v
 | [],_,_,_,_,h,_,_=>by simp at h
 | _ :: _,[],_,_,_,_,h,_=>by simp at h
 | p :: P,w :: vs,0,m,nd,h1,h2,hk=>by
  simp at h1 h2; subst h1; subst h2
  show bindC kindOf ((p,w) :: P.zip vs) m p = _
  unfold bindC
  rw [zdH fun v hv=>(List.nodup_cons.mp nd).1 (List.of_mem_zip hv).1,if_neg hk]
  simp
 | p :: P,w :: vs,i + 1,m,nd,h1,h2,hk=>by
  show bindC kindOf ((p,w) :: P.zip vs) m x = _
  unfold bindC
  exact zdJ (i:=i) (List.nodup_cons.mp nd).2 (by simpa using h1) (by simpa using h2) hk
def start (N : List Str) (vs : List V) : St:=vs.map some++List.replicate (N.length - vs.length) none
def cxOf (CX : CXT) (P : Program) (w : World) (K : PySem.W.Frag) (mg : Str -> Option Value) (base : Heap) (N : List Str) (qual : Str) (scope : Scope) (f : Addr) (cd : Value) (A : Around) (outer : List Env) (s : Shared) (H : Hp) (E : XK) : Cx where
 prog:=P
 w:=w
 K:=K
 mg:=mg
 base:=base
 A:=A.deeper (envOfC qual scope s.heap.objs.size f cd)
 N:=N
 s₀:=s
 H₀:=H
 env:=envOfC qual scope s.heap.objs.size f cd
 outer:=outer
 stack:=envOfC qual scope s.heap.objs.size f cd :: outer
 ex:=[]
 calm:=true
 fn:=fun _=>true
 pn:=[]
 xe:=fun e s' => wpAny (model P w) (A.deeper (envOfC qual scope s.heap.objs.size f cd)) (leaving (envOfC qual scope s.heap.objs.size f cd) e) (fun _ s'' => CX outer H s E e s'') (fun e' s'' => CX outer H s E e' s'') s'
theorem zek {sc : Scope} {n : Nat} {x : Str} (h : sc.names.lookup x = some .cell) : ∃ c,(cellsFrom n sc.names []).lookup x = some c:=by
 have q:=PySem.W.cellsFrom_some sc.names n [] (.inl h)
 exact Option.isSome_iff_exists.mp q
theorem zgI {CX : CXT} {P : Program} {w : World} {K : PySem.W.Frag} {mg : Str -> Option Value} {base : Heap} {N ps : List Str} {qual : Str} {scope : Scope} {f : Addr} {cd : Value} {A : Around} {outer : List Env} {s s1 : Shared} {H : Hp} {E : XK} {us : List Value} {vs : List V}
  (S : FnScope N ps scope) (hd : A.handled = none) (e0 : Env0 P w K mg base A outer s H) (hl : vs.length = ps.length) (r : Vals vs us)
  (x : InCallC s s.heap.objs.size (bindL (envOfC qual scope s.heap.objs.size f cd).kindOf (ps.zip us) fun _=>none) (cellsFrom (s.heap.objs.size + 1) scope.names []) (bindC (envOfC qual scope s.heap.objs.size f cd).kindOf (ps.zip us) fun _=>none) s1) :
  Inv (cxOf CX P w K mg base N qual scope f cd A outer s H E) [] (start N vs) H s1:=by
 have hpl : ps.length <= N.length:=by have:=congrArg List.length S.pre; rw [List.length_take] at this; omega
 obtain ⟨h1,tk,rfl,hk⟩:=x.done
 have noA : ∀ b : Addr,b ∉ (cxOf CX P w K mg base N qual scope f cd A outer s H E).ex:=fun b z=>absurd (show b ∈ ([] : List Addr) from z) (by simp)
 refine ⟨⟨e0.mod,S.kind,rfl,rfl,Nat.le_refl _,fun y z c h1 h2=>?_,fun y hy=>?_,fun y c _ h=>?_,fun _=>hd,Around.frames_deeper e0.frames,.inr ⟨rfl,rfl⟩,fun b z=>absurd z (noA b),e0.bs,e0.bsz,fun b _ _=>noA b,fun b z=>absurd z (noA b),e0.funs,e0.frf⟩,
  rfl,e0.bare,Un.kept hk,⟨_,x.toInCall.ns,fun i y v h1 h2 h3=>?_⟩,fun y c h=>⟨_,x.cell y c h⟩,e0.hok.fresh (Nat.le_refl _),fun y c h=>?_,fun p hp=>absurd (show p ∈ ([] : List (Addr × Obj)) from hp) (by simp),e0.hok.kept hk,?_⟩
 ·exact name_of_addr x.apart (PySem.mem_of_lookup h1) (PySem.mem_of_lookup h2)
 ·have hy : scope.names.lookup y = some .cell \/ scope.names.lookup y = some .free:=hy
  rcases hy with hy | hy
  ·exact zek hy
  ·exact absurd rfl (S.nofree _ (PySem.mem_of_lookup hy))
 ·exact Nat.le_of_lt (x.above y c (PySem.mem_of_lookup h))
 ·have hi : i < vs.length:=by
   unfold start at h2
   by_cases hi : i < vs.length
   ·exact hi
   ·rw [List.getElem?_append_right (by simpa using hi)] at h2
    rw [List.getElem?_replicate] at h2
    split at h2<;>cases h2
  have ha : vs[i]? = some v:=by
   unfold start at h2
   rw [List.getElem?_append_left (by simpa using hi),List.getElem?_map] at h2
   cases e : vs[i]? with
   | none=>rw [e] at h2; cases h2
   | some a=>rw [e] at h2; cases h2; rfl
  obtain ⟨u,hu,rv⟩:=r.get ha
  have hp : ps[i]? = some y:=by
   rw [<- S.pre,List.getElem?_take_of_lt (by omega)]; exact h1
  have ndP : ps.Nodup:=by rw [<- S.pre]; exact S.nd.sublist (List.take_sublist _ _)
  refine ⟨u,rv,?_⟩
  rcases S.par y (List.mem_of_getElem? hp) with k | k
  ·exact .inl ⟨k,zdI ndP hp hu k⟩
  ·obtain ⟨c,e⟩:=zek (n:=s.heap.objs.size + 1) k
   refine .inr ⟨.inl k,c,e,?_⟩
   have q:=x.cell y c e
   rw [zdJ ndP hp hu (by show scope.names.lookup y ≠ _; rw [k]; decide)] at q
   exact q
 ·exact e0.hok.fresh (Nat.le_of_lt (x.above y c (PySem.mem_of_lookup h)))
 ·unfold start
  show _ = N.length
  rw [List.length_append,List.length_map,List.length_replicate]
  omega
theorem yhT {CX : CXT} {P : Program} {w : World} {K : PySem.W.Frag} {mg : Str -> Option Value} {base : Heap} {k : Nat} {f : Addr} {name qual : Str} {params : Arguments} {body : List Stmt} {scope : Scope} {dV kV doc pm cdv ct oc : Value} {an od : Option Addr}
  {osl : Array (Option Value)} {N ps : List Str} {sp : Sp} (lk : K.lookup f = some ⟨oc,od,.func (PySem.W.fnOf name qual params body scope dV kV doc pm an cdv ct),osl⟩) (hcd : PySem.W.codeIn K cdv qual = true) (S : FnScope N ps scope)
  (len : ∀ vs H Q E,sp vs H Q E -> vs.length = ps.length)
  (hbody : ∀ (A : Around) (outer : List Env) (s : Shared) (H : Hp) (vs : List V) (Q : VK) (E : XK),Room k (A.deeper (envOfC qual scope s.heap.objs.size f cdv)) -> sp vs H Q E ->
   ∃ t,PSs (cxOf CX P w K mg base N qual scope f cdv A outer s H E) body t /\ t { nx:=fun _ H' => Q .non H',rt:=Q } (start N vs) H) :
  FnOk P w K mg base CX (k + 1) f (PySem.W.fnOf name qual params body scope dV kV doc pm an cdv ct) ps sp:=by
 refine ⟨len,fun A outer s H args us vs Q E hr e0 hb r hsp=>?_⟩
 have hl:=len _ _ _ _ hsp
 have KX : K.In s.heap:=e0.mod.kin.keeps fun b o e=>(e0.bs b o e).1
 have lim : s.heap.NoLimit:=e0.mod.nolimit.keeps fun b o e=>(e0.bs b o e).1
 have hkind : ∀ y ∈ ps.zip us,scope.names.lookup y.1 = some .local \/ (scope.names.lookup y.1 = some .cell /\ ((cellsFrom (s.heap.objs.size + 1) scope.names []).lookup y.1).isSome = true):=fun ⟨n,v⟩ hy=>by
  rcases S.par n (List.of_mem_zip hy).1 with q | q
  ·exact .inl q
  ·exact .inr ⟨q,PySem.W.cellsFrom_some _ _ _ (.inl q)⟩
 refine codeAny_call_function hr.depth (KX _ _ lk) rfl S.co S.gen rfl (PySem.W.codeRec_of KX hcd) (hb _ _ _ _ ?_)
 refine wpAny_newFunctionEnv_cells S.kind hkind fun env he s1 x=>?_
 subst he
 refine ⟨lim.keeps x.toInCall.keep,codeAny_func ?_⟩
 obtain ⟨t,ht,hq⟩:=hbody A outer s H vs Q E (hr.deeper _) hsp
 have I : Inv (cxOf CX P w K mg base N qual scope f cdv A outer s H E) [] (start N vs) H s1:=zgI S hr.hd e0 hl r x
 refine wpAny_mono (ht [] s1 (start N vs) H _ I hq) (fun fl s' hs=>?_) fun e s' hs=>hs
 have fin : ∀ {σ' : St} {H' : Hp} {v : V} {u : Value},Inv (cxOf CX P w K mg base N qual scope f cdv A outer s H E) [] σ' H' s' -> RelV v u -> Q v H' -> CE outer P w H s Q u s' :=
  fun {σ' H' v u} J rv q=>⟨v,H',J.os,J.bare,J.base,J.hok,rv,q⟩
 cases fl with
 | ret u =>
  obtain ⟨v,σ',H',J,rv,q⟩:=hs
  exact fin J rv q
 | next =>
  obtain ⟨σ',H',J,q⟩:=hs
  exact fin (v:=V.non) (u:=Value.none) J rfl q
 | brk =>
  obtain ⟨_,_,_,q⟩:=hs
  exact False.elim q
 | cont =>
  obtain ⟨_,_,_,q⟩:=hs
  exact False.elim q
end L2
namespace L2
open PySem PySem.Spec PyProof.Rows
section
variable {X : Cx} {x : Str} {p pos : Pos} {e : Expr} {es : List Expr} {t : TA} {id T : String} {r : List V -> Hp -> VK -> Prop}
def tCB (r : List V -> Hp -> VK -> Prop) (t : TA) : TE:=fun σ H Q=>t σ H fun vs H1=>r vs H1 Q
theorem zcG (hc : CallR X (.builtin id) r) (hg : Gl X x) (hm : X.mg x = none) (hv : bootBuiltins x = some (.builtin id)) (ha : PA X (e :: es) t) (hn : x ≠ "__name__" := by decide) (hdb : (x == ("__debug__" : Str)) = false:=by decide)
  (he : starEach (e :: es) X.env = (false,eval e X.env) :: starEach es X.env:=by rfl) (hpl : (backTo pos (starEach es X.env)).any (·.1) = false:=by rfl) : PE X (.Call (.Name x p) (e :: es) [] pos) (tCB r t):=by
 intro pins s σ H Q I h
 refine wpAny_Call_Name_kw (yeh I hg hm hv ?_ hn hdb)
 exact PyProof.Rows.callWith_builtin1 (thn (ha pos pins s σ H _ I h) fun us s1 ⟨vs,H1,I1,r1,q1⟩=>hc pins s1 σ H1 vs us Q I1 r1 q1) he hpl
end
end L2
namespace HT
open PySem PyProof.Rows
section
open PySem.SeqAt
open PySem.AutoSeq1 (wpAny_loadPart')
open PySem.MeetsSeq PySem.MeetsSeq2 PySem.MeetsSeq3
end
section
variable {prog : Program} {w : World} {A : Around} {E : Value -> Shared -> Prop} {s : Shared}
theorem cat_tup {t b : Addr} {vs ws : List Value} {Q : Value -> Shared -> Prop} (ht : IsTup s.heap t vs.toArray) (hb : IsTup s.heap b ws.toArray) (hv : vs ≠ [])
  (h1 : ws = [] -> Q (.ref t) s) (h2 : ws ≠ [] -> Q (.ref s.heap.objs.size) { s with heap:=s.heap.push { cls:=.type "tuple",data:=.seq (vs++ws).toArray } })
  (hsz : vs.length + ws.length <= sizeLine) : wpAny (model prog w) A (binaryOp .Add (.ref t) (.ref b)) Q E s:=by
 obtain ⟨⟨cls,dd,data,sl⟩,ho,hc,n,hd⟩:=id ht
 obtain ⟨⟨cls2,dd2,data2,sl2⟩,ho2,hc2,n2,hd2⟩:=id hb
 simp only at hc hd hc2 hd2
 subst hc hd hc2 hd2
 have e : vs.toArray++ws.toArray = (vs++ws).toArray:=by simp
 by_cases hw : ws = []
 ·exact concat_meets ⟨_,ho,rfl⟩ ⟨_,ho2,rfl⟩ noFill_tuple_add seq_tuple_add PySem.F.slot_tuple_add PySem.F.entry_tuple_add (PySem.F.args_tuple_add_2 _ _)
   (tuple_addW1 t b vs.toArray ws.toArray n n2 dd dd2 sl sl2 (by simpa using hv) (by simp [hw])) ⟨ho,ho2,h1 hw⟩
 ·refine concat_meets ⟨_,ho,rfl⟩ ⟨_,ho2,rfl⟩ noFill_tuple_add seq_tuple_add PySem.F.slot_tuple_add PySem.F.entry_tuple_add (PySem.F.args_tuple_add_2 _ _)
   (tuple_addW2 t b vs.toArray ws.toArray n n2 dd dd2 sl sl2 (by simpa using hv) (by simpa using hw) (by rw [List.size_toArray,List.size_toArray]; exact hsz)) ⟨ho,ho2,?_⟩
  rw [e]
  exact h2 hw
def sIx (n d : Nat) : Option Int -> Nat
 | none=>d
 | some v=>if v < 0 then (v + (n : Int)).toNat else min v.toNat n
theorem sIx_none (n d : Nat) : sIx n d none = d:=rfl
theorem sIx_nat (n d k : Nat) : sIx n d (some (k : Int)) = min k n:=by
 show (if (k : Int) < 0 then ((k : Int) + (n : Int)).toNat else min (k : Int).toNat n) = min k n
 rw [if_neg (by omega),Int.toNat_natCast]
theorem sIx_le (n d : Nat) (hd : d <= n) (o : Option Int) : sIx n d o <= n:=by
 cases o with
 | none=>exact hd
 | some v =>
  show (if v < 0 then (v + (n : Int)).toNat else min v.toNat n) <= n
  by_cases hv : v < 0
  ·rw [if_pos hv]; omega
  ·rw [if_neg hv]; exact Nat.min_le_right _ _
theorem zff (v : Int) (n d : Nat) : (if v < 0 then max (v + (n : Int)) 0 else min v (n : Int)) = ((sIx n d (some v) : Nat) : Int):=by
 show (if v < 0 then max (v + (n : Int)) 0 else min v (n : Int)) = (((if v < 0 then (v + (n : Int)).toNat else min v.toNat n) : Nat) : Int)
 by_cases hv : v < 0
 ·simp only [if_pos hv]; omega
 ·simp only [if_neg hv]; omega
theorem zgd (lo hi : Option Int) (n : Nat) : Builtin.Slice.sliceAdjust lo hi 1 (n : Int) = (((sIx n 0 lo : Nat) : Int),((sIx n n hi : Nat) : Int)):=by
 have h1 : ¬ ((1 : Int) < 0):=by omega
 unfold Builtin.Slice.sliceAdjust
 simp only [h1,if_false]
 refine Prod.ext ?_ ?_
 ·cases lo with
  | none=>rfl
  | some v=>exact zff v n 0
 ·cases hi with
  | none=>rfl
  | some v=>exact zff v n n
theorem zge (i j : Nat) : Builtin.Slice.slicePlaces (i : Int) (j : Int) 1 = j - i:=by
 unfold Builtin.Slice.slicePlaces
 have h1 : (1 : Int) > 0:=by omega
 simp only [h1,if_true,Int.ediv_one]
 split<;>omega
theorem zcY {v : Value} {o : Option Int} {Q : Option Int -> Shared -> Prop} (p : IsPart v o) (h : Q o s) : wpAny (model prog w) A (Builtin.Slice.slicePartIndex v) Q E s:=by
 cases p with
 | none=>exact slicePart_none h
 | int i t=>exact slicePart_int h
theorem zcH {sl : Addr} {vl vu : Value} {lo hi : Option Int} {n : Nat} {Q : Int × Int × Nat -> Shared -> Prop} (hs : s.heap.IsSliceOf sl vl vu .none) (pl : IsPart vl lo) (pu : IsPart vu hi)
  (h : Q (((sIx n 0 lo : Nat) : Int),1,sIx n n hi - sIx n 0 lo) s) : wpAny (model prog w) A (Builtin.Slice.sliceApplied (.ref sl) (pure (n : Int))) Q E s:=by
 obtain ⟨os,hos,hcs,hds⟩:=id hs
 unfold Builtin.Slice.sliceApplied Builtin.Slice.sliceFields
 refine wpAny_bind (wpAny_bind (wpAny_field hos hds (x:=vl) rfl (wpAny_bind (wpAny_field hos hds (x:=vu) rfl (wpAny_bind (wpAny_field hos hds (x:=.none) rfl (wpAny_pure ?_)))))))
 refine wpAny_bind (slicePart_none ?_)
 show wpAny _ _ (if ((1 : Int) == 0) = true then _ else _) _ _ s
 rw [if_neg (by decide)]
 refine wpAny_bind (zcY pl (wpAny_bind (zcY pu (wpAny_bind (wpAny_pure ?_)))))
 show wpAny _ _ (match Builtin.Slice.sliceAdjust lo hi 1 (n : Int) with | (lo,hi)=>pure (lo,(1 : Int),Builtin.Slice.slicePlaces lo hi 1)) _ _ s
 rw [zgd lo hi n]
 show wpAny _ _ (pure (((sIx n 0 lo : Nat) : Int),(1 : Int),Builtin.Slice.slicePlaces ((sIx n 0 lo : Nat) : Int) ((sIx n n hi : Nat) : Int) 1)) _ _ s
 rw [zge]
 exact wpAny_pure h
theorem zhr (xs : Array Value) (i k : Nat) : ((List.range k).filterMap fun (m : Nat)=>xs[((i : Int) + (m : Int) * 1).toNat]?).toArray = ((xs.toList.drop i).take k).toArray:=by
 have e : (fun (m : Nat)=>xs[((i : Int) + (m : Int) * 1).toNat]?) = fun m=>xs[i + m]? := by
  funext m
  have : ((i : Int) + (m : Int) * 1).toNat = i + m:=by omega
  rw [this]
 rw [e]
 have:=pick_run xs i k
 rw [List.filterMap_map] at this
 have e2 : ((fun x=>xs[x]?) ∘ fun x=>i + x) = fun m=>xs[i + m]? := rfl
 rw [e2] at this
 rw [this]
theorem getItem_tuple_cut {t sl : Addr} {items : Array Value} {vl vu : Value} {lo hi : Option Int} {Q : Value -> Shared -> Prop} (ht : IsTup s.heap t items) (hs : s.heap.IsSliceOf sl vl vu .none) (pl : IsPart vl lo) (pu : IsPart vu hi)
  (hw : ¬ (sIx items.size 0 lo = 0 /\ sIx items.size items.size hi = items.size))
  (h : Q (.ref s.heap.objs.size) { s with heap:=s.heap.push { cls:=.type "tuple",data:=.seq ((items.toList.drop (sIx items.size 0 lo)).take (sIx items.size items.size hi - sIx items.size 0 lo)).toArray } })
  (hsz : items.size <= sizeLine) : wpAny (model prog w) A (getItem (.ref t) (.ref sl)) Q E s:=by
 have htake : sizeOk (.seq ((items.toList.drop (sIx items.size 0 lo)).take (sIx items.size items.size hi - sIx items.size 0 lo)).toArray):=by
  show ((items.toList.drop (sIx items.size 0 lo)).take (sIx items.size items.size hi - sIx items.size 0 lo)).toArray.size <= sizeLine
  rw [List.size_toArray,List.length_take,List.length_drop,Array.length_toList]
  omega
 have hj : sIx items.size items.size hi <= items.size:=sIx_le _ _ (Nat.le_refl _) hi
 obtain ⟨os,hos,hcs,hds⟩:=id hs
 have hTs : s.TypeIs (.ref sl) "slice" := ⟨os,hos,hcs⟩
 unfold getItem
 try with_reducible refine wpAny_holding ?_
 first | refine wpAny_bind (wpAny_pure ?_) | skip
 refine wpAny_bind (wpAny_sequenceKey ht.typeIs (by decide) ?_)
 refine wpAny_bind (wpAny_callSpecial?_slot (name:=Str.ofString "__getitem__") ht.typeIs PyProof.Rows.slot_tuple_getitem
  (wpAny_call_entry PyProof.Rows.slot_tuple_getitem ht.typeIs entry_tuple_getitem ?_ (args_tuple_getitem _ _)))
 show wpAny _ _ (Builtin.Tuple.tupleItemsOf (.ref t) >>= _) _ _ s
 refine wpAny_bind (tupleItemsOf_ ht ?_)
 refine wpAny_bind (wpAny_typeOf hTs ?_)
 rw [if_pos (by decide)]
 refine wpAny_bind (zcH hs pl pu ?_)
 have hno : ¬ ((((sIx items.size 0 lo : Nat) : Int) == 0 && (1 : Int) == 1 && (sIx items.size items.size hi - sIx items.size 0 lo) == items.size) = true):=by
  intro q
  rw [Bool.and_eq_true,Bool.and_eq_true] at q
  have q1 : ((sIx items.size 0 lo : Nat) : Int) = 0:=eq_of_beq q.1.1
  have q2 : sIx items.size items.size hi - sIx items.size 0 lo = items.size:=eq_of_beq q.2
  exact hw ⟨by omega,by omega⟩
 show wpAny _ _ (if (((sIx items.size 0 lo : Nat) : Int) == 0 && (1 : Int) == 1 && (sIx items.size items.size hi - sIx items.size 0 lo) == items.size) = true then _ else _) _ _ s
 rw [if_neg hno,zhr]
 first
  | exact wpAny_bind (m:=Builtin.Tuple.tupleExact _) (wpAny_newObj_type (wpAny_pure ⟨_,rfl,wpAny_pure h⟩) htake)
  | exact wpAny_bind (m:=Builtin.Tuple.tupleExact _) (wpAny_newObj_type (wpAny_bind (wpAny_pure (wpAny_pure ⟨_,rfl,wpAny_pure h⟩))) htake)
  | exact wpAny_bind (wpAny_bind (m:=Builtin.Tuple.tupleExact _) (wpAny_newObj_type (wpAny_pure (wpAny_pure ⟨_,rfl,wpAny_pure h⟩)) htake))
  | exact wpAny_bind (wpAny_bind (m:=Builtin.Tuple.tupleExact _) (wpAny_newObj_type (wpAny_pure ⟨_,rfl,wpAny_pure h⟩) htake))
end
end HT
namespace L2
open PySem PySem.Spec PyProof.Rows
abbrev TO:=St -> Hp -> (Option Int -> Hp -> Prop) -> Prop
def PO (X : Cx) (e : Option Expr) (t : TO) : Prop :=
 ∀ (pins : List (Addr × Obj)) (s : Shared) (σ : St) (H : Hp) (Q : Option Int -> Hp -> Prop),Inv X pins σ H s -> t σ H Q ->
  wpAny (model X.prog X.w) X.A (evalPart e X.env) (fun u s' => ∃ o H',Inv X pins σ H' s' /\ IsPart u o /\ Q o H') X.xe s
def ye4 : TO:=fun _ H Q=>Q none H
def yfZ (t : TE) : TO:=fun σ H Q=>t σ H fun x H1=>∃ i,x = .int i /\ Q (some i) H1
section
variable {X : Cx} {e : Expr} {te : TE} {lo hi : Option Expr} {tl th : TO} {pos p2 : Pos}
theorem ziw : PO X none ye4:=by
 intro pins s σ H Q I h
 rw [evalPart_none]
 exact wpAny_pure ⟨none,H,I,.none,h⟩
theorem zix (h : PE X e te) : PO X (some e) (yfZ te):=by
 intro pins s σ H Q I hw
 rw [evalPart_some]
 refine thn (h pins s σ H _ I hw) fun u s1 ⟨x,H1,I1,r1,q1⟩=>?_
 obtain ⟨i,rfl,q⟩:=q1
 obtain ⟨t,rfl⟩:=r1
 exact ⟨some i,H1,I1,.int i t,q⟩
def SlR (X : Cx) (r : V -> Option Int -> Option Int -> Hp -> VK -> Prop) : Prop :=
 ∀ (pins : List (Addr × Obj)) (s : Shared) (σ : St) (H : Hp) (x : V) (v vl vu : Value) (lo hi : Option Int) (sl : Addr) (Q : VK),Inv X pins σ H s -> RelV x v -> s.heap.IsSliceOf sl vl vu .none -> IsPart vl lo -> IsPart vu hi -> r x lo hi H Q ->
  ∃ T id,typeLookup (.type T) "__getitem__" = pure (some (.builtin id)) /\ s.TypeIs v T /\ wpAny (model X.prog X.w) X.A (getItem v (.ref sl)) (EP X pins σ Q) X.xe s
theorem SlR.or {r r' : V -> Option Int -> Option Int -> Hp -> VK -> Prop} (h : SlR X r) (h' : SlR X r') : SlR X (fun x lo hi H Q=>r x lo hi H Q \/ r' x lo hi H Q):=by
 intro pins s σ H x v vl vu lo hi sl Q I rx hs pl pu q
 rcases q with q | q
 ·exact h pins s σ H x v vl vu lo hi sl Q I rx hs pl pu q
 ·exact h' pins s σ H x v vl vu lo hi sl Q I rx hs pl pu q
def tSl (r : V -> Option Int -> Option Int -> Hp -> VK -> Prop) (te : TE) (tl th : TO) : TE:=fun σ H Q=>te σ H fun x H1=>tl σ H1 fun l H2=>th σ H2 fun u H3=>r x l u H3 Q
theorem zhs {r : V -> Option Int -> Option Int -> Hp -> VK -> Prop} (hr : SlR X r) (he : PE X e te) (hl : PO X lo tl) (hu : PO X hi th) : PE X (.Subscript e (.Slice lo hi none p2) pos) (tSl r te tl th):=by
 intro pins s σ H Q I h
 refine Subscript_ (thn (he pins s σ H _ I h) fun v s1 ⟨x,H1,I1,r1,q1⟩=>?_)
 refine wpAny_Slice (thn (hl pins s1 σ H1 _ I1 q1) fun vl s2 ⟨l,H2,I2,pl,q2⟩=>thn (hu pins s2 σ H2 _ I2 q2) fun vu s3 ⟨u,H3,I3,pu,q3⟩=>?_)
 rw [evalPart_none]
 refine wpAny_pure ?_
 have I4 : Inv X pins σ H3 { s3 with heap:=s3.heap.push { cls:=.type "slice",data:=.fields #[vl,vu,.none] } }:=I3.kept (t' := s3.toks) fun b ob q=>Heap.get?_push_of_some _ q
 obtain ⟨T,id,hT,ht,hg⟩:=hr pins { s3 with heap:=s3.heap.push { cls:=.type "slice",data:=.fields #[vl,vu,.none] } } σ H3 x v vl vu l u s3.heap.objs.size Q I4 r1 (Heap.IsSliceOf.new ..) pl pu q3
 show wpAny (model X.prog X.w) X.A (subscriptTail e (.Slice lo hi none p2) v (.ref s3.heap.objs.size)) (EP X pins σ Q) X.xe { s3 with heap:=s3.heap.push { cls:=.type "slice",data:=.fields #[vl,vu,.none] } }
 exact tail_any (ops:=[.ref s3.heap.objs.size,v]) ht hT hg (by with_unfolding_all rfl)
def cutV (xs : List V) (lo hi : Option Int) : List V:=(xs.drop (HT.sIx xs.length 0 lo)).take (HT.sIx xs.length xs.length hi - HT.sIx xs.length 0 lo)
theorem zcA (xs : List V) (lo hi : Option Int) : (cutV xs lo hi).length <= xs.length:=by
 unfold cutV
 rw [List.length_take,List.length_drop]
 omega
def rSlT (K : PySem.W.Frag) : V -> Option Int -> Option Int -> Hp -> VK -> Prop:=fun x lo hi H Q=>∃ a xs,x = .ref a /\ SqT K H a xs /\
 ¬ (HT.sIx xs.length 0 lo = 0 /\ HT.sIx xs.length xs.length hi = xs.length) /\ ∀ p,H p = none -> Q (.ref p) (upd H p (.tup (cutV xs lo hi)))
theorem sl_tup : SlR X (rSlT X.K):=by
 intro pins s σ H x v vl vu lo hi sl Q I rx hs pl pu h
 obtain ⟨a,xs,rfl,hx,hw,q⟩:=h
 cases rx
 obtain ⟨its,r,ht,hz⟩:=I.tuple hx
 have hlen : its.toArray.size = xs.length:=by rw [List.size_toArray]; exact r.length.symm
 refine ⟨"tuple",_,PyProof.Rows.slot_tuple_getitem.lookup,ht.typeIs,?_⟩
 refine HT.getItem_tuple_cut ht hs pl pu (by rw [hlen]; exact hw) ?_ (by rw [hlen]; exact hz)
 rw [hlen]
 refine ⟨.ref s.heap.objs.size,_,I.laid (t' := s.toks) (o:=.tup (cutV xs lo hi)) (fun b ob q=>Heap.get?_push_of_some _ q) (Nat.le_refl _) ?_,rfl,q _ (I.hok.fresh (Nat.le_refl _))⟩
 exact ⟨Nat.le_trans (zcA xs lo hi) hz,_,(r.drop (HT.sIx xs.length 0 lo)).take (HT.sIx xs.length xs.length hi - HT.sIx xs.length 0 lo),IsTup.new _ _⟩
def yhU (K : PySem.W.Frag) : R2:=fun x y H Q=>∃ a b xs ys,x = .ref a /\ y = .ref b /\ SqT K H a xs /\ SqT K H b ys /\ xs ≠ [] /\ xs.length + ys.length <= sizeLine /\
 (ys = [] -> Q (.ref a) H) /\ (ys ≠ [] -> ∀ p,H p = none -> Q (.ref p) (upd H p (.tup (xs++ys))))
theorem Vals.nil_iff {xs : List V} {us : List Value} (r : Vals xs us) : us = [] ↔ xs = []:=by
 cases r with
 | nil=>simp
 | cons _ _=>simp
theorem ziy : OpR X (binaryOp .Add) (yhU X.K):=by
 intro pins s σ H x y v u Q I rx ry h
 obtain ⟨a,b,xs,ys,rfl,rfl,ha,hb,hx,hz,q1,q2⟩:=h
 cases rx
 cases ry
 obtain ⟨its,r1,p1,_⟩:=I.tuple ha
 obtain ⟨its2,r2,p2,_⟩:=I.tuple hb
 refine HT.cat_tup p1 p2 (fun z=>hx (r1.nil_iff.mp z)) (fun z=>⟨.ref a,H,I,rfl,q1 (r2.nil_iff.mp z)⟩) (fun z=>?_) (by rw [<- r1.length,<- r2.length]; exact hz)
 refine ⟨.ref s.heap.objs.size,_,I.laid (t' := s.toks) (o:=.tup (xs++ys)) (fun b ob q=>Heap.get?_push_of_some _ q) (Nat.le_refl _) ?_,rfl,q2 (fun w=>z (r2.nil_iff.mpr w)) _ (I.hok.fresh (Nat.le_refl _))⟩
 exact ⟨by rw [List.length_append]; exact hz,_,r1.append r2,IsTup.new _ _⟩
end
end L2
namespace L2
open PySem PySem.Spec PyProof.Rows
def ixN (n : Nat) (i : Int) : Option Nat:=if 0 <= i then (if i < n then some i.toNat else none) else if -(n : Int) <= i then some (i + n).toNat else none
def atI {α : Type} (xs : List α) (i : Int) : Option α:=(ixN xs.length i).bind fun j=>xs[j]?
theorem zfg {n : Nat} {i : Int} {j : Nat} (h : ixN n i = some j) : seqIndex? i n = some j /\ j < n /\ -(n : Int) <= i /\ i < n:=by
 unfold ixN at h
 by_cases h0 : 0 <= i
 ·rw [if_pos h0] at h
  by_cases h1 : i < n
  ·rw [if_pos h1] at h
   have e : i.toNat = j:=Option.some.inj h
   exact ⟨by rw [seqIndex_of h0 h1,e],by omega,by omega,h1⟩
  ·rw [if_neg h1] at h; cases h
 ·rw [if_neg h0] at h
  by_cases h1 : -(n : Int) <= i
  ·rw [if_pos h1] at h
   have e : (i + n).toNat = j:=Option.some.inj h
   exact ⟨by rw [seqIndex_neg (by omega) h1,e],by omega,h1,by omega⟩
  ·rw [if_neg h1] at h; cases h
theorem zcj {α : Type} {xs : List α} {i : Int} {v : α} (h : atI xs i = some v) : ∃ j,seqIndex? i xs.length = some j /\ xs[j]? = some v /\ j < xs.length /\ -(xs.length : Int) <= i /\ i < xs.length:=by
 unfold atI at h
 cases e : ixN xs.length i with
 | none=>rw [e] at h; cases h
 | some j =>
  rw [e] at h
  obtain ⟨h1,h2,h3,h4⟩:=zfg e
  exact ⟨j,h1,h,h2,h3,h4⟩
theorem zba {α : Type} {xs : List α} {j : Nat} {v : α} (h : xs[j]? = some v) : atI xs (j : Int) = some v:=by
 have hj : j < xs.length:=(List.getElem?_eq_some_iff.mp h).1
 have e : ixN xs.length (j : Int) = some j:=by
  unfold ixN
  rw [if_pos (by omega),if_pos (by omega)]; simp
 unfold atI; rw [e]; exact h
def ye5 (b : Expr) : Prop:=∀ o i,subscripted b false o i = operate [o,i] (getItem o i)
def IxR (X : Cx) (r : R2) : Prop :=
 ∀ (value slice : Expr) (pins : List (Addr × Obj)) (s : Shared) (σ : St) (H : Hp) (x y : V) (v u : Value) (Q : VK),Inv X pins σ H s -> RelV x v -> RelV y u -> r x y H Q ->
  subscripted slice false v u = operate [v,u] (getItem v u) -> wpAny (model X.prog X.w) X.A (subscriptTail value slice v u) (EP X pins σ Q) X.xe s
def MtR (X : Cx) (id : String) (r : V -> List V -> Hp -> VK -> Prop) : Prop :=
 ∀ (pins : List (Addr × Obj)) (s : Shared) (σ : St) (H : Hp) (x : V) (xs : List V) (v : Value) (us : List Value) (Q : VK),Inv X pins σ H s -> RelV x v -> Vals xs us -> r x xs H Q ->
  wpAny (model X.prog X.w) X.A (call (.builtin id) (v :: us)) (EP X pins σ Q) X.xe s
section
variable {X : Cx} {a b : Expr} {ta tb : TE} {pos : Pos}
theorem IxR.or {r r' : R2} (h : IxR X r) (h' : IxR X r') : IxR X (fun x y H Q=>r x y H Q \/ r' x y H Q):=by
 intro value slice pins s σ H x y v u Q I rx ry q hs
 rcases q with q | q
 ·exact h value slice pins s σ H x y v u Q I rx ry q hs
 ·exact h' value slice pins s σ H x y v u Q I rx ry q hs
theorem yhV {r : R2} (hr : IxR X r) (ha : PE X a ta) (hb : PE X b tb) (hs : ye5 b) : PE X (.Subscript a b pos) (tOp r ta tb):=by
 intro pins s σ H Q I h
 exact Subscript_ (binT ha hb I h fun v u s2 x y H2 I2 rx ry q=>hr a b pins s2 σ H2 x y v u Q I2 rx ry q (hs _ _))
def rIxL (K : PySem.W.Frag) : R2:=fun x y H Q=>∃ p xs i v,x = .ref p /\ y = .int i /\ SqL K H p xs /\ atI xs i = some v /\ Q v H
def rIxT (K : PySem.W.Frag) : R2:=fun x y H Q=>∃ p xs i v,x = .ref p /\ y = .int i /\ SqT K H p xs /\ atI xs i = some v /\ Q v H
def rIxS : R2:=fun x y H Q=>∃ z i c,x = .str z /\ y = .int i /\ z.length <= sizeLine /\ atI z.cps.toList i = some c /\ Q (.str ⟨#[c]⟩) H
theorem ziz : IxR X (rIxL X.K):=by
 intro value slice pins s σ H x y v u Q I rx ry h hs
 obtain ⟨p,xs,i,z,rfl,rfl,hq,he,q⟩:=h
 cases rx
 obtain ⟨t,rfl⟩:=ry
 obtain ⟨its,r,pl,hz⟩:=I.list hq
 obtain ⟨j,h1,h2,h3,h4,h5⟩:=zcj he
 obtain ⟨w,ew,rw'⟩:=r.get h2
 have hl:=r.length
 have hn:=ydn
 have fin : EP X pins σ Q w s:=⟨z,H,I,rw',q⟩
 by_cases h0 : 0 <= i
 ·have hj : i.toNat = j:=by
   rw [seqIndex_of h0 h5] at h1
   exact Option.some.inj h1
  exact item_listR pl.isList h0 (by omega) (by rw [hj]; simpa using ew) fin hs
 ·have hj : (i + (its.toArray.size : Int)).toNat = j:=by
   rw [seqIndex_neg (by omega) h4] at h1
   rw [List.size_toArray,<- hl]
   exact Option.some.inj h1
  exact subscriptTail_builtinR (x:=w) pl.isList.typeIs slot_list_getitem.lookup
   (wpAny_getItem_list_neg (Q:=fun r s' => r = w /\ EP X pins σ Q r s') pl.isList (by omega) (by rw [List.size_toArray]<;>omega) (by omega) (by rw [hj]; simpa using ew) ⟨rfl,fin⟩) hs
theorem ix_tup : IxR X (rIxT X.K):=by
 intro value slice pins s σ H x y v u Q I rx ry h hs
 obtain ⟨p,xs,i,z,rfl,rfl,hq,he,q⟩:=h
 cases rx
 obtain ⟨t,rfl⟩:=ry
 obtain ⟨its,r,pl,hz⟩:=I.tuple hq
 obtain ⟨j,h1,h2,h3,h4,h5⟩:=zcj he
 obtain ⟨w,ew,rw'⟩:=r.get h2
 have hl:=r.length
 have hn:=ydn
 have fin : EP X pins σ Q w s:=⟨z,H,I,rw',q⟩
 exact subscriptTail_builtinR (x:=w) pl.typeIs slot_tuple_getitem.lookup
  (getItem_tuple (j:=j) (Q:=fun r s' => r = w /\ EP X pins σ Q r s') pl (by omega) (by omega) (by rw [List.size_toArray,<- hl]; exact h1) (by simpa using ew) ⟨rfl,fin⟩) hs
theorem ygO : IxR X rIxS:=by
 intro value slice pins s σ H x y v u Q I rx ry h hs
 obtain ⟨z,i,c,rfl,rfl,hz,he,q⟩:=h
 obtain ⟨t,rfl⟩:=rx
 obtain ⟨t',rfl⟩:=ry
 obtain ⟨j,h1,h2,h3,h4,h5⟩:=zcj he
 have hl : z.cps.toList.length = z.length:=by simp [Str.length]
 rw [hl] at h1 h4 h5
 have hn:=ydn
 exact tail_any (typeIs_str s z t) slot_str_getitem.lookup (getItem_str (c:=c) (by
  have e1 : decide (i < -(2 ^ 63 : Int)) = false:=decide_eq_false (by omega)
  have e2 : decide (i ≥ 2 ^ 63) = false:=decide_eq_false (by omega)
  rw [e1,e2,Bool.or_false]) (by rw [h1]; simpa using h2) ⟨.str ⟨#[c]⟩,H,I.tok _,⟨_,rfl⟩,q⟩) hs
def rIx (K : PySem.W.Frag) : R2:=fun x y H Q=>rIxL K x y H Q \/ rIxT K x y H Q \/ rIxS x y H Q
theorem ygP : IxR X (rIx X.K):=ziz.or (ix_tup.or ygO)
theorem zgf (its : List Value) (n j : Nat) (u : Value) : Obj.mapSeq (·.setIfInBounds j u) { cls:=.type "list",data:=.seq its.toArray n } = { cls:=.type "list",data:=.seq (its.set j u).toArray n }:=by
 simp [Obj.mapSeq]
theorem Inv.lst {pins : List (Addr × Obj)} {σ : St} {H : Hp} {s : Shared} {p : Addr} {xs : List V} (I : Inv X pins σ H s) (h : H p = some (.lst xs)) :
  ∃ (its : List Value) (n : Nat),Vals xs its /\ s.heap.get? p = some { cls:=.type "list",data:=.seq its.toArray n } /\ xs.length <= sizeLine:=by
 obtain ⟨z,its,n,r,e⟩:=I.hok p _ h
 exact ⟨its,n,r,e,z⟩
theorem Inv.lstUpd {pins : List (Addr × Obj)} {σ : St} {H : Hp} {s : Shared} {p : Addr} {xs ys : List V} {its its' : List Value} {n n' : Nat} {f : Obj -> Obj} (I : Inv X pins σ H s) (h : H p = some (.lst xs))
  (ho : s.heap.get? p = some { cls:=.type "list",data:=.seq its.toArray n }) (hf : f { cls:=.type "list",data:=.seq its.toArray n } = { cls:=.type "list",data:=.seq its'.toArray n' }) (r : Vals ys its') (hz : ys.length <= sizeLine) (t : Nat) :
  Inv X pins σ (upd H p (.lst ys)) { s with heap:=s.heap.update p f,toks:=t }:=by
 have e : (s.heap.update p f).get? p = some { cls:=.type "list",data:=.seq its'.toArray n' }:=by
  rw [Heap.get?_update_self f ho (by rw [hf]<;>rfl),hf]
 refine I.write (x:=p) (e:=p) (by rw [h]; trivial) (.inl rfl) (fun b u hb q=>(Heap.get?_update_other _ _ (Ne.symm hb)).trans q) ⟨_,e⟩ ?_
 exact ⟨hz,its',n',r,e⟩
def yhW : V -> V -> V -> Hp -> (Hp -> Prop) -> Prop:=fun o i v H Q=>∃ p xs k j,o = .ref p /\ i = .int k /\ H p = some (.lst xs) /\ ixN xs.length k = some j /\ Q (upd H p (.lst (xs.set j v)))
theorem zht : PSet X yhW:=by
 intro pins s σ H o i v ov iv u Q I ro ri rv h
 obtain ⟨p,xs,k,j,rfl,rfl,hp,hj,q⟩:=h
 cases ro
 obtain ⟨t,rfl⟩:=ri
 obtain ⟨its,n,r,ho,hz⟩:=I.lst hp
 obtain ⟨h1,h2,h3,h4⟩:=zfg hj
 have hl:=r.length
 have hn:=ydn
 have I' : Inv X pins σ (upd H p (.lst (xs.set j v))) { s with heap:=s.heap.update p (Obj.mapSeq (·.setIfInBounds j u)) } :=
  I.lstUpd hp ho (zgf its n j u) (r.set rv j) (by rw [List.length_set]; exact hz) s.toks
 by_cases h0 : 0 <= k
 ·have hk : k.toNat = j:=by
   rw [seqIndex_of h0 h4] at h1
   exact Option.some.inj h1
  exact PySem.W.ki_setAt ho h0 (by omega) (by rw [List.size_toArray,<- hl]; exact h4) (by rw [hk]; exact ⟨_,I',q⟩)
 ·have hk : (k + (its.toArray.size : Int)).toNat = j:=by
   rw [seqIndex_neg (by omega) h3] at h1
   rw [List.size_toArray,<- hl]
   exact Option.some.inj h1
  exact PySem.W.ki_setBack ho (by omega) (by rw [List.size_toArray,<- hl]; exact h3) (by omega) (by rw [hk]; exact ⟨_,I',q⟩)
theorem zel (lo hi : Option Int) (n : Nat) : (sliceBounds lo hi none n).1 = ((HT.sIx n 0 lo : Nat) : Int) /\ (sliceBounds lo hi none n).2.1 = ((HT.sIx n n hi : Nat) : Int) /\ (sliceBounds lo hi none n).2.2 = 1:=by
 refine ⟨?_,?_,rfl⟩
 ·cases lo with
  | none=>simp [sliceBounds,HT.sIx]
  | some i =>
   simp only [sliceBounds,HT.sIx,Option.getD_none,show (1 : Int) > 0 by decide,if_true]
   by_cases h : i < 0
   ·simp only [h,if_true]<;>omega
   ·simp only [h,if_false]<;>omega
 ·cases hi with
  | none=>simp [sliceBounds,HT.sIx]
  | some i =>
   simp only [sliceBounds,HT.sIx,Option.getD_none,show (1 : Int) > 0 by decide,if_true]
   by_cases h : i < 0
   ·simp only [h,if_true]<;>omega
   ·simp only [h,if_false]<;>omega
theorem zd6 (its : List Value) (lo hi : Option Int) : slicePick its.toArray lo hi none = ((its.drop (HT.sIx its.length 0 lo)).take (HT.sIx its.length its.length hi - HT.sIx its.length 0 lo)).toArray:=by
 obtain ⟨h1,h2,h3⟩:=zel lo hi its.toArray.size
 unfold slicePick
 rw [h1,h2,h3]
 simp only [sliceRange_one,pick_run,List.size_toArray]<;>rfl
def rSlL (K : PySem.W.Frag) : V -> Option Int -> Option Int -> Hp -> VK -> Prop:=fun x lo hi H Q=>∃ a xs,x = .ref a /\ SqL K H a xs /\ ∀ p,H p = none -> Q (.ref p) (upd H p (.lst (cutV xs lo hi)))
theorem ziA : SlR X (rSlL X.K):=by
 intro pins s σ H x v vl vu lo hi sl Q I rx hs pl pu h
 obtain ⟨a,xs,rfl,hx,q⟩:=h
 cases rx
 obtain ⟨its,r,ht,hz⟩:=I.list hx
 have hlen:=r.length
 refine ⟨"list",_,slot_list_getitem.lookup,ht.isList.typeIs,?_⟩
 refine wpAny_getItem_list_slice ht.isList hs pl pu .none (by simp) ?_ (by rw [List.size_toArray]<;>omega)
 rw [zd6,<- hlen]
 refine ⟨.ref s.heap.objs.size,_,I.laid (t' := s.toks) (o:=.lst (cutV xs lo hi)) (fun b ob q=>Heap.get?_push_of_some _ q) (Nat.le_refl _) ?_,rfl,q _ (I.hok.fresh (Nat.le_refl _))⟩
 exact ⟨Nat.le_trans (zcA xs lo hi) hz,_,0,(r.drop (HT.sIx xs.length 0 lo)).take (HT.sIx xs.length xs.length hi - HT.sIx xs.length 0 lo),Heap.get?_push_size _ rfl⟩
theorem zem : OpR X (compareOp .NotIn) (fun x y H Q=>∃ i j,x = .str i /\ y = .str j /\ Q (.bl (!(!(Builtin.Str.occurrences j i 0 j.length 1).isEmpty))) H):=by
 intro pins s σ H x y v u Q I rx ry h
 obtain ⟨i,j,rfl,rfl,q⟩:=h
 obtain ⟨t,rfl⟩:=rx
 obtain ⟨t',rfl⟩:=ry
 exact notIn_str ⟨.bl _,H,I,rfl,q⟩
theorem zen : CallR X (.builtin "len") (fun xs H Q=>∃ p ys,xs = [.ref p] /\ (SqL X.K H p ys \/ SqT X.K H p ys) /\ Q (.int ys.length) H):=by
 intro pins s σ H xs us Q I r h
 obtain ⟨p,ys,rfl,hq,q⟩:=h
 obtain ⟨u,rfl,rx⟩:=ydQ r
 cases rx
 have hn:=ydn
 rcases hq with hq | hq
 ·obtain ⟨its,r',pl,hz⟩:=I.list hq
  have hlen:=r'.length
  exact Calls.call_len_list pl.isList (by simp only [List.size_toArray]<;>omega) ⟨.int ys.length,H,I.tok _,⟨s.toks + 1,by rw [List.size_toArray,hlen]⟩,q⟩
 ·obtain ⟨its,r',pl,hz⟩:=I.tuple hq
  have hlen:=r'.length
  exact len_tuple pl (by simp only [List.size_toArray]<;>omega) ⟨.int ys.length,H,I.tok _,⟨s.toks + 1,by rw [List.size_toArray,hlen]⟩,q⟩
theorem zeo : CallR X (.builtin "len") (fun xs H Q=>∃ z,xs = [.str z] /\ z.length <= sizeLine /\ Q (.int z.length) H):=by
 intro pins s σ H xs us Q I r h
 obtain ⟨z,rfl,hz,q⟩:=h
 obtain ⟨u,rfl,t,rfl⟩:=ydQ r
 have hn:=ydn
 exact len_str (by omega) ⟨.int z.length,H,I.tok _,⟨_,rfl⟩,q⟩
theorem CallR.or {f : Value} {r r' : List V -> Hp -> VK -> Prop} (h : CallR X f r) (h' : CallR X f r') : CallR X f (fun xs H Q=>r xs H Q \/ r' xs H Q):=by
 intro pins s σ H xs us Q I rs q
 rcases q with q | q
 ·exact h pins s σ H xs us Q I rs q
 ·exact h' pins s σ H xs us Q I rs q
def tyV (K : PySem.W.Frag) (T : String) (x : V) (H : Hp) : Prop:=match x with
 | .str _=>T = "str"
 | .int _=>T = "int"
 | .ref p=>(T = "list" /\ ∃ xs,SqL K H p xs) \/ (T = "tuple" /\ ∃ o,K.lookup p = some o /\ o.cls = .type "tuple" /\ o.dict = none) \/
   (T = "dict" /\ ((∃ kvs,H p = some (.dK kvs)) \/ ∃ kvs,H p = some (.dT kvs))) \/ (T = "set" /\ ∃ S n,H p = some (.set S n))
 | _=>False
theorem yfn {pins : List (Addr × Obj)} {σ : St} {H : Hp} {s : Shared} {T : String} {x : V} {v : Value} (I : Inv X pins σ H s) (r : RelV x v) (ty : tyV X.K T x H) :
  s.TypeIs v T /\ ∀ a,v = .ref a -> ∃ ob,s.heap.get? a = some ob /\ ob.dict = none:=by
 cases x with
 | str z =>
  obtain ⟨t,rfl⟩:=r
  cases (show T = "str" from ty)
  exact ⟨typeIs_str s z t,fun _ e=>nomatch e⟩
 | int i =>
  obtain ⟨t,rfl⟩:=r
  cases (show T = "int" from ty)
  exact ⟨typeIs_int s i t,fun _ e=>nomatch e⟩
 | ref p =>
  cases r
  rcases ty with ⟨rfl,xs,hq⟩ | ⟨rfl,o,hk,hc,hd⟩ | ⟨rfl,hk⟩ | ⟨rfl,S,n,hk⟩
  ·obtain ⟨its,_,pl,_⟩:=I.list hq
   refine ⟨pl.isList.typeIs,fun a e=>?_⟩
   cases e
   obtain ⟨o,n,e,c,hd,_⟩:=pl
   exact ⟨o,e,hd⟩
  ·refine ⟨⟨o,I.kIn p o hk,hc⟩,fun a e=>?_⟩
   cases e
   exact ⟨o,I.kIn _ o hk,hd⟩
  ·have z : ∃ o,s.heap.get? p = some o /\ o.ExactDict:=by
    rcases hk with ⟨kvs,hk⟩ | ⟨kvs,hk⟩
    ·obtain ⟨_,_,_,_,o,_,_,e,ex,_⟩:=I.hok p _ hk
     exact ⟨o,e,ex⟩
    ·obtain ⟨_,_,_,_,o,_,_,e,ex,_⟩:=I.hok p _ hk
     exact ⟨o,e,ex⟩
   obtain ⟨o,e,ex⟩:=z
   refine ⟨⟨o,e,ex.1⟩,fun a e2=>?_⟩
   cases e2
   exact ⟨o,e,ex.2.1⟩
  ·obtain ⟨o,_,_,_,e,ex,_⟩:=I.hok p _ hk
   refine ⟨⟨o,e,ex.1⟩,fun a e2=>?_⟩
   cases e2
   exact ⟨o,e,ex.2.1⟩
 | _=>exact False.elim ty
def tBM0 (K : PySem.W.Frag) (T : String) (r : V -> List V -> Hp -> VK -> Prop) (to : TE) : TE:=fun σ H Q=>to σ H fun x H1=>tyV K T x H1 /\ r x [] H1 Q
def tBM (K : PySem.W.Frag) (T : String) (r : V -> List V -> Hp -> VK -> Prop) (to : TE) (t : TA) : TE:=fun σ H Q=>to σ H fun x H1=>tyV K T x H1 /\ t σ H1 fun xs H2=>r x xs H2 Q
variable {o e : Expr} {es : List Expr} {to : TE} {t : TA} {name : Str} {apos cpos : Pos} {T id : String} {r : V -> List V -> Hp -> VK -> Prop}
theorem ygQ (pa : PlainAttrs T) (slot : Slot T name id) (hty : typeOf (.builtin id) = pure (.type "method_descriptor")) (hm : MtR X id r) (ho : PE X o to)
  (hbase : attributeBase o name X.env (eval o X.env) = eval o X.env:=by rfl) (hline : (apos.endLine == cpos.line) = true:=by rfl) : PE X (.Call (.Attribute o name apos) [] [] cpos) (tBM0 X.K T r to):=by
 intro pins s σ H Q I h
 refine wpAny_Call_method0_late hbase hline (thn (ho pins s σ H _ I h) fun v s1 ⟨x,H1,I1,r1,ty,q1⟩=>?_)
 obtain ⟨h1,h2⟩:=yfn I1 r1 ty
 exact ⟨T,id,pa,slot,hty,h1,h2,Calls.callWith_builtin rfl (PySem.evalArgs_none (hm pins s1 σ H1 x [] v [] Q I1 r1 .nil q1))⟩
theorem yhX (pa : PlainAttrs T) (slot : Slot T name id) (hty : typeOf (.builtin id) = pure (.type "method_descriptor")) (hm : MtR X id r) (ho : PE X o to) (ha : PA X (e :: es) t)
  (hbase : attributeBase o name X.env (eval o X.env) = eval o X.env:=by rfl)
  (hfew : ((backTo cpos (starEach (e :: es) X.env)).all (fun x=>!x.1) && (backToKw cpos (keywordEach [] X.env)).all (fun x=>x.1.isSome)
   && decide ((e :: es).length + ([] : List Keyword).length + (if ([] : List Keyword).isEmpty then 0 else 1) < 30)) = true:=by rfl)
  (hline : (apos.endLine == cpos.line) = true:=by rfl) (hs : starEach (e :: es) X.env = (false,eval e X.env) :: starEach es X.env:=by rfl) (hplain : (backTo cpos (starEach es X.env)).any (·.1) = false:=by rfl) :
  PE X (.Call (.Attribute o name apos) (e :: es) [] cpos) (tBM X.K T r to t):=by
 intro pins s σ H Q I h
 refine wpAny_Call_method_late hbase hfew hline rfl (thn (ho pins s σ H _ I h) fun v s1 ⟨x,H1,I1,r1,ty,q1⟩=>?_)
 obtain ⟨h1,h2⟩:=yfn I1 r1 ty
 refine ⟨T,id,pa,slot,hty,h1,h2,?_⟩
 have hA:=ha cpos pins s1 σ H1 _ I1 q1
 rw [hs] at hA ⊢
 refine Calls.callWith_builtin (by show (false || (backTo cpos (starEach es X.env)).any (·.1)) = false; rw [hplain]<;>rfl) (Calls.evalArgs_plain ?_)
 exact thn hA fun us s2 ⟨vs,H2,I2,r2,q2⟩=>hm pins s2 σ H2 x vs v us Q I2 r1 r2 q2
end
end L2
namespace L2
open PySem PySem.Spec PyProof.Rows
def MtM (X : Cx) (id : String) (r : V -> List V -> Hp -> VK -> Prop) : Prop :=
 ∀ (pins : List (Addr × Obj)) (s : Shared) (σ : St) (H : Hp) (x : V) (xs : List V) (v : Value) (us : List Value) (Q : VK),Inv X pins σ H s -> RelV x v -> Vals xs us -> r x xs H Q ->
  wpAny (model X.prog X.w) X.A (call (.builtin id) (v :: us)) (EP X pins σ Q) X.xe s
theorem Vals.one : ∀ {x : V} {us : List Value},Vals [x] us -> ∃ u,us = [u] /\ RelV x u
 | _,_,.cons r .nil=>⟨_,rfl,r⟩
theorem Vals.zero : ∀ {us : List Value},Vals [] us -> us = []
 | _,.nil=>rfl
theorem Vals.dropLast {xs : List V} {us : List Value} (h : Vals xs us) : Vals xs.dropLast us.dropLast:=by
 induction h with
 | nil=>exact .nil
 | cons r t ih =>
  cases t with
  | nil=>exact .nil
  | cons q t' => exact .cons r ih
theorem zgg {α : Type} (l : List α) : l.eraseIdx (l.length - 1) = l.dropLast:=by
 induction l with
 | nil=>rfl
 | cons a r ih =>
  cases r with
  | nil=>rfl
  | cons b r =>
   have e : (a :: b :: r).length - 1 = ((b :: r).length - 1) + 1:=by
    have h1 : (a :: b :: r).length = r.length + 2:=rfl
    have h2 : (b :: r).length = r.length + 1:=rfl
    omega
   rw [e,List.eraseIdx_cons_succ,ih]
   all_goals rfl
section
variable {X : Cx} {pins : List (Addr × Obj)} {σ : St} {H : Hp} {s : Shared} {l b : Addr} {xs ys zs : List V}
theorem Inv.lset {its its' : List Value} {n : Nat} {f : Array Value -> Array Value} {t' : Nat} (I : Inv X pins σ H s) (hH : H l = some (.lst xs))
  (e : s.heap.get? l = some { cls:=.type "list",data:=.seq its.toArray n }) (hf : f its.toArray = its'.toArray) (hv : Vals ys its') (hz : ys.length <= sizeLine) :
  Inv X pins σ (upd H l (.lst ys)) { s with heap:=s.heap.update l (Obj.mapSeq f),toks:=t' }:=by
 have q:=PySem.IsL.update e f
 rw [hf] at q
 refine I.write (x:=l) (e:=l) (by rw [hH]; exact trivial) (.inl rfl) (fun b' u hb hu=>(Heap.get?_update_other s.heap (Obj.mapSeq f) (Ne.symm hb)).trans hu) ⟨_,q⟩ ?_
 exact ⟨hz,its',_,hv,q⟩
theorem Inv.lnew {its : List Value} {t' : Nat} (I : Inv X pins σ H s) (hv : Vals ys its) (hz : ys.length <= sizeLine) :
  Inv X pins σ (upd H s.heap.objs.size (.lst ys)) { s with heap:=s.heap.push { cls:=.type "list",data:=.seq its.toArray },toks:=t' } :=
 I.laid (fun _ _ q=>Heap.get?_push_of_some _ q) (Nat.le_refl _) ⟨hz,its,0,hv,Heap.get?_push_size _ rfl⟩
theorem Inv.fresh (I : Inv X pins σ H s) : H s.heap.objs.size = none:=I.hok.fresh (Nat.le_refl _)
theorem Inv.lstM (I : Inv X pins σ H s) (hH : H l = some (.lst xs)) : xs.length <= sizeLine /\ ∃ (its : List Value) (n : Nat),Vals xs its /\ xs.length = its.length /\ s.heap.get? l = some { cls:=.type "list",data:=.seq its.toArray n }:=by
 obtain ⟨z,its,n,r,e⟩:=I.hok l _ hH
 exact ⟨z,its,n,r,r.length,e⟩
end
section
variable {X : Cx}
def ygh : V -> List V -> Hp -> VK -> Prop:=fun x vs H Q=>∃ l xs y,x = .ref l /\ vs = [y] /\ H l = some (.lst xs) /\ xs.length < sizeLine /\ Q .non (upd H l (.lst (xs++[y])))
theorem zdK : MtM X "list.append" ygh:=by
 intro pins s σ H x vs v us Q I rx rv h
 obtain ⟨l,xs,y,rfl,rfl,hH,hz,q⟩:=h
 cases rx
 obtain ⟨u,rfl,ru⟩:=rv.one
 obtain ⟨z,its,n,r,hl,e⟩:=I.lstM hH
 refine call_meets F.slot_list_append ⟨_,e,rfl⟩ F.entry_list_append (F.args_list_append_2 _ _) (PySem.list_append l its.toArray n u (by rw [List.size_toArray]; omega)) ⟨e,?_⟩
 refine ⟨.non,_,I.lset (its' := its++[u]) hH e (by simp) (r.append (.cons ru .nil)) ?_,rfl,q⟩
 rw [List.length_append,List.length_singleton]
 omega
def rPop : V -> List V -> Hp -> VK -> Prop:=fun x vs H Q=>∃ l xs y,x = .ref l /\ vs = [] /\ H l = some (.lst xs) /\ xs[xs.length - 1]? = some y /\ Q y (upd H l (.lst xs.dropLast))
theorem ygR : MtM X "list.pop" rPop:=by
 intro pins s σ H x vs v us Q I rx rv h
 obtain ⟨l,xs,y,rfl,rfl,hH,hy,q⟩:=h
 cases rx
 have hus:=rv.zero
 subst hus
 obtain ⟨z,its,n,r,hl,e⟩:=I.lstM hH
 obtain ⟨u,hu,ru⟩:=r.get hy
 have hy' : its.toArray[its.toArray.size - 1]? = some u:=by
  show its.toArray[its.length - 1]? = some u
  rw [<- Array.getElem?_toList,<- hl]
  exact hu
 refine call_meets F.slot_list_pop ⟨_,e,rfl⟩ F.entry_list_pop (F.args_list_pop_1 _) (MeetsSeq.list_pop_last l its.toArray n u hy' (by rw [List.size_toArray]; omega)) ⟨e,?_⟩
 refine ⟨y,_,I.lset (its' := its.dropLast) hH e ?_ r.dropLast ?_,ru,q⟩
 ·show its.toArray.eraseIdxIfInBounds (its.toArray.size - 1) = its.dropLast.toArray
  rw [List.size_toArray,List.eraseIdxIfInBounds_toArray,zgg]
 ·rw [List.length_dropLast]
  omega
end
section
variable {prog : Program} {w : World} {A : Around} {E : Value -> Shared -> Prop} {s : Shared}
end
section
variable {X : Cx}
end
end L2
namespace L2
open PySem PySem.Spec PyProof.Rows
section
variable {κ : Type} [DecidableEq κ]
def valV (kvs : List (κ × V)) (k : κ) : Option V:=(kvs.find? fun kv=>decide (kv.1 = k)).map (·.2)
def putK (kvs : List (κ × V)) (k : κ) (v : V) : List (κ × V) :=
 if (kvs.any fun kv=>decide (kv.1 = k)) = true then kvs.map (fun kv=>if kv.1 = k then (kv.1,v) else kv) else kvs++[(k,v)]
theorem zbJ {p : κ × V} {r : List (κ × V)} {k : κ} (e : p.1 = k) : valV (p :: r) k = some p.2:=by simp [valV,List.find?_cons,e]
theorem zbe {p : κ × V} {r : List (κ × V)} {k : κ} (e : ¬ p.1 = k) : valV (p :: r) k = valV r k:=by simp [valV,List.find?_cons,e]
theorem zcI (k : κ) : ∀ kvs : List (κ × V),(kvs.any fun kv=>decide (kv.1 = k)) = (valV kvs k).isSome
 | []=>rfl
 | p :: r=>by
  rw [List.any_cons]
  by_cases e : p.1 = k
  ·simp only [zbJ e,decide_eq_true e,Bool.true_or,Option.isSome_some]
  ·rw [zbe e,decide_eq_false e,Bool.false_or]; exact zcI k r
theorem zcB (kvs : List (κ × V)) (k : κ) (v : V) : (putK kvs k v).length <= kvs.length + 1:=by
 unfold putK
 split
 ·rw [List.length_map]; omega
 ·rw [List.length_append,List.length_cons,List.length_nil]; omega
theorem RelO.isSome_eq {o : Option V} {u : Option Value} (r : RelO o u) : o.isSome = u.isSome:=by
 cases o with
 | none=>cases u with
  | none=>rfl
  | some _=>exact (show False from r).elim
 | some _=>cases u with
  | none=>exact (show False from r).elim
  | some _=>rfl
theorem KV.val {kvs : List (κ × V)} {vs : List (κ × Value)} (r : KV kvs vs) (k : κ) : RelO (valV kvs k) (valueAt vs k):=by
 unfold KV at r
 induction r with
 | nil=>exact True.intro
 | @cons p q ps qs h t ih =>
  obtain ⟨h1,h2⟩:=h
  by_cases e : p.1 = k
  ·have e' : q.1 = k:=h1.symm.trans e
   have b : valueAt (q :: qs) k = some q.2:=by simp [valueAt,List.find?_cons,e']
   rw [zbJ e,b]; exact h2
  ·have e' : ¬ q.1 = k:=fun z=>e (h1.trans z)
   have b : valueAt (q :: qs) k = valueAt qs k:=by simp [valueAt,List.find?_cons,e']
   rw [zbe e,b]; exact ih
theorem KV.any {kvs : List (κ × V)} {vs : List (κ × Value)} (r : KV kvs vs) (k : κ) : (kvs.any fun kv=>decide (kv.1 = k)) = vs.any fun kv=>decide (kv.1 = k):=by
 unfold KV at r
 induction r with
 | nil=>rfl
 | cons h t ih=>rw [List.any_cons,List.any_cons,ih,h.1]
theorem KV.repl {kvs : List (κ × V)} {vs : List (κ × Value)} (r : KV kvs vs) (k : κ) {y : V} {u : Value} (ry : RelV y u) :
  KV (kvs.map fun kv=>if kv.1 = k then (kv.1,y) else kv) (vs.map fun kv=>if kv.1 = k then (kv.1,u) else kv):=by
 unfold KV at r ⊢
 induction r with
 | nil=>exact .nil
 | @cons p q ps qs h t ih =>
  rw [List.map_cons,List.map_cons]
  refine .cons ?_ ih
  obtain ⟨h1,h2⟩:=h
  by_cases e : p.1 = k
  ·rw [if_pos e,if_pos (h1.symm.trans e)]; exact ⟨h1,ry⟩
  ·rw [if_neg e,if_neg (fun z=>e (h1.trans z))]; exact ⟨h1,h2⟩
theorem KV.put {kvs : List (κ × V)} {vs : List (κ × Value)} (r : KV kvs vs) (k : κ) {y : V} {u : Value} (ry : RelV y u) : KV (putK kvs k y) (stored vs k u):=by
 unfold putK stored
 rw [r.any k]
 by_cases e : (vs.any fun kv=>decide (kv.1 = k)) = true
 ·rw [if_pos e,if_pos e]; exact r.repl k ry
 ·rw [if_neg e,if_neg e]; exact Paired.snoc r ⟨rfl,ry⟩
theorem KV.length {kvs : List (κ × V)} {vs : List (κ × Value)} (r : KV kvs vs) : kvs.length = vs.length:=Paired.length r
end
theorem ye7 {P : Program} {w : World} {k : Key} {u : Value} (r : RelV (kV k) u) : (ybw P w).is k u = true:=by
 cases k with
 | inl i=>obtain ⟨t,e⟩:=(show ∃ t,u = Value.int i t from r); subst e; exact zcx P w i t
 | inr x=>obtain ⟨t,e⟩:=(show ∃ t,u = Value.str x t from r); subst e; exact zcy P w x t
theorem ygS {P : Program} {w : World} {y : V} {k : Key} {u : Value} (e : kOf y = some k) (r : RelV y u) : (ybw P w).is k u = true:=by
 cases y with
 | int i=>cases e; obtain ⟨t,e⟩:=(show ∃ t,u = Value.int i t from r); subst e; exact zcx P w i t
 | str x=>cases e; obtain ⟨t,e⟩:=(show ∃ t,u = Value.str x t from r); subst e; exact zcy P w x t
 | bl b=>cases e; cases (show u = Value.bool b from r); exact decide_eq_true rfl
 | _=>cases e
theorem zdL {P : Program} {w : World} : ∀ {ys : List V} {ks : List Key} {us : List Value},ys.map kOf = ks.map some -> Vals ys us -> ItemsAre (ybw P w) ks us
 | [],[],_,_,r=>by cases r; exact .nil
 | [],_ :: _,_,e,_=>by simp at e
 | _ :: _,[],_,e,_=>by simp at e
 | y :: ys,k :: ks,_,e,r=>by
  rw [List.map_cons,List.map_cons] at e
  injection e with e1 e2
  cases r with
  | cons h t=>exact .cons (ygS e1 h) (zdL e2 t)
def KTup (H : Hp) (b : Addr) (k : List Key) : Prop:=∃ ys,H b = some (.tup ys) /\ ys.map kOf = k.map some
theorem KTup.of {H : Hp} {b : Addr} {k : List Key} (e : H b = some (.tup (k.map kV))) : KTup H b k:=⟨_,e,by rw [List.map_map]; exact List.map_congr_left fun x _=>ygl x⟩
abbrev KT (H : Hp) : List (List Key × V) -> List (List Key × Addr × Value) -> Prop:=Paired fun p q=>p.1 = q.1 /\ (∃ ys,H q.2.1 = some (.tup ys) /\ ys.map kOf = p.1.map some) /\ RelV p.2 q.2.2
theorem KT.val {H : Hp} {kvs : List (List Key × V)} {xs : List (List Key × Addr × Value)} (r : KT H kvs xs) (k : List Key) : RelO (valV kvs k) ((atKey xs k).map (·.2)):=by
 induction r with
 | nil=>exact True.intro
 | @cons p q ps qs h t ih =>
  obtain ⟨h1,_,h2⟩:=h
  by_cases e : p.1 = k
  ·have e' : q.1 = k:=h1.symm.trans e
   have b : atKey (q :: qs) k = some q.2:=by simp [atKey,List.find?_cons,e']
   rw [zbJ e,b]; exact h2
  ·have e' : ¬ q.1 = k:=fun z=>e (h1.trans z)
   have b : atKey (q :: qs) k = atKey qs k:=by simp [atKey,List.find?_cons,e']
   rw [zbe e,b]; exact ih
theorem KT.repl {H : Hp} {kvs : List (List Key × V)} {xs : List (List Key × Addr × Value)} (r : KT H kvs xs) (k : List Key) {y : V} {u : Value} (ry : RelV y u) :
  KT H (kvs.map fun kv=>if kv.1 = k then (kv.1,y) else kv) (xs.map (putAt k u)):=by
 induction r with
 | nil=>exact .nil
 | @cons p q ps qs h t ih =>
  rw [List.map_cons,List.map_cons]
  refine .cons ?_ ih
  obtain ⟨h1,h2,h3⟩:=h
  unfold putAt
  by_cases e : p.1 = k
  ·rw [if_pos e,if_pos (h1.symm.trans e)]; exact ⟨h1,h2,ry⟩
  ·rw [if_neg e,if_neg (fun z=>e (h1.trans z))]; exact ⟨h1,h2,h3⟩
theorem KT.put {H : Hp} {kvs : List (List Key × V)} {xs : List (List Key × Addr × Value)} (r : KT H kvs xs) (k : List Key) {b : Addr} {y : V} {u : Value} (hb : KTup H b k) (ry : RelV y u) :
  KT H (putK kvs k y) (storedH xs k b u):=by
 have e : (kvs.any fun kv=>decide (kv.1 = k)) = (atKey xs k).isSome:=by
  rw [zcI,(r.val k).isSome_eq,Option.isSome_map]
 unfold putK storedH
 rw [e]
 by_cases q : (atKey xs k).isSome = true
 ·rw [if_pos q,if_pos q]; exact r.repl k ry
 ·rw [if_neg q,if_neg q]; exact Paired.snoc r ⟨rfl,hb,ry⟩
theorem KT.keeps {H H' : Hp} {kvs : List (List Key × V)} {xs : List (List Key × Addr × Value)} (r : KT H kvs xs) (ht : ∀ b ys,H b = some (.tup ys) -> H' b = some (.tup ys)) : KT H' kvs xs :=
 Paired.mapP r fun _ _ z=>⟨z.1,z.2.1.imp fun _ e=>⟨ht _ _ e.1,e.2⟩,z.2.2⟩
section
variable {P : Program} {w : World} {H : Hp} {h : Heap} {a : Addr}
theorem yf0 {u : HO} (ok : HOk P w H h) (e : Rd H a u) : ObjOk P w H h a u:=e.ok ok
theorem yej {kvs : List (Key × V)} (ok : HOk P w H h) (e : Rd H a (.dK kvs)) : kvs.length <= sizeLine /\ (a == sysModules) = false /\ ∃ vs,KV kvs vs /\ h.DictOf (ybw P w) a vs :=
 show ObjOk P w H h a (.dK kvs) from yf0 ok e
theorem yhY {kvs : List (Key × V)} (ok : HOk P w H h) (e : H a = some (.dK kvs)) : kvs.length <= sizeLine /\ (a == sysModules) = false /\ ∃ vs,KV kvs vs /\ h.DictOf (ybw P w) a vs:=yej ok (.inl e)
theorem yek {ks : List Key} (ok : HOk P w H h) (e : KTup H a ks) : (tupleKind (ybw P w)).is h ks a:=by
 obtain ⟨ys,e,ek⟩:=e
 obtain ⟨_,its,r,o,h1,h2,n,h3⟩:=(show ObjOk P w H h a (.tup ys) from ok a _ e)
 exact ⟨o,its.toArray,n,h1,h2,h3,by simpa using zdL ek r⟩
theorem yeG {kvs : List (List Key × V)} (ok : HOk P w H h) (e : Rd H a (.dT kvs)) : kvs.length <= sizeLine /\ (a == sysModules) = false /\
  ∃ xs,KT H kvs xs /\ h.DictOfH (tupleKind (ybw P w)) a xs:=by
 obtain ⟨z,y,xs,r,o,es,ep,h1,h2,h3,h4,h5⟩:=(show ObjOk P w H h a (.dT kvs) from yf0 ok e)
 refine ⟨z,y,xs,r,o,es,ep,h1,h2,h3,h4,fun x hx=>?_,h5⟩
 have all : ∀ {l : List (List Key × V)} {m : List (List Key × Addr × Value)},KT H l m -> ∀ x ∈ m,(tupleKind (ybw P w)).is h x.1 x.2.1:=by
  intro l m q
  induction q with
  | nil=>intro x hx; exact nomatch hx
  | @cons p q ps qs hq t ih =>
   intro x hx
   rcases List.mem_cons.mp hx with e | hx
   ·subst e
    exact yek ok (by rw [<- hq.1]; exact hq.2.1)
   ·exact ih x hx
 exact all r x hx
theorem yhZ {kvs : List (List Key × V)} (ok : HOk P w H h) (e : H a = some (.dT kvs)) : kvs.length <= sizeLine /\ (a == sysModules) = false /\
  ∃ xs,KT H kvs xs /\ h.DictOfH (tupleKind (ybw P w)) a xs:=yeG ok (.inl e)
end
def DGet (H : Hp) (a : Addr) (y : V) (r : Option V) : Prop :=
 (∃ kvs k,Rd H a (.dK kvs) /\ y = kV k /\ r = valV kvs k) \/ ∃ kvs k b,Rd H a (.dT kvs) /\ y = .ref b /\ KTup H b k /\ r = valV kvs k
def DPut (H : Hp) (a : Addr) (y v : V) (H' : Hp) : Prop :=
 (∃ kvs k,H a = some (.dK kvs) /\ y = kV k /\ kvs.length < sizeLine /\ H' = upd H a (.dK (putK kvs k v))) \/
 ∃ kvs k b,H a = some (.dT kvs) /\ y = .ref b /\ KTup H b k /\ kvs.length < sizeLine /\ H' = upd H a (.dT (putK kvs k v))
theorem DGet.k {H : Hp} {a : Addr} {kvs : List (Key × V)} {k : Key} (e : H a = some (.dK kvs)) : DGet H a (kV k) (valV kvs k):=.inl ⟨kvs,k,.inl e,rfl,rfl⟩
theorem DGet.t {H : Hp} {a b : Addr} {kvs : List (List Key × V)} {k : List Key} (e : H a = some (.dT kvs)) (eb : KTup H b k) : DGet H a (.ref b) (valV kvs k):=.inr ⟨kvs,k,b,.inl e,rfl,eb,rfl⟩
theorem DPut.k {H : Hp} {a : Addr} {kvs : List (Key × V)} {k : Key} {v : V} (e : H a = some (.dK kvs)) (hl : kvs.length < sizeLine) : DPut H a (kV k) v (upd H a (.dK (putK kvs k v))):=.inl ⟨kvs,k,e,rfl,hl,rfl⟩
theorem DPut.t {H : Hp} {a b : Addr} {kvs : List (List Key × V)} {k : List Key} {v : V} (e : H a = some (.dT kvs)) (eb : KTup H b k) (hl : kvs.length < sizeLine) :
  DPut H a (.ref b) v (upd H a (.dT (putK kvs k v))):=.inr ⟨kvs,k,b,e,rfl,eb,hl,rfl⟩
section
variable {X : Cx} {pins : List (Addr × Obj)} {σ : St} {H : Hp} {s : Shared} {a : Addr} {y v : V} {u r : Value} {o : Option V} {A : Around} {E : Value -> Shared -> Prop}
theorem Inv.big (I : Inv X pins σ H s) : sysModules < s.heap.objs.size:=by
 have h : mainGlobals < s.heap.objs.size:=(I.mod.glob.keeps I.bk).lt
 exact Nat.lt_trans (by decide) h
theorem zgJ {Q : Value -> Shared -> Prop} (hu : A.units + 1 < cLine) (I : Inv X pins σ H s) (g : DGet H a y (some v)) (ry : RelV y u) (h : ∀ w' s',Inv X pins σ H s' -> RelV v w' -> Q w' s') :
  wpAny (model X.prog X.w) A (getItem (.ref a) u) Q E s:=by
 rcases g with ⟨kvs,k,e,ey,l⟩ | ⟨kvs,k,b,e,ey,eb,l⟩
 ·subst ey
  obtain ⟨z,hd,vs,rel,dd⟩:=yej I.hok e
  obtain ⟨w',hw,rw'⟩:=RelO.some_of (v:=v) (o:=valueAt vs k) (by rw [l]; exact rel.val k)
  exact wpAny_getItem_of (ye7 ry) dd.mapOf hw (h w' _ (I.tok _) rw')
 ·subst ey
  cases (show u = Value.ref b from ry)
  obtain ⟨z,hd,xs,rel,dd⟩:=yeG I.hok e
  obtain ⟨w',hw,rw'⟩:=RelO.some_of (v:=v) (o:=(atKey xs k).map (·.2)) (by rw [l]; exact rel.val k)
  obtain ⟨p,hp,hp2⟩:=Option.map_eq_some_iff.mp hw
  refine wpAny_getItem_heap (tupleKind_room_in1 hu) (yek I.hok eb) dd hp ?_
  rw [hp2]
  exact h w' _ (I.tok _) rw'
theorem ziB {Q : Value -> Shared -> Prop} (hu : A.units + 1 < cLine) (I : Inv X pins σ H s) (g : DGet H a y o) (ry : RelV y u) (h : ∀ s',Inv X pins σ H s' -> Q (.bool (!o.isSome)) s') :
  wpAny (model X.prog X.w) A (compareOp .NotIn u (.ref a)) Q E s:=by
 rcases g with ⟨kvs,k,e,ey,l⟩ | ⟨kvs,k,b,e,ey,eb,l⟩
 ·subst ey
  obtain ⟨z,hd,vs,rel,dd⟩:=yej I.hok e
  refine wpAny_notIn_of (ye7 ry) hd dd.mapOf ?_
  rw [<- (rel.val k).isSome_eq,<- l]
  exact h _ (I.tok _)
 ·subst ey
  cases (show u = Value.ref b from ry)
  obtain ⟨z,hd,xs,rel,dd⟩:=yeG I.hok e
  refine wpAny_notIn_heap (tupleKind_room_in1 hu) (yek I.hok eb) hd dd ?_
  have q:=(rel.val k).isSome_eq
  rw [Option.isSome_map] at q
  rw [<- q,<- l]
  exact h _ (I.tok _)
theorem zfh {h' : Heap} {t' : Nat} {ob : HO} (I : Inv X pins σ H s) (mu : Mut (H a)) (hs : Heap.SameBut a s.heap h') (he : ∃ q,h'.get? a = some q) (new : ObjOk X.prog X.w (upd H a ob) h' a ob) :
  Inv X pins σ (upd H a ob) { s with heap:=h',toks:=t' } :=
 I.write (x:=a) (e:=a) mu (.inl rfl) (fun b q hb z=>(hs.2 b hb).trans z) he new
theorem ygT {P : Program} {w : World} {H' : Hp} {h' : Heap} {kvs : List (Key × V)} {vs : List (Key × Value)} (z : kvs.length <= sizeLine) (hd : (a == sysModules) = false) (rel : KV kvs vs) (dd : h'.DictOf (ybw P w) a vs) :
  ObjOk P w H' h' a (.dK kvs):=⟨z,hd,vs,rel,dd⟩
theorem zgK {H' : Hp} {Q : Unit -> Shared -> Prop} (hu : A.units + 1 < cLine) (I : Inv X pins σ H s) (g : DPut H a y v H') (ry : RelV y u) (rv : RelV v r) (h : ∀ s',Inv X pins σ H' s' -> Q () s') :
  wpAny (model X.prog X.w) A (setItem (.ref a) u r) Q E s:=by
 rcases g with ⟨kvs,k,e,ey,l,eH⟩ | ⟨kvs,k,b,e,ey,eb,l,eH⟩
 ·subst ey eH
  obtain ⟨z,hd,vs,rel,dd⟩:=yhY I.hok e
  have hz : vs.length <= sizeLine:=by rw [<- rel.length]; exact z
  have hl : (putK kvs k v).length <= sizeLine:=by have:=zcB kvs k v; omega
  refine wpAny_setItem_pairs (hsz:=hz) (ye7 ry) dd fun h' dd' hs=>h _ ?_
  have he : ∃ q,h'.get? a = some q:=let ⟨q,_,_,hq,_⟩:=dd'; ⟨q,hq⟩
  exact zfh I (by rw [e]; exact True.intro) hs he (ygT hl hd (rel.put k rv) dd')
 ·subst ey eH
  cases (show u = Value.ref b from ry)
  obtain ⟨z,hd,xs,rel,dd⟩:=yhZ I.hok e
  have hz : xs.length <= sizeLine:=by rw [<- Paired.length rel]; exact z
  have hl : (putK kvs k v).length <= sizeLine:=by have:=zcB kvs k v; omega
  refine wpAny_setItem_heap (hsz:=hz) (tupleKind_room_in1 hu) (yek I.hok eb) dd fun h' dd' hs=>h _ ?_
  obtain ⟨q,es,ep,hq,h2,h3,h4,_,h5⟩:=dd'
  refine zfh I (by rw [e]; exact True.intro) hs ⟨q,hq⟩ ⟨hl,hd,_,(rel.put k eb rv).keeps fun c ys ec=>?_,q,es,ep,hq,h2,h3,h4,h5⟩
  rw [yaB (yhD ec e (fun z=>nomatch z))]
  exact ec
end
section
variable {X : Cx} {pins : List (Addr × Obj)} {σ : St} {H : Hp} {s : Shared} {a : Addr} {kvs : List (Key × V)} {k : Key} {u : Value} {A : Around} {E : Value -> Shared -> Prop}
theorem yh0 {Q : Value -> Shared -> Prop} (I : Inv X pins σ H s) (e : Rd H a (.dK kvs)) (h : ∀ t s',Inv X pins σ H s' -> Q (.int kvs.length t) s') : wpAny (model X.prog X.w) A (call (.builtin "len") [.ref a]) Q E s:=by
 obtain ⟨z,hd,vs,rel,dd⟩:=yej I.hok e
 refine call_len_dict hd dd (by rw [<- rel.length]; rw [sizeLine_eq] at z; omega) ?_
 rw [<- rel.length]
 exact h _ _ (I.tok _)
end
def NoSl (i : Expr) : Prop:=∀ ov iv,subscripted i false ov iv = operate [ov,iv] (getItem ov iv)
theorem ziC {prog : Program} {w : World} {A : Around} {E : Value -> Shared -> Prop} {s : Shared} {env : Env} {value slice : Expr} {pos : Pos} {T id : String} {Q : Value -> Shared -> Prop}
  (hl : typeLookup (.type T) "__getitem__" = pure (some (.builtin id))) (hs : NoSl slice)
  (h : wpAny (model prog w) A (eval value env) (fun o s₁=>wpAny (model prog w) A (eval slice env) (fun i s₂=>s₂.TypeIs o T /\ wpAny (model prog w) A (getItem o i) Q E s₂) E s₁) E s) :
  wpAny (model prog w) A (eval (.Subscript value slice pos) env) Q E s:=by
 refine Subscript_ (wpAny_mono h (fun o s₁ h₁=>wpAny_mono h₁ (fun i s₂ h₂=>?_) fun _ _ x=>x) fun _ _ x=>x)
 obtain ⟨hT,h₂⟩:=h₂
 unfold subscriptTail
 refine wpAny_bind ?_
 rw [getitemInPython_of_ne hT.not_modules]
 refine wpAny_bind (wpAny_specialOf hT hl ?_)
 have fin : wpAny (model prog w) A (subscripted slice false o i) (fun r s₃=>wpAny (model prog w) A (letTemporaryGo value o r >>= fun _=>pure r) Q E s₃) E s₂:=by
  rw [hs o i]
  exact wpAny_operating (wpAny_mono h₂ (fun r s₃ h₃=>wpAny_bind (wpAny_letTemporaryGo (wpAny_pure h₃))) fun _ _ x=>x)
 first
  | exact wpAny_pure (wpAny_bind fin)
  | exact wpAny_bind (wpAny_pure (wpAny_bind fin))
  | exact wpAny_bind fin
theorem zeV {X : Cx} {pins : List (Addr × Obj)} {σ : St} {H : Hp} {s : Shared} {a : Addr} {y : V} {o : Option V} (I : Inv X pins σ H s) (g : DGet H a y o) : s.TypeIs (.ref a) "dict" := by
 rcases g with ⟨kvs,k,e,_,_⟩ | ⟨kvs,k,b,e,_,_,_⟩
 ·obtain ⟨_,_,vs,_,dd⟩:=yej I.hok e
  exact dd.typeIs
 ·obtain ⟨_,_,xs,_,dd⟩:=yeG I.hok e
  exact dd.typeIs
def yh1 (td ty : TE) : TE:=fun σ H Q=>td σ H fun x H1=>ty σ H1 fun y H2=>∃ a v,x = .ref a /\ DGet H2 a y (some v) /\ Q v H2
def yh2 (td ty tv : TE) : TS:=fun D σ H=>tv σ H fun v H1=>td σ H1 fun x H2=>ty σ H2 fun y H3=>∃ a H4,x = .ref a /\ DPut H3 a y v H4 /\ D.nx σ H4
section
variable {X : Cx} {o i e value : Expr} {pos pos' tpos : Pos} {td ty tv : TE}
theorem ziD (hu : X.A.units + 1 < cLine) (ho : PE X o td) (hi : PE X i ty) (hs : NoSl i) : PE X (.Subscript o i pos) (yh1 td ty):=by
 intro pins s σ H Q I h
 refine ziC PySem.F.slot_dict_getitem.lookup hs (thn (ho pins s σ H _ I h) fun u s1 ⟨x,H1,I1,rx,q1⟩=>thn (hi pins s1 σ H1 _ I1 q1) fun iv s2 ⟨y,H2,I2,ry,a,v,ex,g,q2⟩=>?_)
 subst ex
 obtain rfl : u = Value.ref a:=rx
 exact ⟨zeV I2 g,zgJ hu I2 g ry fun w' s3 I3 rw' => ⟨v,H2,I3,rw',q2⟩⟩
theorem ziE (hu : X.A.units + 1 < cLine) (ho : PE X o td) (hi : PE X i ty) (hv : PE X value tv) (hs : swapsWith value (some (.Subscript o i pos')) pos.line X.env = pure false) :
  PS X (.Assign [.Subscript o i pos'] value pos) (yh2 td ty tv):=by
 intro pins s σ H D I h
 refine wpAny_Assign_Subscript (thn (hv pins s σ H _ I h) fun r s1 ⟨v,H1,I1,rv,q1⟩=>thn (ho pins s1 σ H1 _ I1 q1) fun u s2 ⟨x,H2,I2,rx,q2⟩=>thn (hi pins s2 σ H2 _ I2 q2) fun iv s3 ⟨y,H3,I3,ry,a,H4,ex,g,q3⟩=>?_) hs
 subst ex
 obtain rfl : u = Value.ref a:=rx
 exact zgK hu I3 g ry rv fun s4 I4=>⟨σ,H4,I4,q3⟩
end
theorem zhu {P : Program} {w : World} {H : Hp} (h : Heap) (hb : sysModules < h.objs.size) : ObjOk P w H (h.push { cls:=.type "dict",data:=.dict #[] }) h.objs.size (.dT []) :=
 ⟨Nat.zero_le _,beq_eq_false_iff_ne.mpr (Ne.symm (Nat.ne_of_lt hb)),[],.nil,_,#[],0,Heap.get?_push_size _ rfl,⟨rfl,rfl,rfl⟩,rfl,rfl,List.nodup_nil⟩
def ygU : TE:=fun _ H Q=>∀ p,H p = none -> Q (.ref p) (upd H p (.dT []))
section
variable {X : Cx} {pos : Pos}
theorem zhv : PE X (.Dict [] [] pos) ygU:=fun pins s σ H Q I h =>
 wpAny_Dict_empty ⟨.ref s.heap.objs.size,_,I.laid (a:=s.heap.objs.size) (o:=.dT []) (t' := s.toks) (fun _ _ q=>Heap.get?_push_of_some _ q) (Nat.le_refl _) (zhu s.heap I.big),rfl,h _ (I.hok.fresh (Nat.le_refl _))⟩
end
section
variable {X : Cx} {pins : List (Addr × Obj)} {σ : St} {H : Hp} {s : Shared} {a : Addr} {y d : V} {u r : Value} {o : Option V} {A : Around} {E : Value -> Shared -> Prop}
end
section
variable {X : Cx} {o e f : Expr} {apos cpos : Pos} {td ty tx : TE}
end
section
variable {X : Cx} {pins : List (Addr × Obj)} {σ : St} {H : Hp} {s : Shared} {a : Addr} {kvs : List (Key × V)} {A : Around} {E : Value -> Shared -> Prop}
end
section
variable {X : Cx} {pins : List (Addr × Obj)} {σ : St} {H : Hp} {s : Shared} {a : Addr} {y : V} {u : Value} {A : Around} {E : Value -> Shared -> Prop}
end
end L2
namespace Att
open PySem PySem.W PySem.Calls PyProof.Rows
theorem zcZ {P : Params} {h : Heap} : ∀ (ns : List Int) (vs : List Value),WellAll P h vs (ns.map WData.int) -> IntsAre vs ns:=by
 intro ns
 induction ns with
 | nil =>
  intro vs w
  rw [List.map_nil] at w
  cases w
  exact .nil
 | cons n ns ih =>
  intro vs w
  rw [List.map_cons] at w
  cases w with
  | cons a b =>
   cases a
   exact .cons _ _ (ih _ b)
theorem zgL {l : OpenLaw} {n : Nat} (hn : l.most = some n) {P : Params} {h : Heap} {args : List WData} {vals : List Value}
  (hpre : l.row.toRowW.claim.pre args = true) (hwl : WellAll P h vals args) :
  ∃ a vs ns,vals = [Value.ref a] /\ args = [WData.list (ns.map WData.int)] /\ h.get? a = some { cls:=.type "list",data:=.seq vs.toArray } /\ IntsAre vs ns /\ ns.length <= n:=by
 have hsh : WShape.hasAll [] args [.list .int] = true:=(pre_splitW hpre).1
 have hc : l.pre.holds [] { args:=args } = true:=(pre_splitW hpre).2
 obtain ⟨d,r,rfl,h1,h2⟩:=hasAllW_cons hsh
 obtain rfl:=hasAllW_nil h2
 obtain ⟨xs,rfl,h3⟩:=hasW_list h1
 obtain ⟨ns,rfl⟩:=items_int h3
 have hlen : ns.length <= n:=by
  unfold OpenLaw.pre at hc
  have h4 : (WTm.not (.lt (.lit (.int (n : Int))) (.len (.arg 0)))).holds [] { args:=[.list (ns.map .int)] } = true:=by
   have h4:=(holds_andW hc).1
   rw [hn] at h4
   exact h4
  have h5:=condW_of h4 (w_not (w_lt w_lit (w_len_list (w_arg rfl))))
  rw [List.length_map] at h5
  refine Nat.le_of_not_lt fun q=>?_
  have q' : (n : Int) < ((ns.length : Nat) : Int):=by omega
  first
   | (rw [decide_eq_true q'] at h5; exact absurd h5 (by decide))
   | (simp at h5; omega)
 cases hwl with
 | cons w1 w2 =>
  cases w2
  cases w1 with
  | list ho hall=>exact ⟨_,_,ns,rfl,rfl,ho,zcZ ns _ hall,hlen⟩
theorem zgM (l : OpenLaw) (args : List WData) : l.row.toRowW.claim.post args (.bool true) args = true :=
 postW_of (r:=l.row.toRowW) (X:=(true == true))
  (show WShape.has [] (.bool true) .bool = true by first | rfl | decide | simp [WShape.has,WShape.arms,WShape.armsAll])
  (show (WTm.eq .res (.lit (.bool true))).value [] { args:=args,res:=some (.bool true),after:=args } = some (.bool (true == true)) from w_eq_bool (w_res rfl) w_lit) rfl
theorem attach_call {l : OpenLaw} {n : Nat} {q : Program} {loose : List Str} {XP : (Str -> Option Value) -> Heap -> Prop} {YP : World -> Heap -> Prop} {d : DefRec}
  (hn : l.most = some n) (hdf : d.params.defaults = [])
  (call : ∀ (w : World) (s₀ s₁ : Shared) (mg mb : Str -> Option Value) (fa : Addr) (o : Obj) (pm cd doc : Value) (a : Addr) (vs : List Value) (ns : List Int),
   Ground q loose [] XP w s₀ mg mb s₁.heap -> YP w s₁.heap ->
   s₁.heap.get? fa = some o -> o.data = .func (docDef d.name d.params d.body d.scope pm cd doc) -> s₁.heap.CodeRec cd d.name -> mg d.name = some (.ref fa) ->
   s₁.heap.get? a = some { cls:=.type "list",data:=.seq vs.toArray } -> IntsAre vs ns -> ns.length <= n -> s₁.gens = #[] ->
   codeAny (model l.prog w) callerA (.call (.ref fa) ⟨[.ref a],[]⟩) (fun r s' => r = .ok (.ret (.bool true)) /\ OldK s₁.heap s'.heap /\ s'.os = s₁.os /\ AllBare s'.gens) s₁) :
  WalkO q loose XP YP l.row.toRowW d [] (fun f vs=>PySem.call f vs):=by
 intro w s₀ s₁ mg mb G Y fa o pm cd doc dV kV ho hd hcd hD hmg hg args vals as hpre hlay hrd hwl hlo
 obtain rfl : dV = .none:=Dflts.none hD hdf
 obtain rfl : kV = .none:=Dflts.noKw hD
 obtain ⟨a,vs,ns,rfl,rfl,hobj,hints,hlen⟩:=zgL hn hpre hwl
 refine enter_call (codeAny_mono (call w s₀ s₁ mg mb fa o pm cd doc a vs ns G Y ho (fd_plain hd) hcd hmg hobj hints hlen hg) fun r s' hq=>?_)
 obtain ⟨rfl,h2,h3,h4⟩:=hq
 exact ⟨.inl ⟨.bool true,.bool true,[],rfl,fun _=>rfl,.bool true,zgM l _,fun _=>⟨List.Pairwise.nil,fun _ hm=>(nomatch hm)⟩⟩,h2,h3,h4⟩
section
variable {prog : Program} {w : World} {A : Around} {E : Value -> Shared -> Prop} {s : Shared} {K : Frag}
end
end Att
namespace L2
open PySem PySem.Spec PyProof.Rows
theorem zdM : ∀ {vs : List Value} {ns : List Int},IntsAre vs ns -> Vals (ns.map V.int) vs
 | _,_,.nil=>.nil
 | _,_,.cons n t h=>.cons ⟨t,rfl⟩ (zdM h)
def Only (H : Hp) : Prop:=∀ b,H b = none \/ ∃ o xs,H b = some (.frz o (.lst xs))
theorem zhw {P : Program} {w : World} {K : PySem.W.Frag} {mg mb : Str -> Option Value} {CX : CXT} {k : Nat} {fa a : Addr} {fd : FuncData} {x : Str} {sp : Sp} {s₁ : Shared} {vs : List Value} {ns : List Int}
  (KX : K.In s₁.heap) (hns : s₁.heap.Ns mainGlobals mg) (hb : s₁.heap.Ns builtinsNs mb) (hbb : ∀ x : Str,x ≠ "__name__" -> mb x = bootBuiltins x) (hlim : s₁.heap.NoLimit) (hg : s₁.gens = #[])
  (ha : s₁.heap.get? a = some { cls:=.type "list",data:=.seq vs.toArray }) (hi : IntsAre vs ns) (hl : ns.length <= sizeLine) (hr : Room k callerA)
  (F : ∀ base : Heap,K.In base -> base.Ns mainGlobals mg -> FnOk P w K mg base CX k fa fd [x] sp) (hbind : ∀ (s : Shared) (u : Value),BindsTo s fd ⟨[u],[]⟩ [(x,u)])
  (hsp : ∀ H : Hp,Only H -> SqL K H a (ns.map V.int) -> sp [.ref a] H (fun v _=>v = .bl true) fun _ _ _=>False)
  (hCX : ∀ H e s',CX [] H s₁ (fun _ _ _=>False) e s' -> False) :
  codeAny (model P w) callerA (.call (.ref fa) ⟨[.ref a],[]⟩) (fun r s' => r = .ok (.ret (.bool true)) /\ OldK s₁.heap s'.heap /\ s'.os = s₁.os /\ AllBare s'.gens) s₁:=by
 have rv:=zdM hi
 have lenV:=hi.length
 have core : ∀ H : Hp,Only H -> SqL K H a (ns.map V.int) -> HOk P w H s₁.heap -> (∀ b,H b ≠ none -> b = a) -> (H a ≠ none -> K.lookup a = none) ->
   codeAny (model P w) callerA (.call (.ref fa) ⟨[.ref a],[]⟩) (fun r s' => r = .ok (.ret (.bool true)) /\ OldK s₁.heap s'.heap /\ s'.os = s₁.os /\ AllBare s'.gens) s₁:=by
  intro H hO hS hok hA hK
  have base_of : ∀ {b : Addr} {o : Obj},s₁.heap.get? b = some o -> H b = none -> (hidT s₁.heap H).get? b = some o:=fun e n=>zhg e n
  have noA : ∀ {b : Addr} {o : Obj} {es : Array DictEntry} {ep : Nat},s₁.heap.get? b = some o -> o.data = .dict es ep -> H b = none:=fun {b o es ep} e d=>by
   cases q : H b with
   | none=>rfl
   | some u =>
    have e' : b = a:=hA b (by rw [q]; simp)
    subst e'
    rw [ha] at e; cases e
    have d' : Data.seq vs.toArray _ = Data.dict es ep:=d
    cases d'
  have nsK : ∀ {b : Addr} {m : Str -> Option Value},s₁.heap.Ns b m -> (hidT s₁.heap H).Ns b m:=fun {b m} ⟨o,es,ep,e,d,r⟩=>⟨o,es,ep,base_of e (noA e d),d,r⟩
  have hKb : K.In (hidT s₁.heap H):=fun b o e=>base_of (KX b o e) (by
   cases q : H b with
   | none=>rfl
   | some u =>
    have e' : b = a:=hA b (by rw [q]; simp)
    subst e'
    rw [hK (by rw [q]; simp)] at e; cases e)
  have hM : Mod K mg (hidT s₁.heap H):=⟨hKb,nsK hns,⟨mb,nsK hb,hbb⟩,let ⟨mc,h1,h2⟩:=hlim; ⟨mc,nsK h1,h2⟩⟩
  have e0 : Env0 P w K mg (hidT s₁.heap H) callerA [] s₁ H:=⟨rfl,hM,fun b o e=>zij e,Nat.le_of_eq (zgy _ _),trivial,fun b hb=>absurd (show b ∈ ([] : List Addr) from hb) (by simp),hok,.of_eq hg⟩
  refine codeAny_mono ((F _ hKb (nsK hns)).run callerA [] s₁ H ⟨[.ref a],[]⟩ [.ref a] [.ref a] _ _ hr e0 (hbind s₁ (.ref a)) (.cons rfl .nil) (hsp H hO hS)) fun r s' h=>?_
  cases r with
  | error e=>exact (hCX H e s' h).elim
  | ok fl =>
   cases fl with
   | next=>exact False.elim h
   | brk=>exact False.elim h
   | cont=>exact False.elim h
   | ret u =>
    obtain ⟨v,H',os,bare,un,hok',r',q⟩:=h
    have q' : v = .bl true:=q
    subst q'
    obtain rfl : u = Value.bool true:=r'
    refine ⟨rfl,OldK.of_keep fun b o e=>?_,os,bare⟩
    cases q : H b with
    | none=>exact un.keep b o e q (by intro z; exact absurd (show b ∈ ([] : List Addr) from z) (by simp)) (by simp)
    | some u =>
     rcases hO b with z | ⟨ob,xs,z⟩
     ·rw [q] at z; cases z
     ·have z2:=un.frzs b ob _ z
      obtain ⟨e1,_⟩:=hok b _ z
      obtain ⟨e2,_⟩:=hok' b _ z2
      rw [e] at e1; cases e1
      exact e2
 cases hk : K.lookup a with
 | some o =>
  have e:=KX a o hk
  rw [ha] at e
  cases e
  refine core (fun _=>none) (fun _=>.inl rfl) (.inr ⟨_,vs.toArray,_,hk,rfl,rfl,rfl,by rw [List.size_toArray,lenV]; exact hl,by simpa using rv⟩) (fun b u z=>by have z' : (none : Option HO) = some u:=z; cases z') (fun b z=>absurd rfl z) fun z=>absurd rfl z
 | none =>
  refine core (fun b=>if b = a then some (.frz { cls:=.type "list",data:=.seq vs.toArray } (.lst (ns.map V.int))) else none) (fun b=>?_) (.inl (.inr ⟨{ cls:=.type "list",data:=.seq vs.toArray },if_pos rfl⟩)) (fun b u z=>?_) (fun b z=>?_) fun _=>hk
  ·by_cases hb : b = a
   ·exact .inr ⟨_,_,if_pos hb⟩
   ·exact .inl (if_neg hb)
  ·by_cases hb : b = a
   ·have z' := (if_pos hb).symm.trans z
    cases z'
    subst hb
    exact ⟨ha,by rw [List.length_map]; exact hl,vs,_,rv,ha⟩
   ·have z' := (if_neg hb).symm.trans z
    cases z'
  ·by_cases hb : b = a
   ·exact hb
   ·exact absurd (if_neg hb) z
end L2
namespace L2
open PySem PySem.Spec PyProof.Rows
theorem walk_of {l : PySem.W.OpenLaw} {n k : Nat} {q : Program} {loose : List Str} {XP : (Str -> Option Value) -> Heap -> Prop} {YP : World -> Heap -> Prop} {d : DefRec} {K : Params -> PySem.W.Frag} {CX : World -> CXT} {sp : World -> Sp} {x : Str}
  (hn : l.most = some n) (hn2 : n <= sizeLine) (hdf : d.params.defaults = []) (hr : Room k callerA)
  (hY : ∀ (w : World) (h : Heap),YP w h -> (K w.params).In h)
  (F : ∀ (w : World) (mg : Str -> Option Value) (fa : Addr) (h : Heap),(K w.params).In h -> h.Ns mainGlobals mg -> mg d.name = some (.ref fa) ->
   ∃ fd : FuncData,(∀ (s : Shared) (u : Value),BindsTo s fd ⟨[u],[]⟩ [(x,u)]) /\
    ∀ base : Heap,(K w.params).In base -> base.Ns mainGlobals mg -> FnOk l.prog w (K w.params) mg base (CX w) k fa fd [x] (sp w))
  (hsp : ∀ (w : World) (H : Hp) (a : Addr) (ns : List Int),ns.length <= n -> Only H -> SqL (K w.params) H a (ns.map V.int) -> sp w [.ref a] H (fun v _=>v = .bl true) fun _ _ _=>False)
  (hCX : ∀ (w : World) (H : Hp) (s : Shared) (e : Value) (s' : Shared),CX w [] H s (fun _ _ _=>False) e s' -> False) :
  PySem.W.WalkO q loose XP YP l.row.toRowW d [] (fun f vs=>PySem.call f vs):=by
 refine Att.attach_call hn hdf fun w s₀ s₁ mg mb fa o pm cd doc a vs ns G Y ho hd hcd hmg hobj hints hlen hg=>?_
 have KX:=hY w _ Y
 obtain ⟨fd,hb,hF⟩:=F w mg fa _ KX G.T.g hmg
 exact zhw KX G.T.g G.T.b G.T.builtins G.T.nolimit hg hobj hints (Nat.le_trans hlen hn2) hr hF hb (fun H hO hS=>hsp w H a ns hlen hO hS) fun H e s' => hCX w H s₁ e s'
end L2
namespace L2
open PySem PySem.Spec PyProof.Rows
def ybt (s : Stmt) (j : Nat) : Stmt:=match s with
 | .ClassDef _ _ _ body _ _ _ _ _ _ _=>body.getD j (.Pass ⟨0,0,0,0⟩)
 | _=>.Pass ⟨0,0,0,0⟩
def ycM (s : Stmt) : Arguments:=match s with
 | .FunctionDef _ a _ _ _ _ _ _ _ _=>a
 | _=>{ posonlyargs:=[],args:=[],vararg:=none,kwonlyargs:=[],kw_defaults:=[],kwarg:=none,defaults:=[] }
def yb3 (s : Stmt) : List Stmt:=match s with
 | .FunctionDef _ _ b _ _ _ _ _ _ _=>b
 | _=>[]
def yah (s : Stmt) : Scope:=match s with
 | .FunctionDef _ _ _ _ _ _ sc _ _ _=>sc
 | _=>{ kind:=.function,names:=[],isGenerator:=false,isCoroutine:=false }
abbrev E0 : XK:=fun _ _ _=>False
structure Fun (K : PySem.W.Frag) (x qual : Str) (st : Stmt) (f : Addr) (fd : FuncData) : Prop where
 ex : ∃ (oc : Value) (od : Option Addr) (kV doc pm : Value) (an : Option Addr) (cdv ct : Value) (osl : Array (Option Value)),
  fd = PySem.W.fnOf x qual (ycM st) (yb3 st) (yah st) .none kV doc pm an cdv ct /\ K.lookup f = some ⟨oc,od,.func fd,osl⟩ /\ PySem.W.codeIn K cdv qual = true
 kp : PySem.W.keepIn K (.ref f) = true
section
variable {P : Program} {w : World} {K : PySem.W.Frag} {mg : Str -> Option Value} {base : Heap}
theorem Fun.binds {x qual : Str} {st : Stmt} {f : Addr} {fd : FuncData} {ps : List Str} (F : Fun K x qual st f fd)
  (h : ∀ (kV doc pm : Value) (an : Option Addr) (cdv ct : Value) (us : List Value),us.length = ps.length -> bindArgs (PySem.W.fnOf x qual (ycM st) (yb3 st) (yah st) .none kV doc pm an cdv ct) ⟨us,[]⟩ = pure (ps.zip us)) : Binds K fd ps []:=by
 obtain ⟨oc,od,kV,doc,pm,an,cdv,ct,osl,rfl,lk,hcd⟩:=F.ex
 exact .all (h kV doc pm an cdv ct)
theorem yfo {x qual : Str} {st : Stmt} {f : Addr} {oc : Value} {od an : Option Addr} {osl : Array (Option Value)} {kV doc pm cdv ct : Value} (l : K.lookup f = some ⟨oc,od,.func (PySem.W.fnOf x qual (ycM st) (yb3 st) (yah st) .none kV doc pm an cdv ct),osl⟩)
  (c : PySem.W.codeIn K cdv qual = true) (k : PySem.W.keepIn K (.ref f) = true) : Fun K x qual st f (PySem.W.fnOf x qual (ycM st) (yb3 st) (yah st) .none kV doc pm an cdv ct):=⟨⟨oc,od,kV,doc,pm,an,cdv,ct,osl,rfl,l,c⟩,k⟩
end
section
variable {X : Cx}
theorem pv (i : Nat) {x : Str} {pos : Pos} (hN : X.N[i]? = some x:=by rfl) (hv : Vis X.env.scope x:=by first | exact Or.inl rfl | exact Or.inr (Or.inl rfl) | exact Or.inr (Or.inr rfl)) (hd : (x == ("__debug__" : Str)) = false:=by decide)
  (hcd : (x == ("__classdict__" : Str)) = false:=by decide) : PE X (.Name x pos) (tVar i):=ygm hN hv hd hcd
theorem zgN : CallR X (.builtin "len") (fun xs H Q=>∃ a kvs,xs = [V.ref a] /\ H a = some (.dK kvs) /\ Q (.int kvs.length) H):=by
 intro pins s σ H xs us Q I r h
 obtain ⟨a,kvs,rfl,ha,q⟩:=h
 obtain ⟨u,rfl,ru⟩:=ydQ r
 cases ru
 exact yh0 I (.inl ha) fun t s' I' => ⟨.int kvs.length,H,I',⟨t,rfl⟩,q⟩
end
section
variable {κ : Type} [DecidableEq κ]
end
end L2
set_option maxHeartbeats 4000000
namespace L2
open PySem PySem.Spec PyProof.Rows
section
variable {X : Cx} {pins : List (Addr × Obj)} {σ : St} {H : Hp} {s : Shared} {h' : Heap}
theorem Inv.turnedL {t' : Nat} {fp : List Addr} (I : Inv X pins σ H s) (k : ∀ b o,b ∉ fp -> s.heap.get? b = some o -> h'.get? b = some o) (hf : ∀ b ∈ fp,FpOk X pins H b) :
  Inv X pins σ H { s with heap:=h',toks:=t' }:=by
 have nit : ∀ b u,H b = some u -> b ∉ fp:=fun b u e z=>by
  have q:=(hf b z).1
  rw [q] at e
  cases e
 refine I.step (g' := s.gens) (d' := s.drawn) (ch:=fp) (fun b hb=>?_) (fun b o _ _ hc e _=>k b o hc e) (fun b o _ _ hc e _=>⟨o.slots,k b o hc e⟩) (fun _ _ _ _ n=>n)
  (fun b o hc e=>⟨o,k b o hc e⟩) (fun _ _ e=>e) (fun _ _ _ e=>e) (fun b ps e=>⟨#[],by rw [e]; simp⟩) (fun m hm=>?_) (fun b u e=>?_) I.bare
 ·obtain ⟨_,f1,_,f3,f4,f5⟩:=hf b hb
  exact ⟨f3,f1,f4,f5⟩
 ·obtain ⟨o,es,ep,ho,r⟩:=hm
  exact ⟨o,es,ep,k _ o (fun z=>(hf _ z).2.1 rfl) ho,r⟩
 ·refine (I.hok b u e).stay (fun c v hc q=>k c v ?_ q) (fun _ q=>q) fun _ _ q=>q
  rcases hc with z | z
  ·rw [z]; exact nit b u e
  ·exact nit c _ z
end
section
variable {X : Cx}
end
def Its (x : Str) : It:=⟨fun i _=>i < x.cps.size,fun i H v H' => H' = H /\ ∃ c,x.cps[i]? = some c /\ v = .str ⟨#[c]⟩,fun i _=>x.cps.size <= i⟩
theorem zgO {P : Program} {w : World} {A : Around} (hh : A.handled = none) (it : Addr) (x : Str) (t : Tok) :
  Walks P w A it [it] [it] x.cps.size (SignAt x) (fun i h=>h.IsStrIter it (strIterType x) x t i):=by
 cases ha : x.cps.all (· < 128) with
 | false =>
  have e : strIterType x = "str_iterator" := by simp [strIterType,ha]
  rw [e]
  exact Walks.strWide hh it x t
 | true =>
  have e : strIterType x = "str_ascii_iterator" := by simp [strIterType,ha]
  rw [e]
  exact Walks.strAscii hh it x t
theorem zhx {P : Program} {w : World} {K : PySem.W.Frag} {y : Str} {py : Pos} (it : Addr) (x : Str) (t : Tok) : Turn P w K (.Name y py) (Its x) [it] it (fun i h=>h.IsStrIter it (strIterType x) x t i) where
 mem:=by simp
 obj:=fun i h st b hb=>by
  have e : b = it:=by simpa using hb
  subst e
  obtain ⟨o,e,c,d⟩:=st
  exact ⟨o,e,fun v z=>by rw [d] at z; cases z⟩
 keep:=fun i h h' st k=>by
  obtain ⟨o,e,r⟩:=st
  exact ⟨o,k it (by simp) o e,r⟩
 item:=by
  intro X hP hw hK hc i pins s σ H E I hf st hg
  subst hP hw hK
  refine (zgO (I.ok.hd hc) it x t).item i s _ _ hg st fun v h1 tk hv st1 kk=>?_
  obtain ⟨c,u,hcp,rfl⟩:=hv
  have I1 : Inv X pins σ H { s with heap:=h1,toks:=tk }:=I.turnedL (fp:=[it]) kk hf
  exact ⟨_,rfl,wpAny_pure ⟨.str ⟨#[c]⟩,H,I1,⟨u,rfl⟩,⟨rfl,c,hcp,rfl⟩,st1,fun b hb=>(hf b hb).1⟩⟩
 done:=by
  intro X hP hw hK hc i pins s σ H E I hf st hg
  subst hP hw hK
  have hx : x.cps[i]? = none:=Array.getElem?_eq_none hg
  cases ha : x.cps.all (· < 128) with
  | false =>
   have e : strIterType x = "str_iterator" := by simp [strIterType,ha]
   rw [e] at st
   exact wpAny_pyNext_wide_end (I.ok.hd hc) st hx fun h' eb=>⟨rfl,I.turnedL (fp:=[it]) (t' := s.toks) (fun b o hb q=>eb b o (fun z=>hb (by simp [z])) q) hf⟩
  | true =>
   have e : strIterType x = "str_ascii_iterator" := by simp [strIterType,ha]
   rw [e] at st
   exact wpAny_pyNext_ascii_end (I.ok.hd hc) st hx fun h' eb=>⟨rfl,I.turnedL (fp:=[it]) (t' := s.toks) (fun b o hb q=>eb b o (fun z=>hb (by simp [z])) q) hf⟩
 self:=fun A i s Q E st h=>by
  cases ha : x.cps.all (· < 128) with
  | false =>
   have e : strIterType x = "str_iterator" := by simp [strIterType,ha]
   rw [e] at st
   exact wpAny_pyIter_striter_wide st h
  | true =>
   have e : strIterType x = "str_ascii_iterator" := by simp [strIterType,ha]
   rw [e] at st
   exact wpAny_pyIter_striter_ascii st h
section
variable {X : Cx}
def iStr (tl : TE) : TI:=fun σ H R=>tl σ H fun x H1=>∃ t,x = .str t /\ R (Its t) H1
theorem ygV {l : Expr} {tl : TE} {y : Str} {py : Pos} (hl : PE X l tl) : PI X (.Name y py) l (iStr tl):=by
 intro pins s σ H R I h
 refine thn (hl pins s σ H _ I h) fun v s1 ⟨x,H1,I1,r1,q1⟩=>?_
 obtain ⟨t,e,q⟩:=q1
 subst e
 obtain ⟨tk,rfl⟩:=r1
 refine wpAny_pyIter_strU ?_
 refine ⟨s1.heap.objs.size,[s1.heap.objs.size],_,_,H1,rfl,I1.kept (t' := s1.toks) fun b o e=>Heap.get?_push_of_some _ e,zhx _ t tk,⟨_,Heap.get?_push_size _ rfl,rfl,rfl⟩,fun b hb=>?_,q⟩
 have e : b = s1.heap.objs.size:=by simpa using hb
 subst e
 exact I1.fpOk (Nat.le_refl _) (I1.hok.fresh (Nat.le_refl _))
end
def ya0 (env : Env) : List (Str × NameKind) -> List (Str × Addr) -> List (Str × Addr)
 | [],acc=>acc
 | (n,k) :: r,acc=>ya0 env r (if k = .free then (n,(env.cells.lookup n).getD 0) :: acc else acc)
theorem zgh {env : Env} {scope : Scope} (h : ∀ y ∈ scope.names,y.2 = .free -> (env.cells.lookup y.1).isSome = true) : closureFor scope env = pure (ya0 env scope.names []):=by
 have all : ∀ (l : List (Str × NameKind)) (acc : List (Str × Addr)),(∀ y ∈ l,y.2 = .free -> (env.cells.lookup y.1).isSome = true) ->
   (forIn l acc fun (x : Str × NameKind) (cs : List (Str × Addr))=>if (x.2 == NameKind.free) = true then (do let a <- cellOf env x.1; pure (ForInStep.yield ((x.1,a) :: cs))) else (pure (ForInStep.yield cs) : Sem _)) = pure (ya0 env l acc):=by
  intro l
  induction l with
  | nil=>intro acc _; rfl
  | cons y r ih =>
   intro acc hl
   obtain ⟨n,k⟩:=y
   rw [List.forIn_cons]
   have hr:=fun z hz=>hl z (List.mem_cons_of_mem _ hz)
   by_cases hk : k = .free
   ·subst hk
    obtain ⟨c,hc⟩:=Option.isSome_iff_exists.mp (hl (n,.free) List.mem_cons_self rfl)
    have e1 : cellOf env n = pure c:=by
     simp only [cellOf]
     have hc' : env.cells.lookup n = some c:=hc
     rw [hc']
    simp only [beq_self_eq_true,if_true,e1,pure_bind,ya0]
    have hc' : env.cells.lookup n = some c:=hc
    rw [hc']
    exact ih _ hr
   ·have hb : (k == NameKind.free) = false:=by simpa using hk
    simp only [hb,Bool.false_eq_true,if_false,pure_bind,ya0,hk]
    exact ih _ hr
 unfold closureFor
 have q:=all scope.names [] h
 first
  | exact q
  | (simp only [bind_pure]; exact q)
  | (rw [<- q]; simp)
theorem zcJ {env : Env} : ∀ {l : List (Str × NameKind)} {acc : List (Str × Addr)},(∀ y ∈ l,y.2 = .free -> (env.cells.lookup y.1).isSome = true) -> (∀ y c,acc.lookup y = some c -> env.cells.lookup y = some c) ->
  ∀ y c,(ya0 env l acc).lookup y = some c -> env.cells.lookup y = some c
 | [],_,_,h,y,c,e=>h y c e
 | (n,k) :: r,acc,hl,h,y,c,e=>by
  refine zcJ (l:=r) (fun z hz=>hl z (List.mem_cons_of_mem _ hz)) ?_ y c e
  intro y c e
  by_cases hk : k = .free
  ·rw [if_pos hk] at e
   rw [List.lookup_cons] at e
   cases hy : y == n with
   | true =>
    rw [hy] at e
    have e' : y = n:=by simpa using hy
    obtain ⟨c',hc'⟩:=Option.isSome_iff_exists.mp (hl (n,k) List.mem_cons_self hk)
    have hc'' : env.cells.lookup n = some c' := hc'
    rw [hc''] at e
    rw [e',hc'']
    exact e
   | false =>
    rw [hy] at e
    exact h y c e
  ·rw [if_neg hk] at e
   exact h y c e
theorem zcK {env : Env} : ∀ {l : List (Str × NameKind)} {acc : List (Str × Addr)} {y : Str},(y,NameKind.free) ∈ l \/ (acc.lookup y).isSome = true -> ((ya0 env l acc).lookup y).isSome = true
 | [],_,_,h=>by
  rcases h with h | h
  ·cases h
  ·exact h
 | (n,k) :: r,acc,y,h=>by
  refine zcK (l:=r) ?_
  rcases h with h | h
  ·rcases List.mem_cons.mp h with e | e
   ·right
    cases e
    rw [if_pos rfl,List.lookup_cons]
    simp
   ·exact .inl e
  ·right
   by_cases hk : k = .free
   ·rw [if_pos hk,List.lookup_cons]
    cases hy : y == n with
    | true=>rfl
    | false=>exact h
   ·rw [if_neg hk]; exact h
theorem zaE {names : List (Str × NameKind)} {x : Str} {k : NameKind} (h : names.lookup x = some k) : (x,k) ∈ names:=PySem.mem_of_lookup h
theorem zaP {env : Env} {x : Str} {k : NameKind} : ∀ {names : List (Str × NameKind)},(names.map fun (n,k)=>if (k == NameKind.free && env.scope.kind == .function && env.kindOf n == some .cell) then (n,NameKind.cell) else (n,k)).lookup x = some k ->
  names.lookup x = some k \/ (k = .cell /\ names.lookup x = some .free)
 | [],h=>by simp at h
 | (n,kk) :: r,h=>by
  have ih:=@zaP env x k r
  by_cases hc : (kk == NameKind.free && env.scope.kind == .function && env.kindOf n == some .cell) = true
  ·have hf : kk = .free:=by
    have q:=(Bool.and_eq_true _ _).mp ((Bool.and_eq_true _ _).mp hc).1
    simpa using q.1
   subst hf
   have h' : List.lookup x ((n,NameKind.cell) :: (r.map fun (n,k)=>if (k == NameKind.free && env.scope.kind == .function && env.kindOf n == some .cell) then (n,NameKind.cell) else (n,k))) = some k:=by
    have e : (fun (p : Str × NameKind)=>match p with | (n,k)=>if (k == NameKind.free && env.scope.kind == .function && env.kindOf n == some .cell) = true then (n,NameKind.cell) else (n,k)) (n,NameKind.free) = (n,NameKind.cell):=by
     show (if _ then _ else _) = _
     rw [if_pos hc]
    rw [List.map_cons] at h
    rw [<- e]
    exact h
   rw [List.lookup_cons] at h' ⊢
   cases hx : x == n with
   | true =>
    rw [hx] at h'
    right
    exact ⟨(Option.some.inj h').symm,rfl⟩
   | false =>
    rw [hx] at h'
    exact ih h'
  ·have h' : List.lookup x ((n,kk) :: (r.map fun (n,k)=>if (k == NameKind.free && env.scope.kind == .function && env.kindOf n == some .cell) then (n,NameKind.cell) else (n,k))) = some k:=by
    have e : (fun (p : Str × NameKind)=>match p with | (n,k)=>if (k == NameKind.free && env.scope.kind == .function && env.kindOf n == some .cell) = true then (n,NameKind.cell) else (n,k)) (n,kk) = (n,kk):=by
     show (if _ then _ else _) = _
     rw [if_neg hc]
    rw [List.map_cons] at h
    rw [<- e]
    exact h
   rw [List.lookup_cons] at h' ⊢
   cases hx : x == n with
   | true =>
    rw [hx] at h'
    exact .inl h'
   | false =>
    rw [hx] at h'
    exact ih h'
def ybe (X : Cx) (pins : List (Addr × Obj)) (x₁ : Str) (jf : List (Nat × Str)) (scope : Scope) (cl : List (Str × Addr)) (s : Shared) (H : Hp) (fp : List Addr) : Cx where
 prog:=X.prog
 w:=X.w
 K:=X.K
 mg:=X.mg
 base:=X.base
 A:=X.A
 N:=x₁ :: jf.map (·.2)
 s₀:=s
 H₀:=H
 env:=compEnvC scope cl s.heap.objs.size X.env
 outer:=X.stack
 stack:=X.stack
 ex:=fp
 fn:=fun _=>false
 calm:=X.calm
 pn:=X.pn++pins
 xe:=fun _ _=>False
def ybB (v : Option V) (js : List (Nat × Str)) (σ : St) : St:=v :: js.map fun j=>(σ[j.1]?).join
def PTs (X : Cx) (ifs : List Expr) (t : TT) : Prop :=
 ∀ (pins : List (Addr × Obj)) (s : Shared) (σ : St) (H : Hp) (Q : Bool -> Hp -> Prop),Inv X pins σ H s -> t σ H Q ->
  wpAny (model X.prog X.w) X.A (forIn ifs true fun c r=>if r = true then do let ok <- isTrue c X.env (eval c X.env); pure (ForInStep.yield ok) else pure (ForInStep.yield r)) (TP X pins σ Q) X.xe s
def tYes : TT:=fun _ H Q=>Q true H
theorem ziF {X : Cx} : PTs X [] tYes:=fun pins s σ H Q I h=>wpAny_tests_nil ⟨H,I,h⟩
def yel (jf : List (Nat × Str)) (wi : TI) (tc : TT) (te : TE) : TE:=fun σ H Q=>wi σ H fun J H1=>∀ D,H1 D = none -> ∃ W : Nat -> Nat -> List V -> Hp -> Prop,(∃ m,W 0 m [] (upd H1 D (.lst []))) /\
 ∀ i m ys H2,W i m ys H2 -> H2 D = some (.lst ys) /\ ((J.stop i H2 /\ Q (.ref D) H2) \/ (J.go i H2 /\ ys.length < sizeLine /\ ∀ x H3,J.yld i H2 x H3 -> tc (ybB (some x) jf σ) H3 fun b H5 =>
  if b = true then te (ybB (some x) jf σ) H5 fun v H6=>H6 D = some (.lst ys) /\ ∃ m',m' < m /\ W (i + 1) m' (ys++[v]) (upd H6 D (.lst (ys++[v]))) else ∃ m',m' < m /\ W (i + 1) m' ys H5))
section
variable {X : Cx} {pins : List (Addr × Obj)} {σ : St} {H : Hp} {s : Shared} {x₁ : Str} {jf : List (Nat × Str)} {scope : Scope} {fp : List Addr}
theorem Inv.block {h1 : Heap} {tk : Nat} (I : Inv X pins σ H s) (hf : ∀ b ∈ fp,FpOk X pins H b) (hlt : ∀ b ∈ fp,b < s.heap.objs.size) (hjf : ∀ p ∈ jf,X.N[p.1]? = some p.2) (hjl : ∀ p ∈ jf,scope.names.lookup p.2 = some .free) (hkind : scope.kind = .function)
  (hcell : ∀ y ∈ scope.names,y.2 ≠ .cell) (hfr : ∀ y ∈ scope.names,y.2 = .free -> X.env.kindOf y.1 = some .cell \/ X.env.kindOf y.1 = some .free)
  (hn : h1.Ns s.heap.objs.size (fun _=>none)) (hk : ∀ b o,s.heap.get? b = some o -> h1.get? b = some o) :
  Inv (ybe X pins x₁ jf scope (ya0 X.env scope.names []) s H fp) [] (ybB none jf σ) H { s with heap:=h1,toks:=tk }:=by
 have hsome : ∀ y ∈ scope.names,y.2 = .free -> (X.env.cells.lookup y.1).isSome = true:=fun y hy hyf=>Option.isSome_iff_exists.mpr (I.ok.has y.1 (hfr y hy hyf))
 have sub : ∀ y c,(ya0 X.env scope.names []).lookup y = some c -> X.env.cells.lookup y = some c:=zcJ hsome (fun y c e=>by simp at e)
 have hsz:=I.sz
 have inE : ∀ b,b ∈ (ybe X pins x₁ jf scope (ya0 X.env scope.names []) s H fp).ex -> b ∈ fp:=fun b z=>z
 have stk : ∀ b ∈ frs X.stack,b < s.heap.objs.size:=fun b hb=>by
  obtain ⟨_,o,ho,_⟩:=I.stack.mem hb
  exact Heap.lt_size ho
 refine ⟨⟨I.ok.mod,hkind,I.ok.glob,I.ok.blt,Nat.le_refl _,fun y z c e1 e2=>I.ok.inj y z c (sub y c e1) (sub z c e2),fun y hy=>?_,fun y c hfn _=>(by cases hfn),I.ok.hd,I.ok.frames,.inl rfl,fun b hb=>?_,fun b o e=>I.bs b o e,Nat.le_trans I.ok.bsz hsz,fun b o e z=>?_,fun b hb z=>?_,I.stack,I.stkFree⟩,
  rfl,I.bare,Un.kept hk,⟨_,hn,fun i y v e1 e2 e3=>?_⟩,fun y c e=>?_,I.hok.fresh (Nat.le_refl _),fun y c e=>I.freeC y c (sub y c e),fun p hp=>?_,I.hok.kept hk,?_⟩
 ·have hy' : (relabel scope X.env).names.lookup y = some .cell \/ (relabel scope X.env).names.lookup y = some .free:=hy
  have mem : (y,NameKind.free) ∈ scope.names:=by
   rcases hy' with q | q
   ·rcases zaP (env:=X.env) q with z | z
    ·exact absurd rfl (hcell _ (zaE z))
    ·exact zaE z.2
   ·rcases zaP (env:=X.env) q with z | z
    ·exact zaE z
    ·exact zaE z.2
  exact Option.isSome_iff_exists.mp (zcK (.inl mem))
 ·exact ⟨Nat.ne_of_lt (hlt b hb),fun y c e=>(hf b hb).2.2.2.2.1 y c (sub y c e)⟩
 ·rcases (hf b z).2.2.2.1 with q | q
  ·exact I.ok.noex b o e q
  ·exact absurd (Nat.lt_of_lt_of_le (Heap.lt_size e) (Nat.le_trans I.ok.bsz q)) (Nat.lt_irrefl _)
 ·rcases List.mem_cons.mp (I.stkSub b z) with q | q
  ·exact (hf b hb).2.1 q
  ·exact (hf b hb).2.2.1 q
 ·have e1' : (x₁ :: jf.map (·.2))[i]? = some y:=e1
  unfold ybB at e2
  cases i with
  | zero=>cases e2
  | succ i =>
   rw [List.getElem?_cons_succ,List.getElem?_map] at e1' e2
   cases q : jf[i]? with
   | none=>rw [q] at e2; cases e2
   | some p =>
    rw [q] at e1' e2
    have ey : p.2 = y:=Option.some.inj e1'
    have ev : (σ[p.1]?).join = some v:=Option.some.inj e2
    have hp : p ∈ jf:=List.mem_of_getElem? q
    have eσ : σ[p.1]? = some (some v):=by
     cases z : σ[p.1]? with
     | none=>rw [z] at ev; cases ev
     | some r=>rw [z] at ev; rw [show r = some v from ev]
    have hfree : scope.names.lookup y = some .free:=by rw [<- ey]; exact hjl p hp
    have mem:=zaE hfree
    have kX:=hfr _ mem rfl
    obtain ⟨m,hnX,hl⟩:=I.loc
    obtain ⟨u,ru,lk⟩:=hl p.1 y v (by rw [<- ey]; exact hjf p hp) eσ (by
     rcases kX with z | z
     ·exact .inr (.inl z)
     ·exact .inr (.inr z))
    refine ⟨u,ru,.inr ⟨?_,?_⟩⟩
    ·have e3' : Vis (relabel scope X.env) y:=e3
     rcases e3' with z | z | z
     ·exfalso
      rcases zaP (env:=X.env) z with q | q
      ·rw [hfree] at q; cases q
      ·cases q.1
     ·exact .inl z
     ·exact .inr z
    ·rcases lk with ⟨z,_⟩ | ⟨_,c,hc,hcell'⟩
     ·exfalso
      rcases kX with q | q
      ·rw [show X.env.kindOf y = some .cell from q] at z; cases z
      ·rw [show X.env.kindOf y = some .free from q] at z; cases z
     ·obtain ⟨c',hc'⟩:=Option.isSome_iff_exists.mp (zcK (env:=X.env) (acc:=[]) (.inl mem))
      have e:=sub y c' hc'
      rw [hc] at e
      cases e
      obtain ⟨o,ho,hd⟩:=hcell'
      exact ⟨c,hc',o,hk c o ho,hd⟩
 ·obtain ⟨v,o,ho,hd⟩:=I.cell y c (sub y c e)
  exact ⟨v,o,hk c o ho,hd⟩
 ·have hp' : p ∈ X.pn++pins:=by simpa [ybe] using hp
  obtain ⟨e,n,ne,nf,d⟩:=I.pin p hp'
  refine ⟨hk _ _ e,n,Nat.ne_of_lt (Heap.lt_size e),fun z=>?_,d⟩
  rcases List.mem_cons.mp (I.stkSub p.1 z) with q | q
  ·exact ne q
  ·exact nf q
 ·unfold ybB
  show _ = (x₁ :: jf.map (·.2)).length
  rw [List.length_cons,List.length_cons,List.length_map,List.length_map]
end
theorem HOk.sameBut {P : Program} {w : World} {H : Hp} {h h' : Heap} {C : Addr} (ok : HOk P w H h) (hn : H C = none) (hs : Heap.SameBut C h h') : HOk P w H h' := fun b u e=>by
 refine (ok b u e).stay (fun c v hc q=>(hs.2 c ?_).trans q) (fun _ q=>q) fun _ _ q=>q
 rcases hc with z | z
 ·rw [z]; exact zap e hn
 ·exact zap z hn
theorem Un.sameBut {fs ex : List Addr} {H H' : Hp} {h h1 h2 : Heap} {C : Addr} (u : Un fs ex H H' h h1) (hC : h.get? C = none) (hs : Heap.SameBut C h1 h2) : Un fs ex H H' h h2:=by
 have ne : ∀ b o,h.get? b = some o -> b ≠ C:=fun b o e z=>by rw [z,hC] at e; cases e
 refine ⟨fun b o e n hb hx=>(hs.2 b (ne b o e)).trans (u.keep b o e n hb hx),fun b o e n hb hx=>?_,u.free,fun b o e hx=>?_,u.tups,u.frzs,u.tbls⟩
 ·obtain ⟨sl,q⟩:=u.slot b o e n hb hx
  exact ⟨sl,(hs.2 b (ne b o e)).trans q⟩
 ·obtain ⟨o',q⟩:=u.there b o e hx
  exact ⟨o',(hs.2 b (ne b o e)).trans q⟩
theorem zep {prog : Program} {w : World} {A : Around} {R : Result -> Shared -> Prop} {s : Shared} {elt target iter : Expr} {ifs : List Expr} {scope : Scope} {pos : Pos} {it acc : Value} {env : Env} (I : Nat -> Shared -> Prop)
  (turn : ∀ n s,I n s -> wpAny (model prog w) A (pyNext it) (fun r s₁=>match r with
   | none=>R (.ok .next) s₁
   | some v=>wpAny (model prog w) A (letOwnedTupleGo target it v) (fun _ s₂=>wpAny (model prog w) A (assign target env v) (fun _ s₃ =>
     wpAny (model prog w) A (forIn ifs true fun c r=>if r = true then do let ok <- isTrue c env (eval c env); pure (ForInStep.yield ok) else pure (ForInStep.yield r)) (fun ok s₄ =>
      if ok = true then wpAny (model prog w) A (eval elt env) (fun x s₅=>wpAny (model prog w) A (call (.builtin "list.append") [acc,x]) (fun _ s₆=>∃ m,m < n /\ I m s₆) (fun _ _=>False) s₅) (fun _ _=>False) s₄
      else ∃ m,m < n /\ I m s₄) (fun _ _=>False) s₃) (fun _ _=>False) s₂) (fun _ _=>False) s₁) (fun _ _=>False) s)
  (n : Nat) (h : I n s) : codeAny (model prog w) A (.compLoop (.ListComp elt [⟨target,iter,ifs,0⟩] scope pos) 0 it acc env) R s:=by
 refine codeAny_loop rfl I (fun n s hI=>?_) n h
 show wpAny _ A ((compTurn (.ListComp elt [⟨target,iter,ifs,0⟩] scope pos) 0 it acc env).onRaise (fun x=>do noteFrame x env; theTreesLotGoes x)) _ _ s
 refine wpAny_noted ?_
 rw [compTurn_list]
 refine wpAny_bind (wpAny_standAt (wpAny_bind (wpAny_mono (turn n s hI) (fun r s₁ h₁=>?_) fun _ _ z=>z.elim)))
 cases r with
 | none=>exact wpAny_pure h₁
 | some v =>
  refine wpAny_bind (wpAny_mono h₁ (fun _ s₂ h₂=>?_) fun _ _ z=>z.elim)
  refine wpAny_bind (wpAny_mono h₂ (fun _ s₃ h₃=>wpAny_bind (wpAny_mono h₃ (fun ok s₄ h₄=>?_) fun _ _ z=>z.elim)) fun _ _ z=>z.elim)
  cases ok with
  | false=>exact wpAny_pure ⟨rfl,h₄⟩
  | true =>
   exact wpAny_bind (wpAny_bind (wpAny_mono h₄ (fun x s₅ h₅=>wpAny_bind (wpAny_mono h₅ (fun _ s₆ h₆=>wpAny_pure (wpAny_pure ⟨rfl,h₆⟩)) fun _ _ z=>z.elim)) fun _ _ z=>z.elim))
section
variable {X : Cx} {x₁ : Str} {px : Pos} {jf : List (Nat × Str)} {scope : Scope} {iter elt : Expr} {ifs : List Expr} {pos : Pos} {wi : TI} {tc : TT} {te : TE}
theorem zeq (hcalm : X.calm = true) (hi : PI X (.Name x₁ px) iter wi) (hc : ∀ pins cl s H fp,PTs (ybe X pins x₁ jf scope cl s H fp) ifs tc) (he : ∀ pins cl s H fp,PE (ybe X pins x₁ jf scope cl s H fp) elt te)
  (hN : (x₁ :: jf.map (·.2)).Nodup) (hx : scope.names.lookup x₁ = some .local) (hjf : ∀ p ∈ jf,X.N[p.1]? = some p.2) (hjl : ∀ p ∈ jf,scope.names.lookup p.2 = some .free) (hkind : scope.kind = .function)
  (hcell : ∀ y ∈ scope.names,y.2 ≠ .cell) (hfr : ∀ y ∈ scope.names,y.2 = .free -> X.env.kindOf y.1 = some .cell \/ X.env.kindOf y.1 = some .free)
  (hnames : ∀ y ∈ scope.names,y.2 = .local -> scope.names.lookup y.1 = some .local) {use : Option (Value -> Sem Unit)} {Qf : Value -> Shared -> Prop} {cpos : Pos}
  {pins : List (Addr × Obj)} {σ : St} {H : Hp} {s : Shared} {Q : VK} (I : Inv X pins σ H s) (h : yel jf wi tc te σ H Q)
  (fin : ∀ D C s6 H6 m6,Inv X pins σ H6 s6 -> Q (.ref D) H6 -> FpOk X pins H6 C -> s6.heap.Ns C m6 -> compPost (model X.prog X.w) X.A X.xe use Qf (.ref D) C (.ok .next) s6) (hs : ∀ x,foldedSetIterable iter X.env x = pure x) :
  wpAny (model X.prog X.w) X.A (comprehension (.ListComp elt [⟨.Name x₁ px,iter,ifs,0⟩] scope pos) scope X.env cpos (newList []) false (eval iter X.env) use) Qf X.xe s:=by
 have hsome : ∀ y ∈ scope.names,y.2 = .free -> (X.env.cells.lookup y.1).isSome = true:=fun y hy hyf=>Option.isSome_iff_exists.mpr (I.ok.has y.1 (hfr y hy hyf))
 refine wpAny_comprehension_free (use:=use) rfl hs (zgh hsome) hkind hnames (thn (hi pins s σ H _ I h) fun xv s1 h1=>thn h1 fun itv s2 h2=>?_)
 obtain ⟨it,fp,tn,J,H2,e,I2,T,st2,f2,h⟩:=h2
 subst e
 refine wpAny_newObj_type (wpAny_newFunctionEnv hcell (by intro y hy; simp at hy) (fun h₁ hns₁ hsb₁=>?_) hkind)
 have hD0 : H2 s2.heap.objs.size = none:=I2.hok.fresh (Nat.le_refl _)
 obtain ⟨W,⟨m0,w0⟩,step⟩:=h s2.heap.objs.size hD0
 dsimp only at hns₁ hsb₁ ⊢
 have I3 : Inv X pins σ (upd H2 s2.heap.objs.size (.lst [])) { s2 with heap:=s2.heap.push { cls:=.type "list",dict:=none,data:=.seq ([] : List Value).toArray } } :=
  I2.laid (t' := s2.toks) (fun b u q=>Heap.get?_push_of_some _ q) (Nat.le_refl _) ⟨Nat.zero_le _,[],0,.nil,Heap.get?_push_size _ rfl⟩
 generalize hH3 : s2.heap.push { cls:=.type "list",dict:=none,data:=.seq ([] : List Value).toArray } = hp3 at hns₁ hsb₁ I3 ⊢
 have hsz3 : hp3.objs.size = s2.heap.objs.size + 1:=by rw [<- hH3,Heap.size_push]
 have k23 : ∀ b o,s2.heap.get? b = some o -> hp3.get? b = some o:=fun b o q=>by rw [<- hH3]; exact Heap.get?_push_of_some _ q
 have flt : ∀ b ∈ fp,b < s2.heap.objs.size:=fun b hb=>by
  obtain ⟨o,q,_⟩:=T.obj 0 _ st2 b hb
  exact Heap.lt_size q
 have f3 : ∀ b ∈ fp,FpOk X pins (upd H2 s2.heap.objs.size (.lst [])) b:=fun b hb=>by
  obtain ⟨g0,g⟩:=f2 b hb
  exact ⟨by rw [yaB (Nat.ne_of_lt (flt b hb))]; exact g0,g⟩
 have kC : ∀ b o,hp3.get? b = some o -> h₁.get? b = some o:=fun b o q=>(hsb₁.2 b (Nat.ne_of_lt (Heap.lt_size q))).trans (Heap.get?_push_of_some _ q)
 have B0:=I3.block (x₁:=x₁) (jf:=jf) (scope:=scope) (fp:=fp) (h1:=h₁) (tk:=s2.toks + ([] : List (Str × Value)).length) f3 (fun b hb=>by show b < hp3.objs.size; rw [hsz3]; exact Nat.lt_succ_of_lt (flt b hb)) hjf hjl hkind hcell hfr (by simpa using hns₁) kC
 have st4 : tn 0 h₁:=T.keep _ _ _ st2 fun b _ o q=>kC b o (k23 b o q)
 have w0' := w0
 have stat : ∀ {H' : Hp},(∀ b ∈ fp,H' b = none) -> ∀ b ∈ fp,FpOk (ybe X pins x₁ jf scope (ya0 X.env scope.names []) { s2 with heap:=hp3 } (upd H2 s2.heap.objs.size (.lst [])) fp) [] H' b:=fun hn b hb=>by
  obtain ⟨_,g1,g2,g3,g4,g5⟩:=f2 b hb
  refine ⟨hn b hb,Nat.ne_of_lt (by show b < hp3.objs.size; rw [hsz3]; exact Nat.lt_succ_of_lt (flt b hb)),fun z=>?_,.inl hb,fun y c q=>g4 y c (zcJ hsome (fun y c e=>by simp at e) y c q),fun p hp=>g5 p (by simpa [ybe] using hp)⟩
  rcases List.mem_cons.mp (I2.stkSub b z) with q | q
  ·exact g1 q
  ·exact g2 q
 have loop : codeAny (model X.prog X.w) X.A (.compLoop (.ListComp elt [⟨.Name x₁ px,iter,ifs,0⟩] scope pos) 0 (.ref it) (.ref s2.heap.objs.size) (compEnvC scope (ya0 X.env scope.names []) hp3.objs.size X.env))
   (compPost (model X.prog X.w) X.A X.xe use Qf (.ref s2.heap.objs.size) hp3.objs.size) { s2 with heap:=h₁,toks:=s2.toks + ([] : List (Str × Value)).length }:=by
  refine zep (fun n s' => ∃ i ys H',Inv (ybe X pins x₁ jf scope (ya0 X.env scope.names []) { s2 with heap:=hp3 } (upd H2 s2.heap.objs.size (.lst [])) fp) [] (ybB none jf σ) H' s' /\ tn i s'.heap /\ (∀ b ∈ fp,H' b = none) /\ W i n ys H') ?_ m0
   ⟨0,[],_,B0,st4,fun b hb=>(f3 b hb).1,w0⟩
  rintro n s5 ⟨i,ys,H5,I5,st5,fr5,w5⟩
  obtain ⟨hD5,alt⟩:=step i n ys H5 w5
  rcases alt with ⟨stop,q5⟩ | ⟨go,hlen,next⟩
  ·refine wpAny_mono (T.done (ybe X pins x₁ jf scope (ya0 X.env scope.names []) { s2 with heap:=hp3 } (upd H2 s2.heap.objs.size (.lst [])) fp) rfl rfl rfl hcalm i [] s5 _ H5 (fun _ _=>False) I5 (stat fr5) st5 stop) (fun r s6 ⟨hr,I6⟩=>?_) fun _ _ z=>z
   subst hr
   obtain ⟨m6,hn6,_⟩:=id I6.loc
   refine fin _ _ s6 H5 m6 ?_ q5 (I3.fpOk (Nat.le_refl _) I6.free) hn6
   refine I3.call' (ch:=fp) I6.os I6.base I6.hok I6.bare (fun b hb=>?_)
   obtain ⟨_,g1,g2,g3,g4,g5⟩:=f2 b hb
   exact ⟨g3,g1,g4,g5⟩
  ·refine wpAny_mono (T.item (ybe X pins x₁ jf scope (ya0 X.env scope.names []) { s2 with heap:=hp3 } (upd H2 s2.heap.objs.size (.lst [])) fp) rfl rfl rfl hcalm i [] s5 _ H5 (fun _ _=>False) I5 (stat fr5) st5 go) (fun r s6 ⟨u,hr,h6⟩=>?_) fun _ _ z=>z
   subst hr
   refine wpAny_mono h6 (fun _ s7 ⟨x,H7,I7,r7,y7,st7,fr7⟩=>?_) fun _ _ z=>z
   have I7' := I7.pinned (stat fr7) (T.obj _ _ st7)
   have hloc : Loc (ybe X pins x₁ jf scope (ya0 X.env scope.names []) { s2 with heap:=hp3 } (upd H2 s2.heap.objs.size (.lst [])) fp).env.scope x₁:=.inl (lookup_relabel_local hx)
   refine wpAny_assign_Name (zbI (i:=0) I7' hN rfl hloc r7 (fun s8 I8=>?_) (.inr (lookup_relabel_local hx)))
   have q8:=next x H7 y7
   have I8' : Inv (ybe X pins x₁ jf scope (ya0 X.env scope.names []) { s2 with heap:=hp3 } (upd H2 s2.heap.objs.size (.lst [])) fp) ([]++ycw fp s7.heap) (ybB (some x) jf σ) H7 s8:=I8
   have again : ∀ {s9 : Shared} {H9 : Hp} {zs : List V} {m' : Nat},Inv (ybe X pins x₁ jf scope (ya0 X.env scope.names []) { s2 with heap:=hp3 } (upd H2 s2.heap.objs.size (.lst [])) fp) ([]++ycw fp s7.heap) (ybB (some x) jf σ) H9 s9 -> m' < n -> W (i + 1) m' zs H9 ->
     ∃ m,m < n /\ ∃ i ys H',Inv (ybe X pins x₁ jf scope (ya0 X.env scope.names []) { s2 with heap:=hp3 } (upd H2 s2.heap.objs.size (.lst [])) fp) [] (ybB none jf σ) H' s9 /\ tn i s9.heap /\ (∀ b ∈ fp,H' b = none) /\ W i m ys H' := fun {s9 H9 zs m'} I9 hm w9=>by
    refine ⟨m',hm,i + 1,zs,H9,I9.unpinned.weak (by simp [ybB]) (fun j v e=>?_),T.keep _ _ _ st7 fun b hb o e=>(I9.pin (b,o) (List.mem_append_right _ (List.mem_append_right _ (za7 hb e)))).1,fun b hb=>?_,w9⟩
    ·cases j with
     | zero=>simp [ybB] at e
     | succ j=>simpa [ybB] using e
    ·obtain ⟨o,e,d⟩:=T.obj _ _ st7 b hb
     exact (I9.pin (b,o) (List.mem_append_right _ (List.mem_append_right _ (za7 hb e)))).2.1
   refine wpAny_mono (hc pins _ _ _ fp ([]++ycw fp s7.heap) s8 _ H7 _ I8' q8) (fun ok s9 ⟨H9,I9,q9⟩=>?_) fun _ _ z=>z
   cases ok with
   | false =>
    rw [if_neg Bool.false_ne_true] at q9 ⊢
    obtain ⟨m',hm,w9⟩:=q9
    exact again I9 hm w9
   | true =>
    rw [if_pos rfl] at q9 ⊢
    refine wpAny_mono (he pins _ _ _ fp ([]++ycw fp s7.heap) s9 _ H9 _ I9 q9) (fun y s10 ⟨v,H10,I10,r10,hD10,m',hm,w10⟩=>?_) fun _ _ z=>z
    refine wpAny_mono (zdK (X:=(ybe X pins x₁ jf scope (ya0 X.env scope.names []) { s2 with heap:=hp3 } (upd H2 s2.heap.objs.size (.lst [])) fp)) ([]++ycw fp s7.heap) s10 (ybB (some x) jf σ) H10 (.ref s2.heap.objs.size) [v] (.ref s2.heap.objs.size) [y] (fun _ H' => H' = upd H10 s2.heap.objs.size (.lst (ys++[v]))) I10 rfl (.cons r10 .nil) ⟨_,ys,v,rfl,rfl,hD10,hlen,rfl⟩)
     (fun _ s11 ⟨_,H11,I11,_,e11⟩=>?_) fun _ _ z=>z
    subst e11
    exact again I11 hm w10
 exact codeAny_compStart_list loop (T.self _ 0 _ _ _ st4 loop)
theorem ziG (hcalm : X.calm = true) (hi : PI X (.Name x₁ px) iter wi) (hc : ∀ pins cl s H fp,PTs (ybe X pins x₁ jf scope cl s H fp) ifs tc) (he : ∀ pins cl s H fp,PE (ybe X pins x₁ jf scope cl s H fp) elt te)
  (hN : (x₁ :: jf.map (·.2)).Nodup) (hx : scope.names.lookup x₁ = some .local) (hjf : ∀ p ∈ jf,X.N[p.1]? = some p.2) (hjl : ∀ p ∈ jf,scope.names.lookup p.2 = some .free) (hkind : scope.kind = .function)
  (hcell : ∀ y ∈ scope.names,y.2 ≠ .cell) (hfr : ∀ y ∈ scope.names,y.2 = .free -> X.env.kindOf y.1 = some .cell \/ X.env.kindOf y.1 = some .free)
  (hnames : ∀ y ∈ scope.names,y.2 = .local -> scope.names.lookup y.1 = some .local) (hs : ∀ x,foldedSetIterable iter X.env x = pure x:=by intro _; rfl) :
  PE X (.ListComp elt [⟨.Name x₁ px,iter,ifs,0⟩] scope pos) (yel jf wi tc te):=by
 intro pins s σ H Q I h
 rw [eval_ListComp]
 refine zeq hcalm hi hc he hN hx hjf hjl hkind hcell hfr hnames (use:=none) (Qf:=EP X pins σ Q) I h (fun D C s6 H6 m6 I6 q6 f6 n6=>?_) hs
 refine ⟨m6,n6,fun h' hs' => ⟨.ref D,H6,?_,rfl,q6⟩⟩
 exact I6.turnedL (fp:=[C]) (t' := s6.toks) (fun b o hb q=>(hs'.2 b (fun z=>hb (by simp [z]))).trans q) (fun b hb=>by
  have e : b = C:=by simpa using hb
  subst e
  exact f6)
theorem ziH {y : Str} {py spos : Pos} {i : Nat} (hcalm : X.calm = true) (hi : PI X (.Name x₁ px) iter wi) (hc : ∀ pins cl s H fp,PTs (ybe X pins x₁ jf scope cl s H fp) ifs tc) (he : ∀ pins cl s H fp,PE (ybe X pins x₁ jf scope cl s H fp) elt te)
  (hN : (x₁ :: jf.map (·.2)).Nodup) (hx : scope.names.lookup x₁ = some .local) (hjf : ∀ p ∈ jf,X.N[p.1]? = some p.2) (hjl : ∀ p ∈ jf,scope.names.lookup p.2 = some .free) (hkind : scope.kind = .function)
  (hcell : ∀ y ∈ scope.names,y.2 ≠ .cell) (hfr : ∀ y ∈ scope.names,y.2 = .free -> X.env.kindOf y.1 = some .cell \/ X.env.kindOf y.1 = some .free)
  (hnames : ∀ y ∈ scope.names,y.2 = .local -> scope.names.lookup y.1 = some .local) (hNX : X.N.Nodup) (hi' : X.N[i]? = some y) (hy : X.env.scope.names.lookup y = some .local)
  (hsw : swapsWith (.ListComp elt [⟨.Name x₁ px,iter,ifs,0⟩] scope pos) (some (.Name y py)) spos.line X.env = pure true) (hs : ∀ x,foldedSetIterable iter X.env x = pure x:=by intro _; rfl) :
  PS X (.Assign [.Name y py] (.ListComp elt [⟨.Name x₁ px,iter,ifs,0⟩] scope pos) spos) (tAsg (yel jf wi tc te) (yeE i)):=by
 intro pins s σ H D I h
 rw [exec_Assign_Name_used _ _ _ _ hsw]
 refine wpAny_bind (wpAny_standAt (wpAny_bind ?_))
 show wpAny _ X.A (do let _ <- comprehension (.ListComp elt [⟨.Name x₁ px,iter,ifs,0⟩] scope pos) scope X.env _ (newList []) false (eval iter X.env) (some (assign (.Name y py) X.env))) _ _ s
 refine wpAny_bind (wpAny_mono (zeq (Qf:=fun _ s' => SP X pins D .next s') hcalm hi hc he hN hx hjf hjl hkind hcell hfr hnames (use:=some (assign (.Name y py) X.env)) I h (fun D' C s6 H6 m6 I6 q6 f6 n6=>?_) hs) (fun _ s' hq=>wpAny_pure (wpAny_pure hq)) fun _ _ e=>e)
 refine wpAny_assign_Name (zdF I6 hNX hi' (.inl hy) (v:=.ref D') rfl (fun s7 I7 ⟨a,hsa,ha⟩=>?_) (.inr hy))
 have ne : C ≠ a:=by
  rcases ha with z | z
  ·rw [z]; exact f6.2.1
  ·exact fun q=>f6.2.2.2.2.1 y a z q.symm
 refine ⟨m6,n6.sameBut hsa ne,fun h' hs' => ⟨_,H6,?_,q6⟩⟩
 exact I7.turnedL (fp:=[C]) (t' := s7.toks) (fun b o hb q=>(hs'.2 b (fun z=>hb (by simp [z]))).trans q) (fun b hb=>by
  have e : b = C:=by simpa using hb
  subst e
  exact f6)
end
end L2
namespace L2
open PySem PySem.Spec PyProof.Rows
section
variable {X : Cx} {a b e : Expr} {ta tb : TE} {p p2 pos : Pos}
theorem zhy {c : V} {cv : Value} (rc : ∀ u,RelV c u -> u = cv) :
  CallR X (.builtin "isinstance") (fun xs H Q=>∃ x t r,xs = [x,c] /\ TyOf X.K H x t /\ PySem.W.kitOne X.K t cv = some r /\ Q (.bl r) H):=by
 intro pins s σ H xs us Q I r h
 obtain ⟨x,t,k,rfl,ty,hk,q⟩:=h
 obtain ⟨u,w',rfl,rx,ry⟩:=yei r
 obtain rfl:=rc _ ry
 exact zgH I rx ty hk fun tk=>⟨.bl k,H,I.tok _,rfl,q⟩
theorem ye8 (n : String) : ∀ u,RelV (.ty n) u -> u = Value.type n:=fun _ r=>r
theorem ygW (c : Addr) : ∀ u,RelV (.ref c) u -> u = Value.ref c:=fun _ r=>r
theorem zgP : OpR X (compareOp .LtE) (fun x y H Q=>∃ i j,x = .str i /\ y = .str j /\ Q (.bl (!decide (j.cps.toList < i.cps.toList))) H):=by
 intro pins s σ H x y v u Q I rx ry h
 obtain ⟨i,j,rfl,rfl,q⟩:=h
 obtain ⟨t,rfl⟩:=rx
 obtain ⟨t',rfl⟩:=ry
 exact PySem.P.le_str (yaV I q rfl)
theorem zer : MtR X "str.count" (fun x vs H Q=>∃ z y,x = .str z /\ vs = [.str y] /\ Q (.int ((Builtin.Str.occurrences z y 0 z.length (z.length + 1)).length : Nat)) H):=by
 intro pins s σ H x vs v us Q I rx rv h
 obtain ⟨z,y,rfl,rfl,q⟩:=h
 obtain ⟨t,rfl⟩:=rx
 obtain ⟨u,rfl,t',rfl⟩:=ydQ rv
 exact call_gives F.slot_str_count (typeIs_str s z t) F.entry_str_count (F.args_str_count_2 _ _) (gives_str_count z y t t') ⟨.int _,H,I.tok _,⟨_,rfl⟩,q⟩
theorem zgQ (l : List (Array Nat)) : ∀ acc : Array Nat,(l.foldl (· ++ ·) acc).toList = acc.toList++(l.map Array.toList).flatten:=by
 induction l with
 | nil=>intro acc; simp
 | cons x r ih=>intro acc; rw [List.foldl_cons,ih]; simp
theorem zhz (hc : X.calm = true) : CallR X (.builtin "all") (fun xs H Q=>∃ (a : Addr) (bs : List Bool),xs = [.ref a] /\ SqL X.K H a (bs.map V.bl) /\ Q (.bl (bs.all id)) H):=by
 intro pins s σ H xs us Q I r h
 obtain ⟨l,bs,rfl,hq,q⟩:=h
 obtain ⟨u,rfl,rx⟩:=ydQ r
 cases rx
 obtain ⟨its,rv,pl,hz⟩:=I.list hq
 have hlt : l < s.heap.objs.size:=by obtain ⟨_,_,e,_⟩:=pl; exact Heap.lt_size e
 have hlen : its.length = bs.length:=by rw [<- rv.length,List.length_map]
 refine call_all_walk (wpAny_pyIter_list pl.isList ?_)
 refine ⟨s.heap.objs.size,[s.heap.objs.size,l],[s.heap.objs.size],its.toArray.size,_,_,fun i=>(bs[i]?).getD true,rfl,Walks.list (A:=X.A.in1) (I.ok.hd hc) _ l (Nat.ne_of_lt hlt) its.toArray,
  ⟨⟨_,Heap.get?_push_size _ rfl,rfl,rfl⟩,pl.isList.push _⟩,fun i v s' Q' E' hP hQ=>?_,fun h' tk hk=>?_⟩
 ·have hP' : its[i]? = some v:=by simpa using hP
  have hi : i < its.length:=(List.getElem?_eq_some_iff.mp hP').1
  have hb : (bs.map V.bl)[i]? = some (V.bl (bs[i]'(by omega))):=by rw [List.getElem?_map,List.getElem?_eq_getElem (by omega)]; rfl
  obtain ⟨u,hu,ru⟩:=rv.get hb
  rw [hP'] at hu
  cases hu
  cases ru
  have e : (bs[i]?).getD true = bs[i]'(by omega):=by rw [List.getElem?_eq_getElem (by omega)]; rfl
  have hQ2 : Q' ((bs[i]?).getD true) s' := hQ
  rw [e] at hQ2
  exact wpAny_truthy_bool hQ2
 ·have e : ((List.range its.toArray.size).all fun i=>(bs[i]?).getD true) = bs.all id:=by
   rw [List.size_toArray,hlen,Bool.eq_iff_iff,List.all_eq_true,List.all_eq_true]
   constructor
   ·intro z c hc'
    obtain ⟨i,hi,rfl⟩:=List.getElem_of_mem hc'
    have:=z i (List.mem_range.mpr hi)
    rw [List.getElem?_eq_getElem hi] at this
    exact this
   ·intro z i hi
    have hi' := List.mem_range.mp hi
    rw [List.getElem?_eq_getElem hi']
    exact z _ (List.getElem_mem hi')
  rw [e]
  refine ⟨.bl _,H,I.kept (t' := tk) fun b o q=>?_,rfl,q⟩
  exact hk b o (fun hm=>by rw [List.mem_singleton.mp hm] at q; exact Nat.lt_irrefl _ (Heap.lt_size q)) (Heap.get?_push_of_some _ q)
end
end L2
namespace L2
open PySem PySem.Spec PyProof.Rows
section
variable {X : Cx}
theorem zhA : OpR X (binaryOp .FloorDiv) (rI (fun _ j=>0 < j /\ j < 2 ^ 200) fun i j=>.int (i / j)):=opI fun i j _ _ _ _ _ hc q=>by
 obtain ⟨h1,h2⟩:=hc
 refine floordiv_int (by omega) (by rw [Int.fdiv_eq_ediv_of_nonneg i (by omega)]; exact q) (.inl (PyProof.noPylong_of_log2 ?_))
 have h3 : j.natAbs < 2 ^ 200:=by omega
 have h4 : j.natAbs.log2 < 200:=(Nat.log2_lt (by omega)).mpr h3
 omega
theorem zhB : OpR X (binaryOp .Mult) (rI IntMulOk fun i j=>.int (i * j)):=opI fun _ _ _ _ _ _ _ hc q=>mul_int q hc
end
end L2
namespace L2
open PySem PySem.Spec PyProof.Rows
theorem ygX : bootBuiltins "int" = some (.type "int"):=by decide +kernel
theorem ziI : bootBuiltins "bool" = some (.type "bool"):=by decide +kernel
theorem yem : bootBuiltins "str" = some (.type "str"):=by decide +kernel
end L2
namespace L2
open PySem PySem.Spec PyProof.Rows
theorem ObjOk.some {P : Program} {w : World} {H : Hp} {h : Heap} {a : Addr} {o : HO} (x : ObjOk P w H h a o) : ∃ ob,h.get? a = Option.some ob:=by
 cases o with
 | lst xs=>obtain ⟨_,_,_,_,e⟩:=x; exact ⟨_,e⟩
 | tup xs=>obtain ⟨_,_,_,o,e,_⟩:=x; exact ⟨o,e⟩
 | dK kvs=>obtain ⟨_,_,_,_,o,_,_,e,_⟩:=x; exact ⟨_,e⟩
 | dT kvs=>obtain ⟨_,_,_,_,o,_,_,e,_⟩:=x; exact ⟨_,e⟩
 | set S n=>obtain ⟨o,_,_,_,e,_⟩:=x; exact ⟨_,e⟩
 | ins C dx fs=>obtain ⟨_,_,_,e,_⟩:=x; exact ⟨_,e⟩
 | own y=>obtain ⟨_,e⟩:=x; exact ⟨_,e⟩
 | xd fs=>obtain ⟨_,⟨_,_,_,e,_⟩,_⟩:=x; exact ⟨_,e⟩
 | rng lo hi=>obtain ⟨_,_,_,e⟩:=x; exact ⟨_,e⟩
 | frz ob u=>obtain ⟨e,_⟩:=x; exact ⟨_,e⟩
 | tbl ps=>exact ⟨_,(show h.get? a = Option.some _ from x)⟩
 | met f y=>exact ⟨_,(show h.get? a = Option.some _ from x)⟩
 | ext φ=>obtain ⟨_,⟨_,e⟩,_⟩:=x; exact ⟨_,e⟩
def Firm (X : Cx) (pins : List (Addr × Obj)) (H : Hp) (h B : Heap) : Prop :=
 ∀ b o,h.get? b = some o -> b ∉ frs X.stack -> ((∃ u,H b = some u) \/ (∃ o',X.s₀.heap.get? b = some o') \/ ∃ p ∈ X.pn++pins,p.1 = b) -> B.get? b = some o
section
variable {X : Cx} {pins : List (Addr × Obj)} {σ : St} {H : Hp} {s : Shared}
theorem Inv.nofr (I : Inv X pins σ H s) {b : Addr} {o : Obj} (e : X.s₀.heap.get? b = some o) (hb : b ∉ X.fs) : b ∉ frs X.stack:=fun z=>by
 rcases List.mem_cons.mp (I.stkSub b z) with q | q
 ·exact Nat.ne_of_lt (Nat.lt_of_lt_of_le (Heap.lt_size e) I.ok.above) q
 ·exact hb q
theorem Inv.nofrT (I : Inv X pins σ H s) {b : Addr} {u : HO} (e : H b = some u) : b ∉ frs X.stack:=fun z=>by
 have q:=I.stkFree b z
 rw [q] at e
 cases e
theorem Inv.nofrP (I : Inv X pins σ H s) {p : Addr × Obj} (hp : p ∈ X.pn++pins) : p.1 ∉ frs X.stack:=fun z=>by
 obtain ⟨_,_,ne,nf,_⟩:=I.pin p hp
 rcases List.mem_cons.mp (I.stkSub p.1 z) with q | q
 ·exact ne q
 ·exact nf q
theorem Inv.flown {B h' : Heap} {t' : Nat} (I : Inv X pins σ H s) (hex : X.ex = []) (F : Firm X pins H s.heap B) (st : B.StaysIn h') (sm : s.heap.UpToSlots h') : Inv X pins σ H { s with heap:=h',toks:=t' }:=by
 have nx : ∀ b,b ∉ X.ex:=fun b z=>by rw [hex] at z; cases z
 refine ⟨I.ok,I.os,I.bare,⟨fun b o e n hb hx=>?_,fun b o e n hb hx=>?_,I.base.free,fun b o e hx=>?_,I.base.tups,I.base.frzs,I.base.tbls⟩,?_,fun x c e=>?_,I.free,I.freeC,fun p hp=>?_,fun b u e=>?_,I.len⟩
 ·exact st b o (F b o (I.base.keep b o e n hb hx) (I.nofr e hb) (.inr (.inl ⟨o,e⟩)))
 ·obtain ⟨sl,q⟩:=I.base.slot b o e n hb hx
  obtain ⟨_,o',ho',hd⟩:=I.funs.mem hb
  rw [q] at ho'
  cases ho'
  obtain ⟨sl',q'⟩:=sm b _ q hd
  exact ⟨sl',q'⟩
 ·obtain ⟨o',q⟩:=I.base.there b o e hx
  by_cases hb : b ∈ X.fs
  ·obtain ⟨_,o'',ho'',hd⟩:=I.funs.mem hb
   rw [q] at ho''
   cases ho''
   obtain ⟨sl',q'⟩:=sm b _ q hd
   exact ⟨_,q'⟩
  ·exact ⟨o',st b o' (F b o' q (I.nofr e hb) (.inr (.inl ⟨o,e⟩)))⟩
 ·obtain ⟨m,hn,hl⟩:=I.loc
  refine ⟨m,sm.ns hn,fun i x v e1 e2 e3=>?_⟩
  obtain ⟨u,r,l⟩:=hl i x v e1 e2 e3
  refine ⟨u,r,?_⟩
  rcases l with l | ⟨k,c,e,o,ho,hd⟩
  ·exact .inl l
  ·obtain ⟨sl,q⟩:=sm c o ho fun vs z=>by rw [hd] at z; cases z
   exact .inr ⟨k,c,e,_,q,hd⟩
 ·obtain ⟨v,o,ho,hd⟩:=I.cell x c e
  obtain ⟨sl,q⟩:=sm c o ho fun vs z=>by rw [hd] at z; cases z
  exact ⟨v,_,q,hd⟩
 ·obtain ⟨e,n,ne,nf,d⟩:=I.pin p hp
  exact ⟨st _ _ (F _ _ e (I.nofrP hp) (.inr (.inr ⟨p,hp,rfl⟩))),n,ne,nf,d⟩
 ·refine (I.hok b u e).stay (fun c v hc q=>?_) (fun _ q=>q) fun _ _ q=>q
  rcases hc with z | z
  ·subst z
   exact st _ _ (F _ _ q (I.nofrT e) (.inl ⟨_,e⟩))
  ·exact st _ _ (F _ _ q (I.nofrT z) (.inl ⟨_,z⟩))
theorem Inv.adopt0 {T : Addr} {ob : HO} (I : Inv X pins σ H s) (hn : H T = none) (hT : X.s₀.heap.get? T = none) (hL : T ≠ X.env.locals) (hc : ∀ x c,X.env.cells.lookup x = some c -> c ≠ T)
  (hp : ∀ p ∈ X.pn++pins,p.1 ≠ T) (new : ObjOk X.prog X.w (upd H T ob) s.heap T ob) : Inv X pins σ (upd H T ob) s:=by
 have hne : ∀ b u,H b = some u -> b ≠ T:=fun b u e=>zap e hn
 have hs : ∀ b o,X.s₀.heap.get? b = some o -> b ≠ T:=fun b o e z=>by rw [z,hT] at e; cases e
 refine ⟨I.ok,I.os,I.bare,⟨I.base.keep,I.base.slot,fun b o e n hx=>by rw [yaB (hs b o e)]; exact I.base.free b o e n hx,I.base.there,fun b xs e=>?_,fun b o u e=>?_,fun b ps e=>?_⟩,I.loc,I.cell,by rw [yaB (Ne.symm hL)]; exact I.free,fun x c e=>by rw [yaB (hc x c e)]; exact I.freeC x c e,fun p hp' => ?_,fun b u e=>?_,I.len⟩
 ·have q:=I.base.tups b xs e
  rw [yaB (hne b _ q)]; exact q
 ·have q:=I.base.frzs b o u e
  rw [yaB (hne b _ q)]; exact q
 ·obtain ⟨more,q⟩:=I.base.tbls b ps e
  exact ⟨more,by rw [yaB (hne b _ q)]; exact q⟩
 ·obtain ⟨e,n,ne,nf,d⟩:=I.pin p hp'
  exact ⟨e,by rw [yaB (hp p hp')]; exact n,ne,nf,d⟩
 ·by_cases hb : b = T
  ·subst hb; rw [zat] at e; cases e; exact new
  ·rw [yaB hb] at e
   exact (I.hok b u e).stay (fun c v _ q=>q) (fun c q=>by rw [yaB (hne c _ q)]; exact q) fun c xs q=>by rw [yaB (hne c _ q)]; exact q
end
structure Arr (X : Cx) (pins : List (Addr × Obj)) (σ : St) (H : Hp) (a : Addr) (cls : Value) (s : Shared) : Prop where
 inv : Inv X pins σ H s
 un : H a = none
 new : X.s₀.heap.get? a = none
 nl : a ≠ X.env.locals
 nc : ∀ x c,X.env.cells.lookup x = some c -> c ≠ a
 np : ∀ p ∈ X.pn++pins,p.1 ≠ a
 fly : ∃ B a0,Firm X pins H s.heap B /\ B.StaysIn s.heap /\ B.get? a = none /\ s.heap.FunFrames B X.stack /\
  ((∃ oe vs,s.heap.get? a = some oe /\ oe.cls = cls /\ oe.data = .fields vs /\ vs[0]? = some a0 /\ vs[1]? = some .none) \/ s.heap.TracedW B a cls a0)
def CXE (P : Program) (w : World) : CXT:=fun outer H s E e s' => ∃ (a : Addr) (cls a0 : Value) (H' : Hp) (B : Heap),e = .ref a /\ s'.os = s.os /\ AllBare s'.gens /\ Un (frs outer) [] H H' s.heap s'.heap /\ HOk P w H' s'.heap /\
 Heap.FlyingW B outer a cls a0 s'.heap /\ (∀ b o,s'.heap.get? b = some o -> b ∉ frs outer -> ((∃ u,H' b = some u) \/ ∃ o',s.heap.get? b = some o') -> B.get? b = some o) /\ H' a = none /\ s.heap.get? a = none /\ E cls none H'
section
variable {X : Cx} {pins : List (Addr × Obj)} {σ : St} {H : Hp} {s : Shared}
theorem zhC {h' : Heap} {e : Addr} {cls : Value} {args : List Value} {t' : Nat} (I : Inv X pins σ H s) (hex : X.ex = []) (hx : Heap.MadeExcOf s.heap h' e cls args) : Arr X pins σ H e cls { s with heap:=h',toks:=t' }:=by
 have nx : ∀ b,b ∉ X.ex:=fun b z=>by rw [hex] at z; cases z
 have none_of : ∀ b o,s.heap.get? b = some o -> b ≠ e:=fun b o q z=>by rw [z,hx.new] at q; cases q
 have eq_of : ∀ b o o1,h'.get? b = some o -> s.heap.get? b = some o1 -> o1 = o:=fun b o o1 q q1=>by
  have z:=hx.keeps b o1 q1
  rw [q] at z
  exact (Option.some.inj z).symm
 obtain ⟨t,he,_,_⟩:=hx.there
 refine ⟨I.kept hx.keeps,?_,?_,fun z=>?_,fun x c q z=>?_,fun p hp z=>?_,PySem.W.hideAll s.heap (frs X.stack),.ref t,fun b o q nb alt=>?_,fun b o q=>hx.keeps b o (PySem.W.of_hideAll _ q),?_,?_,.inl ⟨_,_,he,rfl,rfl,rfl,rfl⟩⟩
 ·cases q : H e with
  | none=>rfl
  | some u =>
   obtain ⟨ob,z⟩:=(I.hok e u q).some
   exact absurd rfl (none_of e ob z)
 ·cases q : X.s₀.heap.get? e with
  | none=>rfl
  | some o =>
   obtain ⟨ob,z⟩:=I.base.there e o q (nx e)
   exact absurd rfl (none_of e ob z)
 ·obtain ⟨m,⟨o,_,_,ho,_⟩,_⟩:=I.loc
  exact none_of _ o ho z.symm
 ·obtain ⟨v,o,ho,_⟩:=I.cell x c q
  exact none_of _ o ho z
 ·exact none_of _ _ (I.pin p hp).1 z
 ·have there : ∃ o1,s.heap.get? b = some o1:=by
   rcases alt with ⟨u,q'⟩ | ⟨o',q'⟩ | ⟨p,hp,rfl⟩
   ·exact (I.hok b u q').some
   ·exact I.base.there b o' q' (nx b)
   ·exact ⟨_,(I.pin p hp).1⟩
  obtain ⟨o1,q1⟩:=there
  rw [<- eq_of b o o1 q q1]
  exact PySem.W.hideAll_get _ q1 nb
 ·cases q : (PySem.W.hideAll s.heap (frs X.stack)).get? e with
  | none=>rfl
  | some o=>exact absurd rfl (none_of e o (PySem.W.of_hideAll _ q))
 ·refine (PySem.W.funFrames_hide I.stack fun env henv b hb=>List.mem_filterMap.mpr ⟨env,henv,hb⟩).of_keeps fun b o q _=>⟨o,hx.keeps b o q,rfl⟩
theorem zes {E : XK} {e : Value} {s' : Shared} (I : Inv X pins σ H s) (hex : X.ex = []) (h : CXE X.prog X.w X.stack H s E e s') : ∃ a cls H',e = .ref a /\ Arr X pins σ H' a cls s' /\ E cls none H' := by
 obtain ⟨a,cls,a0,H',B,rfl,os,bare,un,hok,⟨f1,f2,f3,f4⟩,ext,na,ns,q⟩:=h
 have nx : ∀ b,b ∉ X.ex:=fun b z=>by rw [hex] at z; cases z
 have none_of : ∀ b o,s.heap.get? b = some o -> b ≠ a:=fun b o q z=>by rw [z,ns] at q; cases q
 refine ⟨a,cls,H',rfl,⟨I.call' (ch:=[]) os un hok bare (fun b z=>absurd z (by simp)),na,?_,fun z=>?_,fun x c q z=>?_,fun p hp z=>?_,B,a0,fun b o q nb alt=>?_,f1,f2,f3,.inr f4⟩,q⟩
 ·cases q : X.s₀.heap.get? a with
  | none=>rfl
  | some o =>
   obtain ⟨ob,z⟩:=I.base.there a o q (nx a)
   exact absurd rfl (none_of a ob z)
 ·obtain ⟨m,⟨o,_,_,ho,_⟩,_⟩:=I.loc
  exact none_of _ o ho z.symm
 ·obtain ⟨v,o,ho,_⟩:=I.cell x c q
  exact none_of _ o ho z
 ·exact none_of _ _ (I.pin p hp).1 z
 ·refine ext b o q nb ?_
  rcases alt with ⟨u,q'⟩ | ⟨o',q'⟩ | ⟨p,hp,rfl⟩
  ·exact .inl ⟨u,q'⟩
  ·exact .inr (I.base.there b o' q' (nx b))
  ·exact .inr ⟨_,(I.pin p hp).1⟩
theorem Arr.land {a : Addr} {cls : Value} {Q : Unit -> Shared -> Prop} {E : Value -> Shared -> Prop} {M : Model} {A : Around} (R : Arr X pins σ H a cls s) (hex : X.ex = []) (hfr : A.frames = some X.stack) {outer : List Env} (hst : X.stack = X.env :: outer) (hf : X.env.frame = some X.env.locals)
  (hQ : ∀ h' B a0,Firm X pins H s.heap B -> Heap.FlyingW B X.stack a cls a0 h' -> s.heap.UpToSlots h' -> Inv X pins σ H { s with heap:=h' } -> Q () { s with heap:=h' }) :
  wpAny M A (noteFrame (.ref a) X.env) (fun _ s₂=>wpAny M A (setFlight (.ref a) none) Q E s₂) E s:=by
 obtain ⟨B,a0,fm,st,hb,ff,alt⟩:=R.fly
 have after : ∀ h4,Heap.HeldW B X.stack a cls a0 X.env.locals h4 -> s.heap.UpToSlots h4 -> wpAny M A (setFlight (.ref a) none) Q E { s with heap:=h4 }:=fun h4 hh sm=>by
  refine wpAny_landsW (s:={ s with heap:=h4 }) hh fun h5 fl sm5=>?_
  have sm' : s.heap.UpToSlots h5:=sm.trans sm5
  exact hQ h5 B a0 fm fl sm' (R.inv.flown (t' := s.toks) hex fm fl.1 sm')
 rw [hst] at hfr
 rw [hst] at ff
 rcases alt with ⟨oe,vs,he,hc,hd,h0,h1⟩ | tr
 ·subst hc
  have hsz : 1 < vs.size:=(Array.getElem?_eq_some_iff.mp h1).1
  unfold noteFrame
  simp only [hf]
  refine wpAny_bind (wpAny_field he hd h1 ?_)
  rw [if_neg (by decide)]
  refine wpAny_entryW hfr ff hf he st hb hd hsz h0 fun h4 hN=>?_
  obtain ⟨k1,k2,k3,k4⟩:=hN
  exact after h4 (by rw [hst]; exact ⟨k1,hb,k2,k3⟩) k4
 ·exact wpAny_looks_onW hfr hf ⟨st,hb,ff,tr⟩ fun h4 hh sm=>after h4 (by rw [hst]; exact hh) sm
theorem zdN {P : Program} {w : World} {K : PySem.W.Frag} {mg : Str -> Option Value} {base : Heap} {N : List Str} {qual : Str} {scope : Scope} {f : Addr} {cd : Value} {A : Around} {outer : List Env} {s0 : Shared} {H0 : Hp} {E : XK} {a : Addr} {cls : Value}
  (R : Arr (cxOf (CXE P w) P w K mg base N qual scope f cd A outer s0 H0 E) pins σ H a cls s) (q : E cls none H) : (cxOf (CXE P w) P w K mg base N qual scope f cd A outer s0 H0 E).xe (.ref a) s:=by
 show wpAny _ _ (leaving _ _) _ _ s
 unfold leaving
 refine wpAny_bind (R.land (E:=fun e' s'' => CXE P w outer H0 s0 E e' s'') rfl R.inv.ok.frames rfl rfl fun h' B a0 fm fl sm I' => ?_)
 have I:=R.inv
 obtain ⟨k1,k2,⟨_,_,k3⟩,k4⟩:=fl
 refine ⟨a,cls,a0,H,B,rfl,I'.os,I'.bare,I'.base,I'.hok,⟨k1,k2,k3,k4⟩,fun b o e nb alt=>?_,R.un,R.new,q⟩
 have nstk : b ∉ frs (cxOf (CXE P w) P w K mg base N qual scope f cd A outer s0 H0 E).stack:=by
  rcases alt with ⟨u,z⟩ | ⟨o',z⟩
  ·exact I.nofrT z
  ·exact I.nofr z nb
 have there : ∃ o1,s.heap.get? b = some o1:=by
  rcases alt with ⟨u,z⟩ | ⟨o',z⟩
  ·exact (I.hok b u z).some
  ·exact I.base.there b o' z (fun z=>absurd (show b ∈ ([] : List Addr) from z) (by simp))
 obtain ⟨o1,q1⟩:=there
 have z : B.get? b = some o1:=fm b o1 q1 nstk (by
  rcases alt with ⟨u,z⟩ | ⟨o',z⟩
  ·exact .inl ⟨u,z⟩
  ·exact .inr (.inl ⟨o',z⟩))
 have z2:=k1 b o1 z
 rw [show (Heap.get? h' b) = some o from e] at z2
 cases z2
 exact z
end
def ycN (X : Cx) (Ex : St -> XK) : Prop:=∀ (pins : List (Addr × Obj)) (σ : St) (H : Hp) (s : Shared) (a : Addr) (cls : Value),Arr X pins σ H a cls s -> Ex σ cls none H -> X.xe (.ref a) s
def ycO (CX : CXT) (X : Cx) (Ex : St -> XK) : Prop:=∀ (pins : List (Addr × Obj)) (σ : St) (H : Hp) (s : Shared) (e : Value) (s' : Shared),Inv X pins σ H s -> CX X.stack H s (Ex σ) e s' -> X.xe e s'
section
variable {P : Program} {w : World} {K : PySem.W.Frag} {mg : Str -> Option Value} {base : Heap} {N : List Str} {qual : Str} {scope : Scope} {f : Addr} {cd : Value} {A : Around} {outer : List Env} {s0 : Shared} {H0 : Hp} {E : XK}
theorem zaI : ycN (cxOf (CXE P w) P w K mg base N qual scope f cd A outer s0 H0 E) (fun _=>E):=fun _ _ _ _ _ _ R q=>zdN R q
theorem ziJ : ygN (CXE P w) (cxOf (CXE P w) P w K mg base N qual scope f cd A outer s0 H0 E) E:=fun pins σ H s e s' I h=>by
 obtain ⟨a,cls,H',rfl,R,q⟩:=zes (X:=cxOf (CXE P w) P w K mg base N qual scope f cd A outer s0 H0 E) I rfl h
 exact zdN R q
end
section
variable {X : Cx} {x : Str} {C : Addr} {bm : List Value} {B newId initId : String} {np cpos pos : Pos} {e : Expr} {es : List Expr} {t : TA} {Ex : St -> XK}
def ygY (cls : Value) (Ex : St -> XK) (t : TA) : TS:=fun _ σ H=>t σ H fun vs H1=>vs.length <= 1000 /\ Ex σ cls none H1
theorem zhD (O : OwnCls x C bm newId X.mg X.base) (FB : ExcBaseFacts B newId initId bm) (hc : X.calm = true) (hex : X.ex = []) (hr : ycN X Ex) (hg : Gl X x) (ha : PA X (e :: es) t)
  (hdb : (x == ("__debug__" : Str)) = false:=by decide) (he : starEach (e :: es) X.env = (false,eval e X.env) :: starEach es X.env:=by rfl) (hpl : (backTo cpos (starEach es X.env)).any (·.1) = false:=by rfl) :
  PS X (.Raise (some (.Call (.Name x np) (e :: es) [] cpos)) none pos) (ygY (.ref C) Ex t):=by
 intro pins s σ H D I h
 obtain ⟨tl,NN,nm,q,bs,hdct,sn,sub,ab,col,dd,k0,k1,k2,k3,k5,mN,hC,hN,hni,T⟩:=O.obj
 refine wpAny_Raise_call_subT (C:=C) (nm:=nm) (q:=q) (N:=NN) (bs:=bs) (bm:=tl) (hdct:=hdct) (sn:=sn) (sub:=sub) (ab:=ab) (col:=col) (dd:=dd) (k0:=k0) (k1:=k1) (k2:=k2) (k3:=k3) (k5:=k5) FB (mN:=mN)
  (T.hasType FB.hasBase) (I.ok.hd hc) (by rw [he]; show (false || (backTo cpos (starEach es X.env)).any (·.1)) = false; rw [hpl]; rfl) hni (zby I hg O.bound ⟨rfl,?_⟩ hdb)
 have hA:=ha cpos pins s σ H _ I h
 rw [he] at hA ⊢
 refine Calls.evalArgs_plain (thn hA fun us s2 ⟨vs,H1,I1,r1,hl,q1⟩=>⟨rfl,?_,I1.bk _ _ hC,hN.keeps I1.bk,T.keeps I1.bk,fun h' a hm=>hr pins σ H1 _ a _ (zhC (t' := s2.toks) I1 hex hm) q1⟩)
 show us.length <= sizeLine
 rw [<- r1.length]
 exact Nat.le_trans hl (by decide)
end
section
variable {X : Cx} {CX : CXT} {k : Nat} {f C : Addr} {fd : FuncData} {ps : List Str} {sp : Sp} {dvs : List V} {ds : List Value} {Ex : St -> XK} {x m : Str} {p pos apos : Pos} {e o : Expr} {es : List Expr} {ta : TE} {t : TA}
theorem zde {pins : List (Addr × Obj)} {σ : St} {H : Hp} {s : Shared} {Q : VK} {us : List Value} {vs : List V} (F : FnOk X.prog X.w X.K X.mg X.base CX k f fd ps sp) (hr : Room k X.A) (hb : Binds X.K fd ps ds) (hd : Vals dvs ds) (hx : ycO CX X Ex)
  (I : Inv X pins σ H s) (r : Vals vs us) (h : sp (vs++dvs) H Q (Ex σ)) : wpAny (model X.prog X.w) X.A (call (.ref f) us) (EP X pins σ Q) X.xe s:=by
 have r2 : Vals (vs++dvs) (us++ds):=r.append hd
 have hl : (us++ds).length = ps.length:=by rw [<- r2.length]; exact F.len _ _ _ _ h
 refine wpAny_call (codeAny_mono (F.run X.A X.stack s H ⟨us,[]⟩ (us++ds) (vs++dvs) Q (Ex σ) hr I.env0 (hb s us I.kIn hl) r2 h) fun r s' hq=>?_)
 cases r with
 | error e=>exact hx pins σ H s e s' I hq
 | ok fl =>
  cases fl with
  | ret u=>exact I.after hq
  | next=>exact False.elim hq
  | brk=>exact False.elim hq
  | cont=>exact False.elim hq
def ygZ (sp : Sp) (dvs : List V) (Ex : St -> XK) (t : TA) : TE:=fun σ H Q=>t σ H fun vs H1=>sp (vs++dvs) H1 Q (Ex σ)
theorem zhE (F : FnOk X.prog X.w X.K X.mg X.base CX k f fd ps sp) (hr : Room k X.A) (hg : Gl X x) (hm : X.mg x = some (.ref f)) (hk : PySem.W.keepIn X.K (.ref f) = true) (hb : Binds X.K fd ps ds) (hd : Vals dvs ds) (hx : ycO CX X Ex)
  (ha : PA X (e :: es) t) (hdb : (x == ("__debug__" : Str)) = false:=by decide) (he : starEach (e :: es) X.env = (false,eval e X.env) :: starEach es X.env:=by rfl) (hpl : (backTo pos (starEach es X.env)).any (·.1) = false:=by rfl) :
  PE X (.Call (.Name x p) (e :: es) [] pos) (ygZ sp dvs Ex t):=by
 intro pins s σ H Q I h
 refine wpAny_Call_Name_kw (zby I hg hm ?_ hdb)
 refine PySem.W.callWith_K (h₀:=X.base) I.ok.mod.kin hk (thn (ha pos pins s σ H _ I h) fun us s1 ⟨vs,H1,I1,r,q⟩=>⟨I1.kIn,?_⟩) he hpl
 exact zde F hr hb hd hx I1 r q
def yfp (C : Addr) (m : Str) (sp : Sp) (dvs : List V) (Ex : St -> XK) (ta : TE) (t : TA) : TE:=fun σ H Q=>ta σ H fun x H1=>∃ a dx fs,x = .ref a /\ H1 a = some (.ins C dx fs) /\ fs.lookup m = none /\
 t σ H1 fun vs H2=>sp (x :: (vs++dvs)) H2 Q (Ex σ)
theorem zhF {pl : Sem Bool} (he : PE X o ta) (c : Cls X.K C) (hm : Meth X.K C m f) (F : FnOk X.prog X.w X.K X.mg X.base CX k f fd ps sp) (hr : Room k X.A) (hb : Binds X.K fd ps ds) (hd : Vals dvs ds) (hx : ycO CX X Ex) (ha : PA X (e :: es) t)
  (hst : starEach (e :: es) X.env = (false,eval e X.env) :: starEach es X.env:=by rfl) (hpl : (backTo pos (starEach es X.env)).any (·.1) = false:=by rfl)
  (ht : eval (.Call (.Attribute o m apos) (e :: es) [] pos) X.env = (do
   let ov <- eval o X.env
   standAt apos.atName
   let (f,first) <- holding [ov] (getMethod ov m pl)
   callWith pos f first (backTo pos (starEach (e :: es) X.env)) (backToKw pos (keywordEach [] X.env))):=by rfl) :
  PE X (.Call (.Attribute o m apos) (e :: es) [] pos) (yfp C m sp dvs Ex ta t):=by
 intro pins s σ H Q I h
 refine PySem.W.methodCall_KW (pl:=pl) (thn (he pins s σ H _ I h) fun u s1 ⟨x,H1,I1,rx,a,dx,fs,ex,ea,l,q⟩=>?_) ht
 subst ex
 obtain rfl : u = Value.ref a:=rx
 refine zcX I1 ea c hm l ?_
 refine PySem.W.callWith_K (first:=[.ref a]) (h₀:=X.base) I.ok.mod.kin hm.kp (thn (ha pos pins s1 σ H1 _ I1 q) fun us s2 ⟨vs,H2,I2,r,q2⟩=>⟨I2.kIn,?_⟩) hst hpl
 exact zde (us:=.ref a :: us) (vs:=.ref a :: vs) F hr hb hd hx I2 (.cons rfl r) q2
end
abbrev tryC (X : Cx) (pins : List (Addr × Obj)) (xe : Value -> Shared -> Prop) : Cx:={ X with pn:=X.pn++pins,xe:=xe }
abbrev hdlC (X : Cx) (a : Addr) : Cx:={ X with A:=X.A.mark (some (.ref a)),calm:=false,xe:=fun _ _=>False }
def excO (a : Addr) (cls : Value) : HO:=.ext fun h=>∃ ob vs,h.get? a = some ob /\ ob.cls = cls /\ ob.data = .fields vs
section
variable {X : Cx} {pins pins' : List (Addr × Obj)} {σ : St} {H : Hp} {s : Shared} {xe : Value -> Shared -> Prop}
theorem Cx.Ok.tryC (ok : X.Ok) : (tryC X pins xe).Ok:=⟨ok.mod,ok.kind,ok.glob,ok.blt,ok.above,ok.inj,ok.has,ok.cab,ok.hd,ok.frames,ok.stk,ok.exf,ok.bs,ok.bsz,ok.noex,ok.exfs,ok.funs,ok.frf⟩
theorem Cx.Ok.untry (ok : (L2.tryC X pins xe).Ok) : X.Ok:=⟨ok.mod,ok.kind,ok.glob,ok.blt,ok.above,ok.inj,ok.has,ok.cab,ok.hd,ok.frames,ok.stk,ok.exf,ok.bs,ok.bsz,ok.noex,ok.exfs,ok.funs,ok.frf⟩
theorem Cx.Ok.hdl (ok : X.Ok) (a : Addr) : (hdlC X a).Ok:=⟨ok.mod,ok.kind,ok.glob,ok.blt,ok.above,ok.inj,ok.has,ok.cab,fun z=>(nomatch z),ok.frames,ok.stk,ok.exf,ok.bs,ok.bsz,ok.noex,ok.exfs,ok.funs,ok.frf⟩
theorem Inv.toTry (I : Inv X pins σ H s) : Inv (tryC X pins xe) [] σ H s:=⟨I.ok.tryC,I.os,I.bare,I.base,I.loc,I.cell,I.free,I.freeC,fun p hp=>I.pin p (by simpa using hp),I.hok,I.len⟩
theorem Inv.untry (I : Inv (tryC X pins xe) pins' σ H s) : Inv X pins σ H s:=⟨I.ok.untry,I.os,I.bare,I.base,I.loc,I.cell,I.free,I.freeC,fun p hp=>I.pin p (List.mem_append_left _ hp),I.hok,I.len⟩
theorem Inv.hdl (I : Inv X pins σ H s) (a : Addr) : Inv (hdlC X a) pins σ H s:=⟨I.ok.hdl a,I.os,I.bare,I.base,I.loc,I.cell,I.free,I.freeC,I.pin,I.hok,I.len⟩
theorem Inv.unhdl {a : Addr} (I : Inv (hdlC X a) pins σ H s) (ok : X.Ok) : Inv X pins σ H s:=⟨ok,I.os,I.bare,I.base,I.loc,I.cell,I.free,I.freeC,I.pin,I.hok,I.len⟩
theorem Arr.untry {a : Addr} {cls : Value} (R : Arr (tryC X pins xe) pins' σ H a cls s) : Arr X pins σ H a cls s:=by
 obtain ⟨B,a0,fm,r⟩:=R.fly
 refine ⟨R.inv.untry,R.un,R.new,R.nl,R.nc,fun p hp=>R.np p (List.mem_append_left _ hp),B,a0,fun b o q nb alt=>fm b o q nb ?_,r⟩
 rcases alt with z | z | ⟨p,hp,e⟩
 ·exact .inl z
 ·exact .inr (.inl z)
 ·exact .inr (.inr ⟨p,List.mem_append_left _ hp,e⟩)
theorem zbm {M : Model} {A : Around} {E : Value -> Shared -> Prop} {n : Str} {i : Nat} {pos : Pos} {Q : Unit -> Shared -> Prop} (I : Inv X pins σ H s) (hN : X.N.Nodup) (hi : X.N[i]? = some n) (hk : X.env.scope.names.lookup n = some .local)
  (h : ∀ s',Inv X pins (σ.set i none) H s' -> Q () s') : wpAny M A (do bindName X.env n .none; unbindBehindTheSuite X.env n pos) Q E s:=by
 obtain ⟨m,hn,hl⟩:=id I.loc
 refine wpAny_nameGoes_keeps hk hn (by rw [I.ok.kind]; rfl) fun h' v hn' hs=>h _ ?_
 have cne:=I.cne
 refine ⟨I.ok,I.os,I.bare,Un.sameBut I.base (Heap.get?_none_of_le I.ok.above) hs,⟨_,hn',fun j y v' e1 e2 e3=>?_⟩,fun y c e=>?_,I.free,I.freeC,fun p hp=>?_,I.hok.sameBut I.free hs,by simpa using I.len⟩
 ·by_cases hj : j = i
  ·subst hj
   by_cases hlt : j < σ.length
   ·rw [List.getElem?_set_self hlt] at e2; cases e2
   ·rw [List.getElem?_eq_none (by simpa using hlt)] at e2; cases e2
  ·rw [List.getElem?_set_ne (Ne.symm hj)] at e2
   obtain ⟨u',r',q⟩:=hl j y v' e1 e2 e3
   refine ⟨u',r',?_⟩
   rcases q with ⟨k,e⟩ | ⟨k,c,e,z⟩
   ·refine .inl ⟨k,?_⟩
    have ne : y ≠ n:=fun e=>hj (zbH hN e1 (e ▸ hi))
    simp [ne,e]
   ·exact .inr ⟨k,c,e,z.sameBut hs (cne y c e)⟩
 ·obtain ⟨w',z⟩:=I.cell y c e
  exact ⟨w',z.sameBut hs (cne y c e)⟩
 ·obtain ⟨e,nn,ne,nf,d⟩:=I.pin p hp
  exact ⟨(hs.2 p.1 ne).trans e,nn,ne,nf,d⟩
end
def tTry (K : PySem.W.Frag) (i : Nat) (C : Addr) (tb : (St -> XK) -> TS) (th : TS) : TS:=fun D σ H =>
 tb (fun σ' cls _ H' => PySem.W.exmOne K cls (.ref C) = some true /\ ∀ a,H' a = none -> th { nx:=fun σ2 H2=>D.nx (σ2.set i none) H2,rt:=D.rt,bk:=fun σ2 H2=>D.bk (σ2.set i none) H2,ct:=fun σ2 H2=>D.ct (σ2.set i none) H2 } (σ'.set i (some (.ref a))) (upd H' a (excO a cls))) D σ H
theorem zb7 {M : Model} {h : Heap} {a : Addr} {ob : Obj} (e : h.get? a = some ob) : PySem.W.Looks M h (typeOf (.ref a)) ob.cls:=(PySem.W.Looks.ld e).andThen .now
section
variable {X : Cx} {xc n : Str} {C : Addr} {i : Nat} {body suite : List Stmt} {b0 : Stmt} {np hpos pos : Pos} {tb : (St -> XK) -> TS} {th : TS} {outer : List Env}
theorem yg0 (hex : X.ex = []) (hst : X.stack = X.env :: outer) (hf : X.env.frame = some X.env.locals) (hN : X.N.Nodup) (hi : X.N[i]? = some n) (hl : X.env.scope.names.lookup n = some .local) (hg : Gl X xc) (hm : X.mg xc = some (.ref C))
  (hb : ∀ pins xe Ex,ycO (CXE X.prog X.w) (tryC X pins xe) Ex -> ycN (tryC X pins xe) Ex -> PSs (tryC X pins xe) body (tb Ex)) (hh : ∀ a,PSs (hdlC X a) (b0 :: suite) th) (hdb : (xc == ("__debug__" : Str)) = false:=by decide) :
  PS X (.Try body [.ExceptHandler (some (.Name xc np)) (some n) (b0 :: suite) hpos] [] [] pos) (tTry X.K i C tb th):=by
 intro pins s σ H D I h
 have okX:=I.ok
 let Ex : St -> XK:=fun σ' cls _ H' => PySem.W.exmOne X.K cls (.ref C) = some true /\ ∀ a,H' a = none -> th { nx:=fun σ2 H2=>D.nx (σ2.set i none) H2,rt:=D.rt,bk:=fun σ2 H2=>D.bk (σ2.set i none) H2,ct:=fun σ2 H2=>D.ct (σ2.set i none) H2 } (σ'.set i (some (.ref a))) (upd H' a (excO a cls))
 let xe : Value -> Shared -> Prop:=fun e s' => ∃ σ' H' a cls,e = .ref a /\ Arr X pins σ' H' a cls s' /\ Ex σ' cls none H'
 have hR : ycN (tryC X pins xe) Ex:=fun pins' σ' H' s' a cls R q=>⟨σ',H',a,cls,rfl,R.untry,q⟩
 have hP : ycO (CXE X.prog X.w) (tryC X pins xe) Ex:=fun pins' σ' H' s1 e s2 I' hq=>by
  obtain ⟨a,cls,H2,rfl,R,q⟩:=zes (X:=tryC X pins xe) I' hex hq
  exact ⟨σ',H2,a,cls,rfl,R.untry,q⟩
 have hbody:=hb pins xe Ex hP hR [] s σ H D (I.toTry (xe:=xe)) h
 refine wpAny_Try_except (wpAny_mono hbody (fun f s1 q=>?_) fun e s1 q=>?_)
 ·cases f with
  | next=>obtain ⟨σ1,H1,I1,q1⟩:=q; exact wpAny_execs_nil ⟨σ1,H1,I1.untry,q1⟩
  | brk=>obtain ⟨σ1,H1,I1,q1⟩:=q; exact ⟨σ1,H1,I1.untry,q1⟩
  | cont=>obtain ⟨σ1,H1,I1,q1⟩:=q; exact ⟨σ1,H1,I1.untry,q1⟩
  | ret u=>obtain ⟨v1,σ1,H1,I1,r1,q1⟩:=q; exact ⟨v1,σ1,H1,I1.untry,r1,q1⟩
 ·obtain ⟨σ1,H1,a,cls,rfl,R,hxm,q1⟩:=q
  refine R.land hex okX.frames hst hf fun h5 B a0 fm fl sm I5=>?_
  obtain ⟨oe,vs,hoe,hoec,hoed,_⟩:=fl.first
  have I5h:=I5.hdl a
  refine wpAny_handleBy_cons (codeAny_handlers_test (zby (X:=hdlC X a) I5h hg hm ?_ hdb)) (by intro z; cases z)
  refine (PySem.W.exm_one I5.kIn (hoec ▸ zb7 hoe) hxm).here ?_
  refine codeAny_handlers_suite_as ?_
  refine lands_againW fl fun h6 fl6 sm6=>?_
  have I6 : Inv X pins σ1 H1 { s1 with heap:=h6 }:=R.inv.flown (t' := s1.toks) hex fm fl6.1 (sm.trans sm6)
  obtain ⟨oe6,vs6,hoe6,hoec6,hoed6,_⟩:=fl6.first
  have I7 : Inv X pins σ1 (upd H1 a (excO a cls)) { s1 with heap:=h6 }:=I6.adopt0 R.un R.new R.nl R.nc R.np
   ⟨⟨oe6,vs6,hoe6,hoec6,hoed6⟩,⟨oe6,hoe6⟩,fun g1 g2 ⟨ob,ws,z1,z2,z3⟩ k=>⟨ob,ws,k ob z1,z2,z3⟩⟩
  refine zbI (X:=hdlC X a) (I7.hdl a) hN hi (.inl hl) (v:=.ref a) rfl (fun s8 I8=>?_) (.inr hl)
  refine wpAny_mono (hh a pins s8 _ _ _ I8 (q1 a R.un)) (fun f s9 q9=>?_) fun _ _ z=>z.elim
  cases f with
  | next=>obtain ⟨σ2,H2,I2,q2⟩:=q9; exact zbm (I2.unhdl okX) hN hi hl fun s' I' => ⟨_,H2,I',q2⟩
  | brk=>obtain ⟨σ2,H2,I2,q2⟩:=q9; exact zbm (I2.unhdl okX) hN hi hl fun s' I' => ⟨_,H2,I',q2⟩
  | cont=>obtain ⟨σ2,H2,I2,q2⟩:=q9; exact zbm (I2.unhdl okX) hN hi hl fun s' I' => ⟨_,H2,I',q2⟩
  | ret u=>obtain ⟨v2,σ2,H2,I2,r2,q2⟩:=q9; exact zbm (I2.unhdl okX) hN hi hl fun s' I' => ⟨v2,_,H2,I',r2,q2⟩
end
section
variable {P : Program} {w : World} {K : PySem.W.Frag} {mg : Str -> Option Value} {base : Heap}
theorem Fun.okE {x qual : Str} {st : Stmt} {f : Addr} {fd : FuncData} {N ps : List Str} {k : Nat} {sp : Sp} (F : Fun K x qual st f fd) (S : FnScope N ps (yah st)) (len : ∀ vs H Q E,sp vs H Q E -> vs.length = ps.length)
  (hbody : ∀ (cdv : Value) (A : Around) (outer : List Env) (s : Shared) (H : Hp) (vs : List V) (Q : VK) (E : XK),Room k (A.deeper (envOfC qual (yah st) s.heap.objs.size f cdv)) -> sp vs H Q E ->
   ∃ t,PSs (cxOf (CXE P w) P w K mg base N qual (yah st) f cdv A outer s H E) (yb3 st) t /\ t { nx:=fun _ H' => Q .non H',rt:=Q } (start N vs) H) : FnOk P w K mg base (CXE P w) (k + 1) f fd ps sp:=by
 obtain ⟨oc,od,kV,doc,pm,an,cdv,ct,osl,rfl,lk,hcd⟩:=F.ex
 exact yhT lk hcd S len fun A outer s H vs Q E hr hsp=>hbody cdv A outer s H vs Q E hr hsp
end
end L2
namespace L2
open PySem PySem.Spec PyProof.Rows
open PySem.W (Frag Looks looks_findIn looks_specialIn looks_takesIn looks_mroIn findIn specialIn takesIn mroIn clsIn KitX kitOne kitAny kia_one kia_tup)
open PySem.Calls Builtin Builtin.ObjectAttr Builtin.Getset_descriptor
structure ExcK (K : Frag) (C : Addr) : Prop where
 cl : (clsIn K C).isSome = true
 ga : findIn K (.ref C) "__getattribute__" = some (some (.builtin "BaseException.__getattribute__"))
 gh : findIn K (.ref C) "__getattr__" = some none
 ca : findIn K (.ref C) "__class__" = some (some (.builtin "object.__class__"))
 cg : specialIn K (.builtin "object.__class__") "__get__" = some (some (.builtin "getset_descriptor.__get__"))
 ct : takesIn K (.builtin "object.__class__") = some true
 mo : mroIn K C (.type "object") = some true
 mb : mroIn K C (.type "BaseException") = some true
def ExcAt (a C : Addr) (h : Heap) : Prop:=∃ ob vs,h.get? a = some ob /\ ob.cls = .ref C /\ ob.data = .fields vs
section
variable {prog : Program} {w : World} {A : Around} {K : Frag} {a C : Addr}
theorem ExcAt.ty {M : Model} {h : Heap} (x : ExcAt a C h) : Looks M h (typeOf (.ref a)) (.ref C):=by
 obtain ⟨ob,vs,e,c,_⟩:=x
 exact c ▸ zb7 e
theorem zbw {tp : Value} {s : Shared} {R : Result -> Shared -> Prop} (X : K.In s.heap) (Z : ExcK K C) (I : ExcAt a C s.heap) (q : R (.ok (.ret (.ref C))) s) :
  codeAny (model prog w) A (.call (.builtin "getset_descriptor.__get__") ⟨[.builtin "object.__class__",.ref a,tp],[]⟩) R s:=by
 obtain ⟨hp,gg,dd,tt,oo⟩:=s
 have La:=I.ty (M:=model prog w)
 have Lb:=looks_mroIn (M:=model prog w) X Z.mo
 refine codeAny_call_builtin PySem.W.KF.slot_gs.plain PySem.W.KF.entry_gs (PySem.W.KF.slot_gs.check _ _ _ _ _ _ _ _ PySem.W.KF.type_class (PySem.W.KF.args_gs _ _ _) ?_)
 unfold Builtin.«getset_descriptor.__get__» descrGet
 rw [PySem.W.dga_obj]
 refine wpAny_bind (wpAny_pure ?_)
 unfold descrGetter descrCheckInstance descrNameAndClass isInstance
 simp only [PySem.W.KF.owner_class]
 repeat lk
 refine ⟨Code.quiet_builtin _ (by decide +kernel),codeAny_builtin PySem.W.KF.entry_class ?_⟩
 unfold Builtin.«object.__class__» shownTypeOf
 repeat lk
 exact q
theorem zhG {M : Model} {h : Heap} {x : Value} (X : K.In h) (Z : ExcK K C) : Looks M h (find x (.ref C) "__class__") (.bind (.builtin "getset_descriptor.__get__") (.builtin "object.__class__")):=by
 have l1:=looks_findIn (M:=M) X Z.ca
 have l2 : Looks M h (getOf (some (.builtin "object.__class__"))) (some (.builtin "getset_descriptor.__get__")):=looks_specialIn X Z.cg
 have l3:=looks_takesIn (M:=M) X Z.ct
 exact l1.andThen (l2.andThen ((show Looks M h (dataDescriptor? (some (.builtin "object.__class__")) (some (.builtin "getset_descriptor.__get__"))) (some (.builtin "getset_descriptor.__get__",.builtin "object.__class__")) from l3.andThen .now).andThen (Looks.tag .now)))
theorem zgR {tk : Tok} {s : Shared} {Q : Fin -> Shared -> Prop} {E : Value -> Shared -> Prop} (X : K.In s.heap) (Z : ExcK K C) (I : ExcAt a C s.heap) (q : Q (.done (.ret (.ref C))) s) :
  wpAny (model prog w) A (Builtin.«object.__getattribute__» ⟨[.ref a,.str "__class__" tk],[]⟩) Q E s:=by
 obtain ⟨hp,gg,dd,tt,oo⟩:=s
 have La:=I.ty (M:=model prog w)
 have Lf:=zhG (M:=model prog w) (x:=.ref a) X Z
 refine wpAny_bind (wpAny_pure ?_)
 refine wpAny_bind (wpAny_pure ?_)
 refine wpAny_bind (La.at (wpAny_bind (Lf.at ?_)))
 unfold bindTo
 first
  | exact wpAny_bind (wpAny_call (zbw X Z I (wpAny_pure q)))
  | exact wpAny_bind (wpAny_holding (wpAny_call (zbw X Z I (wpAny_pure q))))
  | exact wpAny_bind (wpAny_holding (wpAny_call (zbw X Z I q)))
theorem zgS {nm : Value} {s : Shared} {M : Model} {Q : Unit -> Shared -> Prop} {E : Value -> Shared -> Prop} (X : K.In s.heap) (Z : ExcK K C) (I : ExcAt a C s.heap) (q : Q () s) :
  wpAny M A (checkBuiltinCall "BaseException.__getattribute__" ⟨[.ref a,nm],[]⟩) Q E s:=by
 obtain ⟨hp,gg,dd,tt,oo⟩:=s
 have k1 : builtinKind "BaseException.__getattribute__" = some .slot:=by decide +kernel
 have k2 : splitId "BaseException.__getattribute__" = some ("BaseException", "__getattribute__"):=by decide +kernel
 have k3:=F.args_bexc_ga (.ref a) nm
 have La:=I.ty (M:=M)
 have Lb:=looks_mroIn (M:=M) X Z.mb
 have Li : Looks M hp (isInstance (.ref a) (.type "BaseException")) true:=La.andThen Lb
 simp only [checkBuiltinCall,k1,k2]
 refine wpAny_bind (Li.at ?_)
 repeat lk
 exact q
theorem yg1 {tk : Tok} {s : Shared} {Q : Value -> Shared -> Prop} {E : Value -> Shared -> Prop} (X : K.In s.heap) (Z : ExcK K C) (I : ExcAt a C s.heap) (q : Q (.ref C) s) :
  wpAny (model prog w) A (getAttrBy (.ref a) (.str "__class__" tk) false) Q E s:=by
 obtain ⟨hp,gg,dd,tt,oo⟩:=s
 have La:=I.ty (M:=model prog w)
 have Lg:=looks_findIn (M:=model prog w) X Z.ga
 have Lh:=looks_findIn (M:=model prog w) X Z.gh
 have f3:=F.attrBase_ValueError.ga.bind (.ref a)
 unfold getAttrBy
 refine wpAny_holding (wpAny_bind (La.at (wpAny_bind (Lg.at ?_))))
 show wpAny _ _ (getAttrByItsOwn _ _ _ _ _ _) _ _ _
 unfold getAttrByItsOwn
 refine wpAny_bind ((show Looks _ hp (hookBefore (.ref C)) none from Lh).at ?_)
 refine wpAny_bind (wpAny_attempt (wpAny_holding ?_))
 show wpAny _ _ (boundAndCalled _ _ _) _ _ _
 unfold boundAndCalled
 rw [f3]
 refine wpAny_bind (wpAny_pure ?_)
 refine wpAny_call (codeAny_call_builtin F.attrBase_ValueError.ga.plain F.entry_bexc_ga (zgS X Z I (zgR X Z I ?_)))
 repeat lk
 exact q
theorem zhH {s : Shared} {Q : Option Value -> Shared -> Prop} {E : Value -> Shared -> Prop} (X : K.In s.heap) (Z : ExcK K C) (I : ExcAt a C s.heap) (q : Q (some (.ref C)) { s with toks:=s.toks + 1 }) :
  wpAny (model prog w) A (getAttr? (.ref a) "__class__") Q E s:=by
 unfold getAttr? getAttrBy?
 exact wpAny_bind (wpAny_mkText (wpAny_bind (wpAny_attempt (yg1 (s:={ s with toks:=s.toks + 1 }) X Z I (wpAny_pure q)))))
theorem zhI (Z : ExcK K C) : KitX K (.ref a) (.ref C) (ExcAt a C) where
 ty:=fun _ _ _ I=>I.ty
 it:=fun _ _ X _=>by
  have z:=Z.cl
  unfold clsIn at z
  split at z
  ·rename_i ho
   intro A' Q' E' s' k q
   unfold isType loadHead
   exact wpAny_bind (wpAny_loadPart (k _ _ (X _ _ ho)) (wpAny_pure q))
  ·cases z
 ne:=fun hp tp dd its n sl X htp=>by
  refine Bool.eq_false_iff.mpr fun q=>?_
  have e : C = tp:=Value.ref.inj (beq_iff_eq.mp q)
  subst e
  have z:=Z.cl
  unfold clsIn at z
  split at z
  ·rename_i ho
   have zz:=(X _ _ ho).symm.trans htp
   cases zz
  ·cases z
 ca:=fun X I k=>zhH X Z I k
end
section
variable {X : Cx}
theorem ziK {P : Program} {w : World} {H : Hp} {h : Heap} {a C : Addr} (x : ObjOk P w H h a (excO a (.ref C))) : ExcAt a C h:=by
 obtain ⟨z,_⟩:=x
 exact z
theorem zhJ {c : V} {cv : Value} (rc : ∀ u,RelV c u -> u = cv) :
  CallR X (.builtin "isinstance") (fun xs H Q=>∃ (a D : Addr) (r : Bool),xs = [.ref a,c] /\ H a = some (excO a (.ref D)) /\ ExcK X.K D /\ kitOne X.K (.ref D) cv = some r /\ Q (.bl r) H):=by
 intro pins s σ H xs us Q I r h
 obtain ⟨a,D,b,rfl,ha,Z,hk,q⟩:=h
 obtain ⟨u,w',rfl,rx,ry⟩:=yei r
 obtain rfl:=rc _ ry
 obtain rfl : u = Value.ref a:=rx
 exact kia_one (zhI Z) I.kIn (ziK (I.hok a _ ha)) hk (by intro z; cases z) fun tk=>⟨.bl b,H,I.tok _,rfl,q⟩
end
end L2
namespace L2
open PySem PySem.Spec PyProof.Rows
theorem zhK {K : PySem.W.Frag} {hp : Heap} {g : Str -> Option Value} {nm : Str} {Ca : Addr} {bb : List Value} {nid : String} (Z : K.In hp) (hb : g nm = some (.ref Ca)) (ok : PySem.W.excIn K Ca bb nid = true) : OwnCls nm Ca bb nid g hp:=by
 refine ⟨hb,?_⟩
 unfold PySem.W.excIn at ok
 split at ok
 ·rename_i dA cA sA hA
  split at ok
  ·rename_i D' tl w0 w1 w2 w3 bn w5 eM eS
   simp only [Bool.and_eq_true,beq_iff_eq,Bool.not_eq_true'] at ok
   obtain ⟨⟨⟨⟨⟨rfl,rfl⟩,e1⟩,e2⟩,e3⟩,e4⟩:=ok
   obtain ⟨f1,f2,f3,f4,f5,f6,f7,f8,f9,f10,f11⟩:=cA
   dsimp only at eM e1 e3 e4
   subst eM e1
   have eA : sA = #[w0,w1,w2,w3,some (.builtin bn),w5]:=by
    obtain ⟨ll⟩:=sA
    simp only at eS
    rw [eS]
   subst eA
   refine ⟨tl,f4,f1,f5,f2,f6,f7,f8,f9,f10,dA,w0,w1,w2,w3,w5,_,Z _ _ hA,.of_isNs (PySem.W.isNs_of_in Z e3),?_,PySem.W.tail_of_in Z e2⟩
   exact PySem.W.nsMap_none_of_in Z e3 e4
  ·cases ok
 ·cases ok
mutual
inductive DaV (K : PySem.W.Frag) (H : Hp) : V -> PyData -> Prop
 | non : DaV K H .non .none
 | bl (b) : DaV K H (.bl b) (.bool b)
 | int (i) : DaV K H (.int i) (.int i)
 | str (x) : DaV K H (.str x) (.str x)
 | lst {a xs ds} : SqL K H a xs -> DaVs K H xs ds -> DaV K H (.ref a) (.list ds)
 | tup {a xs ds} : SqT K H a xs -> DaVs K H xs ds -> DaV K H (.ref a) (.tuple ds)
inductive DaVs (K : PySem.W.Frag) (H : Hp) : List V -> List PyData -> Prop
 | nil : DaVs K H [] []
 | cons {x xs d ds} : DaV K H x d -> DaVs K H xs ds -> DaVs K H (x :: xs) (d :: ds)
end
section
variable {X : Cx} {pins : List (Addr × Obj)} {σ : St} {H : Hp} {s : Shared}
mutual
theorem DaV.reads (I : Inv X pins σ H s) : ∀ {x : V} {d : PyData} {u : Value},DaV X.K H x d -> RelV x u -> ∃ as,Reads s.heap u d as
 | _,_,_,.non,r=>by cases r; exact ⟨_,.none⟩
 | _,_,_,.bl b,r=>by cases r; exact ⟨_,.bool b⟩
 | _,_,_,.int i,r=>by obtain ⟨t,rfl⟩:=r; exact ⟨_,.int i t⟩
 | _,_,_,.str x,r=>by obtain ⟨t,rfl⟩:=r; exact ⟨_,.str x t⟩
 | _,_,_,.lst (a:=a) h1 h2,r=>by
  cases r
  obtain ⟨its,rv,⟨o,n,e1,e2,e3⟩,_⟩:=I.list h1
  obtain ⟨as,q⟩:=DaVs.reads I h2 rv
  exact ⟨_,.list (vs:=its.toArray) (n:=n) e1 (by first | exact e2.1 | exact e2) (by first | exact e2.2.2 | exact e2.2 | exact e3 | exact e3.2) (by simpa using q)⟩
 | _,_,_,.tup (a:=a) h1 h2,r=>by
  cases r
  obtain ⟨its,rv,⟨o,e1,e2,n,e3⟩,_⟩:=I.tuple h1
  obtain ⟨as,q⟩:=DaVs.reads I h2 rv
  exact ⟨_,.tuple (vs:=its.toArray) (n:=n) e1 e2 e3 (by simpa using q)⟩
theorem DaVs.reads (I : Inv X pins σ H s) : ∀ {xs : List V} {ds : List PyData} {us : List Value},DaVs X.K H xs ds -> Vals xs us -> ∃ as,ReadsAll s.heap us ds as
 | _,_,_,.nil,r=>by cases r; exact ⟨_,.nil⟩
 | _,_,_,.cons h1 h2,r=>by
  cases r with
  | cons r1 r2 =>
   obtain ⟨as,q1⟩:=DaV.reads I h1 r1
   obtain ⟨bs,q2⟩:=DaVs.reads I h2 r2
   exact ⟨_,.cons q1 q2⟩
end
def rEqD (K : PySem.W.Frag) : R2:=fun x y H Q=>∃ d e,DaV K H x d /\ DaV K H y e /\ d.canLay0 = true /\ e.canLay0 = true /\ d.depth <= 60 /\ Q (.bl (PyData.eqv d e)) H
def rNeD (K : PySem.W.Frag) : R2:=fun x y H Q=>∃ d e,DaV K H x d /\ DaV K H y e /\ d.canLay0 = true /\ e.canLay0 = true /\ d.depth <= 60 /\ Q (.bl (!PyData.eqv d e)) H
theorem yfq (hu : X.A.units + 64 < cLine) : OpR X (compareOp .Eq) (rEqD X.K):=by
 intro pins s σ H x y v u Q I rx ry h
 obtain ⟨d,e,h1,h2,c1,c2,dp,q⟩:=h
 obtain ⟨as,r1⟩:=h1.reads I rx
 obtain ⟨bs,r2⟩:=h2.reads I ry
 exact SeqAt.compareEq_reads r1 r2 c1 c2 (by have:=Nat.min_le_left d.depth e.depth; omega) ⟨.bl _,H,I,rfl,q⟩
theorem yfr (hu : X.A.units + 64 < cLine) : OpR X (compareOp .NotEq) (rNeD X.K):=by
 intro pins s σ H x y v u Q I rx ry h
 obtain ⟨d,e,h1,h2,c1,c2,dp,q⟩:=h
 obtain ⟨as,r1⟩:=h1.reads I rx
 obtain ⟨bs,r2⟩:=h2.reads I ry
 exact SeqAt.compareNe_reads r1 r2 c1 c2 (by have:=Nat.min_le_left d.depth e.depth; omega) ⟨.bl _,H,I,rfl,q⟩
end
theorem hu64 {A : Around} {k : Nat} (hr : Room k A) : A.units + 64 < cLine:=by
 have:=hr.un
 omega
def yh3 (K : PySem.W.Frag) : R2:=fun x y H Q=>∃ l b xs zs,x = .ref l /\ y = .ref b /\ SqL K H l xs /\ SqL K H b zs /\ xs.length + zs.length <= sizeLine /\ ∀ p,H p = none -> Q (.ref p) (upd H p (.lst (xs++zs)))
theorem ziL {X : Cx} : OpR X (binaryOp .Add) (yh3 X.K):=by
 intro pins s σ H x y v u Q I rx ry h
 obtain ⟨l,b,xs,zs,rfl,rfl,hH,hB,hz,q⟩:=h
 cases rx
 cases ry
 obtain ⟨its,r,⟨o,n,e1,e2,e3,e4⟩,z⟩:=I.list hH
 obtain ⟨its2,r2,⟨o2,n2,g1,g2,g3,g4⟩,z2⟩:=I.list hB
 obtain ⟨oc,od,oda,osl⟩:=o
 obtain ⟨oc2,od2,oda2,osl2⟩:=o2
 dsimp only at e2 e3 e4 g2 g3 g4
 subst e2 e3 e4 g2 g3 g4
 have l1:=r.length
 have l2:=r2.length
 refine concat_meets ⟨_,e1,rfl⟩ ⟨_,g1,rfl⟩ noFill_list_add seq_list_add PySem.F.slot_list_add PySem.F.entry_list_add (PySem.F.args_list_add_2 _ _) (list_addW l b its.toArray its2.toArray n n2 none none osl osl2 (by rw [List.size_toArray,List.size_toArray]; omega)) ⟨e1,g1,?_⟩
 have ea : its.toArray++its2.toArray = (its++its2).toArray:=by simp
 rw [ea]
 exact ⟨.ref s.heap.objs.size,_,I.lnew (t' := s.toks) (r.append r2) (by rw [List.length_append]; exact hz),rfl,q _ I.fresh⟩
end L2
namespace L2
open PySem PySem.Spec PyProof.Rows
section
variable {X : Cx} {pins : List (Addr × Obj)} {σ : St} {H : Hp} {s : Shared}
open Classical in
def isD (h : Heap) (d : PyData) (v : Value) : Bool:=if q : ∃ e as,e.canLay0 = true /\ Reads h v e as then PyData.eqv q.choose d else false
theorem yfs {h : Heap} {d e : PyData} {v : Value} {as : List Addr} (c : e.canLay0 = true) (r : Reads h v e as) : isD h d v = PyData.eqv e d:=by
 have q : ∃ e as,e.canLay0 = true /\ Reads h v e as:=⟨e,as,c,r⟩
 unfold isD
 rw [dif_pos q]
 obtain ⟨as',c',r'⟩:=q.choose_spec
 have z : q.choose = e:=by first | exact (Reads.unique _ _ r' r).1 | exact (Reads.unique r' r).1 | exact Reads.unique _ _ _ _ _ c' r' r | exact PySem.SeqAt.Reads.unique _ _ _ _ _ c' r' r | exact PySem.Reads.unique _ _ _ _ _ c' r' r
 rw [z]
theorem zfi (I : Inv X pins σ H s) : ∀ {xs : List V} {ds : List PyData} {us : List Value},DaVs X.K H xs ds -> Vals xs us -> us.length = ds.length /\ ∀ (j : Nat) u d,us[j]? = some u -> ds[j]? = some d -> ∃ as,Reads s.heap u d as
 | _,_,_,.nil,r=>by cases r; exact ⟨rfl,fun j u d e=>by cases e⟩
 | _,_,_,.cons h1 h2,r=>by
  cases r with
  | cons r1 r2 =>
   obtain ⟨l,q⟩:=zfi I h2 r2
   refine ⟨by rw [List.length_cons,List.length_cons,l],fun j u d e1 e2=>?_⟩
   cases j with
   | zero=>cases e1; cases e2; exact h1.reads I r1
   | succ j=>exact q j u d e1 e2
theorem zfj {h : Heap} {d : PyData} : ∀ {us : List Value} {ds : List PyData},us.length = ds.length -> (∀ (j : Nat) u e,us[j]? = some u -> ds[j]? = some e -> isD h d u = PyData.eqv e d) -> us.any (isD h d) = ds.any fun e=>PyData.eqv e d
 | [],[],_,_=>rfl
 | u :: us,e :: ds,hl,hh=>by
  rw [List.any_cons,List.any_cons,hh 0 u e rfl rfl,zfj (us:=us) (ds:=ds) (Nat.succ.inj hl) fun j u' e' a b=>hh (j + 1) u' e' a b]
end
end L2
namespace L2
open PySem PySem.Spec PyProof.Rows
section
variable {X : Cx} {tg : Expr}
theorem zcC (ns : List Int) : ∀ k,k <= ns.length -> preSum (fun i=>(ns[i]?).getD 0) k = (ns.take k).sum
 | 0,_=>by simp [preSum]
 | k + 1,h=>by
  show preSum _ k + (ns[k]?).getD 0 = _
  rw [zcC ns k (by omega),List.take_succ,List.sum_append]
  congr 1
  rw [List.getElem?_eq_getElem (by omega)]
  simp
theorem zhL (hc : X.calm = true) : CallR X (.builtin "sum") (fun xs H Q=>∃ (a : Addr) (ns : List Int),xs = [.ref a] /\ SqL X.K H a (ns.map V.int) /\ Q (.int ns.sum) H):=by
 intro pins s σ H xs us Q I r h
 obtain ⟨l,bs,rfl,hq,q⟩:=h
 obtain ⟨u,rfl,rx⟩:=ydQ r
 cases rx
 obtain ⟨its,rv,pl,hz⟩:=I.list hq
 have hlt : l < s.heap.objs.size:=by obtain ⟨_,_,e,_⟩:=pl; exact Heap.lt_size e
 have hlen : its.length = bs.length:=by rw [<- rv.length,List.length_map]
 refine call_sum_walkAnyS (wpAny_pyIter_list pl.isList ?_)
 refine ⟨s.heap.objs.size,[s.heap.objs.size,l],[s.heap.objs.size],_,its.toArray.size,_,_,fun i=>(bs[i]?).getD 0,rfl,(Walks.list (prog:=X.prog) (w:=X.w) (A:=X.A.in1) (I.ok.hd hc) s.heap.objs.size l (Nat.ne_of_lt hlt) its.toArray).toS,
  ⟨⟨_,Heap.get?_push_size _ rfl,rfl,rfl⟩,pl.isList.push _⟩,fun b hb=>?_,fun i v hP=>?_,fun s' t' hm=>?_⟩
 ·rcases List.mem_cons.mp hb with rfl | hb
  ·exact Heap.lt_size (Heap.get?_push_size _ rfl)
  ·obtain rfl:=List.mem_singleton.mp hb
   obtain ⟨_,_,e,_⟩:=pl
   exact Heap.lt_size (Heap.get?_push_of_some _ e)
 ·have hP' : its[i]? = some v:=by simpa using hP
  have hi : i < its.length:=(List.getElem?_eq_some_iff.mp hP').1
  have hb : (bs.map V.int)[i]? = some (V.int (bs[i]'(by omega))):=by rw [List.getElem?_map,List.getElem?_eq_getElem (by omega)]; rfl
  obtain ⟨u,hu,ru⟩:=rv.get hb
  rw [hP'] at hu
  cases hu
  obtain ⟨t,rfl⟩:=ru
  refine ⟨t,?_⟩
  show Value.int _ t = Value.int ((bs[i]?).getD 0) t
  rw [List.getElem?_eq_getElem (by omega)]; rfl
 ·obtain ⟨h',g',d',tk',os'⟩:=s'
  have e1 : g' = s.gens:=hm.gens
  have e2 : d' = s.drawn:=hm.drawn
  have e3 : os' = s.os:=hm.os
  subst e1 e2 e3
  have e : preSum (fun i=>(bs[i]?).getD 0) its.toArray.size = bs.sum:=by
   rw [List.size_toArray,hlen,zcC bs _ (Nat.le_refl _),List.take_of_length_le (Nat.le_refl _)]
  rw [e]
  refine ⟨.int _,H,I.kept (t' := tk') fun b o q=>?_,⟨_,rfl⟩,q⟩
  exact hm.heap b o (fun hb=>by rw [List.mem_singleton.mp hb] at q; exact Nat.lt_irrefl _ (Heap.lt_size q)) (Heap.get?_push_of_some _ q)
def Itr3 (lo c : Int) (n : Nat) : It:=⟨fun i _=>i < n,fun i H x H' => H' = H /\ x = .int (lo + i * c),fun i _=>n <= i⟩
theorem zeW {P : Program} {w : World} {K : PySem.W.Frag} {tg : Expr} (it : Addr) (lo c : Int) (n : Nat) : Turn P w K tg (Itr3 lo c n) [it] it (fun i h=>IsRangeIter h it (lo + (i : Nat) * c) ((n : Int) - (i : Nat)) c) where
 mem:=by simp
 obj:=fun i h st b hb=>by
  have e : b = it:=by simpa using hb
  subst e
  exact ⟨_,st,fun v z=>by
   have z' : Data.fields _ = Data.cell v:=z
   cases z'⟩
 keep:=fun i h h' st k=>k it (by simp) _ st
 item:=by
  intro X hP hw hK hc i pins s σ H E I hf st hg
  subst hP hw hK
  obtain ⟨f0,f1,f2,f3,f4,f5⟩:=hf it (by simp)
  have W:=Walks.range (prog:=X.prog) (w:=X.w) (I.ok.hd hc) it lo c n
  refine W.item i s _ _ hg st fun v h' tk hv st' kk=>?_
  obtain ⟨t,rfl⟩:=hv
  have I1 : Inv X pins σ H { s with heap:=h',toks:=tk }:=I.turned (fun b o hb e=>kk b o (by simpa using hb) e) f0 f1 f3 f4 f5
  exact ⟨_,rfl,yeF (s:={ s with heap:=h',toks:=tk }) (n := "range_iterator") st' rfl rfl (by decide) ⟨.int (lo + i * c),H,I1,⟨t,rfl⟩,⟨rfl,rfl⟩,st',fun b hb=>(hf b hb).1⟩⟩
 done:=by
  intro X hP hw hK hc i pins s σ H E I hf st hg
  subst hP hw hK
  obtain ⟨f0,f1,f2,f3,f4,f5⟩:=hf it (by simp)
  exact wpAny_pyNext_range_end (I.ok.hd hc) st (by have : n <= i:=hg; omega) fun h' eb=>⟨rfl,I.turned (t' := s.toks) (fun b o hb e=>eb b o hb e) f0 f1 f3 f4 f5⟩
 self:=fun _ _ _ _ _ st h=>wpAny_pyIter_rangeiter st h
theorem zgT {a b c : Int} (hc : 0 < c) : Builtin.Range.rangeSize a b c = (((if a < b then (b - a - 1) / c + 1 else 0 : Int).toNat : Nat) : Int):=by
 unfold Builtin.Range.rangeSize
 rw [if_pos hc]
 split
 ·have : 0 <= (b - a - 1) / c:=Int.ediv_nonneg (by omega) (by omega)
  omega
 ·rfl
theorem zbA {x : Int} (h : x.natAbs < 2 ^ 42) : Builtin.Range.rangeFitsLong x = true:=by
 have h2 : x.natAbs < 4398046511104:=h
 simp only [Builtin.Range.rangeFitsLong,Bool.and_eq_true,decide_eq_true_eq]
 omega
theorem zgU {a b c : Int} (ha : a.natAbs < 2 ^ 40) (hb : b.natAbs < 2 ^ 40) (hc : 0 < c) : (Builtin.Range.rangeSize a b c).natAbs < 2 ^ 42:=by
 have ha2 : a.natAbs < 1099511627776:=ha
 have hb2 : b.natAbs < 1099511627776:=hb
 show _ < 4398046511104
 unfold Builtin.Range.rangeSize
 rw [if_pos hc]
 split
 ·have h1 : 0 <= (b - a - 1) / c:=Int.ediv_nonneg (by omega) (by omega)
  have h2 : (b - a - 1) / c <= b - a - 1:=Int.ediv_le_self _ (by omega)
  generalize (b - a - 1) / c = d at *
  omega
 ·decide
theorem zgi {a b c : Int} (ha : a.natAbs < 2 ^ 40) (hb : b.natAbs < 2 ^ 40) (hc : 0 < c) (hc' : c < 2 ^ 20) : Builtin.Range.small a b c = true:=by
 have l : (2 : Nat) ^ 40 < 2 ^ 42:=by decide
 unfold Builtin.Range.small
 rw [zbA (Nat.lt_trans ha l),zbA (Nat.lt_trans hb l),zbA (x:=c) (by have h2 : c < 1048576:=hc'; show _ < 4398046511104; omega),zbA (zgU ha hb hc),if_pos hc,zbA (x:=b + (c - 1)) (by have h2 : c < 1048576:=hc'; have h3 : b.natAbs < 1099511627776:=hb; show _ < 4398046511104; omega)]
 simp
def yh4 (ta : TA) : TI:=fun σ H R=>ta σ H fun vs H1=>∃ i j c : Int,vs = [.int i,.int j,.int c] /\ (i.natAbs < 2 ^ 40 /\ j.natAbs < 2 ^ 40 /\ 0 < c /\ c < 2 ^ 20) /\ R (Itr3 i c (if i < j then (j - i - 1) / c + 1 else 0 : Int).toNat) H1
theorem zgV {pins : List (Addr × Obj)} {σ : St} {H : Hp} {s : Shared} {R : It -> Hp -> Prop} {E : Value -> Shared -> Prop} {lo hi c : Int} {t u v : Tok} {tk : Nat} (I : Inv X pins σ H s) (h1 : lo.natAbs < 2 ^ 40) (h2 : hi.natAbs < 2 ^ 40) (h3 : 0 < c) (h4 : c < 2 ^ 20)
  (q : R (Itr3 lo c (if lo < hi then (hi - lo - 1) / c + 1 else 0 : Int).toNat) H) : wpAny (model X.prog X.w) X.A (pyIter (.ref s.heap.objs.size)) (PIE X pins σ tg R) E { s with heap:=s.heap.push { cls:=.type "range",data:=.fields #[.int lo t,.int hi u,.int c v] },toks:=tk }:=by
 refine wpAny_pyIter_range (IsRange.new ..) (zgi h1 h2 h3 h4) ?_
 have I1 : Inv X pins σ H { s with heap:=s.heap.push { cls:=.type "range",data:=.fields #[.int lo t,.int hi u,.int c v] },toks:=tk }:=I.kept fun b o e=>Heap.get?_push_of_some _ e
 refine ⟨(s.heap.push { cls:=.type "range",data:=.fields #[.int lo t,.int hi u,.int c v] }).objs.size,[(s.heap.push { cls:=.type "range",data:=.fields #[.int lo t,.int hi u,.int c v] }).objs.size],_,_,H,rfl,
  I1.kept (t' := tk) fun b o e=>Heap.get?_push_of_some _ e,zeW _ lo c (if lo < hi then (hi - lo - 1) / c + 1 else 0 : Int).toNat,?_,fun b hb=>?_,q⟩
 ·have e1 : lo + ((0 : Nat) : Int) * c = lo:=by simp
  have e2 : (((if lo < hi then (hi - lo - 1) / c + 1 else 0 : Int).toNat : Nat) : Int) - ((0 : Nat) : Int) = Builtin.Range.rangeSize lo hi c:=by rw [zgT h3]; omega
  show IsRangeIter _ _ (lo + ((0 : Nat) : Int) * c) ((((if lo < hi then (hi - lo - 1) / c + 1 else 0 : Int).toNat : Nat) : Int) - ((0 : Nat) : Int)) c
  rw [e1,e2]
  exact Heap.get?_push_size _ rfl
 ·have e : b = (s.heap.push { cls:=.type "range",data:=.fields #[.int lo t,.int hi u,.int c v] }).objs.size:=by simpa using hb
  subst e
  exact I1.fpOk (Nat.le_refl _) (I1.hok.fresh (Nat.le_refl _))
theorem zgW {a b c : Expr} {ta : TA} {p pos : Pos} (hg : Gl X "range") (hm : X.mg "range" = none) (ha : PA X [a,b,c] ta) (hs : starEach [a,b,c] X.env = [(false,eval a X.env),(false,eval b X.env),(false,eval c X.env)]:=by rfl) (hs2 : starEach [b,c] X.env = [(false,eval b X.env),(false,eval c X.env)]:=by rfl) :
  PI X tg (.Call (.Name "range" p) [a,b,c] [] pos) (yh4 ta):=by
 intro pins s σ H R I h
 refine Call_ (yeh I hg hm boot_range (PyProof.Rows.callWith_type1 (thn (ha pos pins s σ H _ I h) fun us s1 ⟨vs,H1,I1,r1,q1⟩=>?_) (by rw [hs,hs2]) (by rw [hs2]; rfl)))
 obtain ⟨i,j,c,e,⟨q1,q2,q3,q4⟩,q⟩:=q1
 subst e
 cases r1 with
 | cons r rr =>
  cases rr with
  | cons r' rr =>
   cases rr with
   | cons r'' rr =>
    cases rr
    obtain ⟨t,rfl⟩:=r
    obtain ⟨t',rfl⟩:=r'
    obtain ⟨t'',rfl⟩:=r''
    exact call_range_3 (by omega) (zgV I1 q1 q2 q3 q4 q) (.inl (PyProof.noPylong_small (by omega)))
end
end L2
namespace L2
open PySem PySem.Spec PyProof.Rows
open PySem.Builtin PySem.Builtin.Str
section
variable {X : Cx}
def cutS (z : Str) (lo hi : Option Int) : Str:=⟨((z.cps.toList.drop (HT.sIx z.cps.toList.length 0 lo)).take (HT.sIx z.cps.toList.length z.cps.toList.length hi - HT.sIx z.cps.toList.length 0 lo)).toArray⟩
theorem zbn (n d : Nat) (i : Int) : max 0 (min (if i < 0 then i + (n : Int) else i) (n : Int)) = ((HT.sIx n d (some i) : Nat) : Int):=by
 show max 0 (min (if i < 0 then i + (n : Int) else i) (n : Int)) = (((if i < 0 then (i + (n : Int)).toNat else min i.toNat n) : Nat) : Int)
 split<;>omega
theorem zbK {a b : Int} {A B : Nat} (ha : a = A) (hb : b = B) : sliceRange a b 1 = (List.range (B - A)).map fun k=>A + k:=by
 subst ha hb
 unfold sliceRange
 simp only [show (1 : Int) > 0 by decide,if_true]
 have : (if (A : Int) < (B : Int) then ((B : Int) - A + 1 - 1) / 1 else 0).toNat = B - A:=by
  split<;>(try simp only [Int.ediv_one])<;>omega
 rw [this]
 apply List.map_congr_left
 intro k _
 omega
theorem zhM (xs : List Nat) (i k : Nat) : (List.range k).filterMap (fun m=>xs[i + m]?) = (xs.drop i).take k:=by
 induction k generalizing i with
 | zero=>simp
 | succ k ih =>
  rw [List.range_succ_eq_map,List.filterMap_cons,List.filterMap_map]
  have e : ((fun m=>xs[i + m]?) ∘ Nat.succ) = fun m=>xs[(i + 1) + m]? := by
   funext m; show xs[i + (m + 1)]? = _; congr 1; omega
  rw [e,ih (i + 1)]
  cases h : xs[i]? with
  | none =>
   have hl : xs.length <= i:=List.getElem?_eq_none_iff.mp h
   simp only [Nat.add_zero,h]
   rw [List.drop_of_length_le (by omega),List.drop_of_length_le hl]; simp
  | some v =>
   have hi:=(List.getElem?_eq_some_iff.mp h).1
   simp only [Nat.add_zero,h]
   rw [List.drop_eq_getElem_cons hi,List.take_succ_cons]
   congr 1
   exact (Option.some.inj ((List.getElem?_eq_getElem hi).symm.trans h)).symm
theorem zgj (n : Nat) (lo hi : Option Int) : strSliceIndices lo hi 1 n = (List.range (HT.sIx n n hi - HT.sIx n 0 lo)).map fun k=>HT.sIx n 0 lo + k:=by
 cases lo with
 | none =>
  cases hi with
  | none=>exact zbK rfl rfl
  | some j=>exact zbK rfl (zbn n n j)
 | some i =>
  cases hi with
  | none=>exact zbK (zbn n 0 i) rfl
  | some j=>exact zbK (zbn n 0 i) (zbn n n j)
theorem zhN (z : Str) (lo hi : Option Int) : Txt.slice z lo hi = cutS z lo hi:=by
 have hz : z.length = z.cps.toList.length:=by simp [Str.length]
 unfold Txt.slice cutS
 rw [hz,zgj,List.filterMap_map]
 have e : ((fun x=>z.cps[x]?) ∘ fun k=>HT.sIx z.cps.toList.length 0 lo + k) = fun m=>z.cps.toList[HT.sIx z.cps.toList.length 0 lo + m]? := by
  funext m; simp
 rw [e,zhM]
 split
 ·rename_i hc
  simp only [beq_self_eq_true,Bool.true_and,beq_iff_eq,List.length_map,List.length_range] at hc
  have h1 : HT.sIx z.cps.toList.length z.cps.toList.length hi <= z.cps.toList.length:=HT.sIx_le _ _ (Nat.le_refl _) _
  have h2 : HT.sIx z.cps.toList.length 0 lo = 0 \/ z.cps.toList.length = 0:=by omega
  rw [hc]
  rcases h2 with h2 | h2
  ·rw [h2,List.drop_zero,List.take_of_length_le (Nat.le_refl _)]
  ·have : z.cps.toList = []:=List.eq_nil_of_length_eq_zero h2
   have h3 : z.cps = #[]:=by simpa using this
   simp [h3]
   cases z; simp_all
 ·rfl
theorem zc0 {v : Value} {o : Option Int} (p : IsPart v o) : ∃ l : Option (Int × Tok),v = partValue l /\ l.map (·.1) = o:=by
 cases p with
 | none=>exact ⟨none,rfl,rfl⟩
 | int i t=>exact ⟨some (i,t),rfl,rfl⟩
theorem yg2 : SlR X (fun x lo hi H Q=>∃ z,x = .str z /\ z.length <= sizeLine /\ Q (.str (cutS z lo hi)) H):=by
 intro pins s σ H x v vl vu lo hi sl Q I rx hs pl pu h
 obtain ⟨z,rfl,hz,q⟩:=h
 obtain ⟨t,rfl⟩:=rx
 obtain ⟨l,rfl,rfl⟩:=zc0 pl
 obtain ⟨u,rfl,rfl⟩:=zc0 pu
 refine ⟨"str",_,F.slot_str_getitem.lookup,typeIs_str _ _ _,?_⟩
 refine wpAny_getItem_str_slice (l:=l) (u:=u) (st:=none) hs rfl ?_
 refine post_val_or_str ⟨Nat.le_trans (Txt.slice_le z (l.map (·.1)) (u.map (·.1))) hz,fun t' k=>?_⟩
 have e:=zhN z (l.map (·.1)) (u.map (·.1))
 refine ⟨.str (cutS z (l.map (·.1)) (u.map (·.1))),H,I.tok _,⟨t',?_⟩,q⟩
 rw [<- e]; rfl
def revS (z : Str) : Str:=⟨z.cps.toList.reverse.toArray⟩
def repS (z : Str) (n : Nat) : Str:=⟨((List.replicate n z.cps.toList).flatten).toArray⟩
theorem ziM {z : Str} {n : Int} (h2 : 2 <= n) (hz : 1 <= z.length) : Txt.mul z n = repS z n.toNat:=by
 unfold Txt.mul repS
 rw [if_neg (by omega),if_neg (by simp; omega)]
 have:=zgQ (List.replicate n.toNat z.cps) #[]
 rw [List.map_replicate] at this
 have e : (List.replicate n.toNat z.cps).foldl (· ++ ·) #[] = ((List.replicate n.toNat z.cps.toList).flatten).toArray:=by
  apply Array.toList_inj.mp
  rw [this]; simp
 rw [e]
end
end L2
namespace L2
open PySem PySem.Spec PyProof.Rows
open PySem.Builtin PySem.Builtin.Str
section
variable {X : Cx}
theorem zhO (z : Str) (n : Int) : Txt.mul z n = repS z n.toNat:=by
 by_cases h2 : 2 <= n /\ 1 <= z.length
 ·exact ziM h2.1 h2.2
 ·unfold Txt.mul
  by_cases h1 : n < 1
  ·rw [if_pos h1,show n.toNat = 0 by omega]; rfl
  ·rw [if_neg h1,if_pos (by simp; omega)]
   by_cases hz : z.length = 0
   ·have e : z.cps.toList = []:=List.length_eq_zero_iff.mp (by simpa [Str.length] using hz)
    cases z
    simp only [repS,Str.mk.injEq] at *
    rw [e]
    apply Array.toList_inj.mp
    simp [e]
   ·rw [show n.toNat = 1 by omega]
    cases z
    simp [repS]
theorem zgk : OpR X (binaryOp .Mult) (fun x y H Q=>∃ z n,x = .str z /\ y = .int n /\ n.natAbs < 2 ^ 40 /\ z.length * n.toNat <= 1000000 /\ Q (.str (repS z n.toNat)) H):=by
 intro pins s σ H x y v u Q I rx ry h
 obtain ⟨z,n,rfl,rfl,hb,hl,q⟩:=h
 obtain ⟨t,rfl⟩:=rx
 obtain ⟨t',rfl⟩:=ry
 have hb2 : n.natAbs < 1099511627776:=hb
 refine SB.mul ⟨?_,fun h1 _=>?_,fun _ _=>?_⟩ fun t2 k=>⟨.str (repS z n.toNat),H,I.tok _,⟨t2,by rw [zhO]⟩,q⟩
 ·simp; omega
 ·intro hc
  have n0 : (n : Int) = (n.toNat : Int):=by omega
  have h1 : n * (z.length : Int) <= 1000000:=by
   rw [n0,<- Int.natCast_mul,Nat.mul_comm]; exact Int.ofNat_le.mpr hl
  have h3 : (2 ^ 63 - 1 : Int) / n < z.length:=hc
  have h4 : (2 ^ 63 - 1 : Int) < z.length * n:=Int.lt_mul_of_ediv_lt (by omega) h3
  rw [Int.mul_comm] at h4
  have : (9223372036854775807 : Int) < n * z.length:=h4
  omega
 ·exact decide_eq_false (Nat.not_lt.mpr (Nat.le_trans hl (by decide)))
end
section
variable {prog : Program} {w : World} {A : Around} {E : Value -> Shared -> Prop} {s : Shared}
end
section
variable {X : Cx} {pos : Pos}
end
end L2
namespace Sm
open PySem L2
inductive AV where
 | non | bl (b : Bool) | int (i : Int) | str (x : Str)
 | tup (xs : List AV)
 | fl (xs : List AV)
 | ref (n : Nat)
 | exc (c : Nat)
 deriving Inhabited
inductive AO where
 | lst (xs : List AV)
 | dct (t : Bool) (kvs : List (AV × AV))
 | ins (c : Nat) (fs : List (Option AV))
abbrev AH:=List AO
abbrev En:=List (Option AV)
inductive Out (α : Type) where
 | ok (a : α) (h : AH)
 | ex (c : Nat) (h : AH)
 | bad
@[simp] def Out.bind {α β : Type} (o : Out α) (f : α -> AH -> Out β) : Out β :=
 match o with
 | .ok a h=>f a h
 | .ex c h=>.ex c h
 | .bad=>.bad
inductive OutS where
 | nx (e : En) (h : AH)
 | rt (v : AV) (h : AH)
 | bk (e : En) (h : AH)
 | ct (e : En) (h : AH)
 | ex (c : Nat) (e : En) (h : AH)
 | bad
abbrev SE:=En -> AH -> Out AV
abbrev SB:=En -> AH -> Out Bool
abbrev SL:=En -> AH -> Out (List AV)
abbrev SS:=En -> AH -> OutS
abbrev Fn:=List AV -> AH -> Out AV
@[simp] def Out.go {α : Type} (o : Out α) (e : En) (f : α -> AH -> OutS) : OutS :=
 match o with
 | .ok a h=>f a h
 | .ex c h=>.ex c e h
 | .bad=>.bad
structure Tb where
 K : PySem.W.Frag
 cls : Nat -> Option Addr
 exc : Nat -> Option Addr
 fields : Nat -> List Str
 nd : ∀ c,(fields c).Nodup
 few : ∀ c,(fields c).length <= 500
def KL (K : PySem.W.Frag) (a : Addr) (xs : List V) : Prop:=∃ (o : Obj) (its : Array Value) (n : Nat),K.lookup a = some o /\ o.cls = .type "list" /\ o.dict = none /\ o.data = .seq its n /\ its.size <= sizeLine /\ Vals xs its.toList
structure Ix where
 refs : List Addr
 priv : List Addr
def Ix.all (ι : Ix) : List Addr:=ι.refs++ι.priv
mutual
inductive RV (T : Tb) (ι : Ix) (H : Hp) : AV -> V -> Prop
 | non : RV T ι H .non .non
 | bl (b : Bool) : RV T ι H (.bl b) (.bl b)
 | int (i : Int) : RV T ι H (.int i) (.int i)
 | str {x : Str} (n : x.length <= sizeLine) (o : x.cps.all (· < 0x110000) = true) : RV T ι H (.str x) (.str x)
 | tup {xs : List AV} {us : List V} {a : Addr} (n : a ∉ ι.all) (h : H a = some (.tup us)) (r : RVs T ι H xs us) : RV T ι H (.tup xs) (.ref a)
 | fl {xs : List AV} {us : List V} {a : Addr} (n : a ∉ ι.all) (h : Rd H a (.lst us)) (r : RVs T ι H xs us) : RV T ι H (.fl xs) (.ref a)
 | kfl {xs : List AV} {us : List V} {a : Addr} (h : KL T.K a us) (r : RVs T ι H xs us) : RV T ι H (.fl xs) (.ref a)
 | ref {k : Nat} {a : Addr} (h : ι.refs[k]? = some a) : RV T ι H (.ref k) (.ref a)
 | exc {c : Nat} {C a : Addr} (n : a ∉ ι.all) (h : T.exc c = some C) (q : H a = some (excO a (.ref C))) : RV T ι H (.exc c) (.ref a)
inductive RVs (T : Tb) (ι : Ix) (H : Hp) : List AV -> List V -> Prop
 | nil : RVs T ι H [] []
 | cons {x : AV} {u : V} {xs : List AV} {us : List V} (r : RV T ι H x u) (rs : RVs T ι H xs us) : RVs T ι H (x :: xs) (u :: us)
end
structure Grow (ι : Ix) (H : Hp) (ι' : Ix) (H' : Hp) : Prop where
 pre : ∃ n,ι'.refs = ι.refs++n /\ ∀ a ∈ n,H a = none
 priv : ι'.priv = ι.priv
 keep : ∀ a o,a ∉ ι.refs -> H a = some o -> H' a = some o
 live : ∀ a ∈ ι.all,H' a ≠ none
theorem zet : ∀ {l : List Addr} {i j : Nat} {a : Addr},l.Nodup -> l[i]? = some a -> l[j]? = some a -> i = j
 | [],_,_,_,_,e,_=>by simp at e
 | x :: l,0,0,_,_,_,_=>rfl
 | x :: l,0,j + 1,a,n,e,f=>by
  simp at e f; subst e
  exact absurd (List.mem_of_getElem? f) (List.nodup_cons.mp n).1
 | x :: l,i + 1,0,a,n,e,f=>by
  simp at e f; subst f
  exact absurd (List.mem_of_getElem? e) (List.nodup_cons.mp n).1
 | x :: l,i + 1,j + 1,a,n,e,f=>by
  simp at e f
  rw [zet (List.nodup_cons.mp n).2 e f]
theorem Ix.nr {ι : Ix} {a : Addr} (h : a ∉ ι.all) : a ∉ ι.refs:=fun z=>h (List.mem_append_left _ z)
theorem Ix.np {ι : Ix} {a : Addr} (h : a ∉ ι.all) : a ∉ ι.priv:=fun z=>h (List.mem_append_right _ z)
theorem Grow.refl {ι : Ix} {H : Hp} (l : ∀ a ∈ ι.all,H a ≠ none) : Grow ι H ι H:=⟨⟨[],by simp,by simp⟩,rfl,fun _ _ _ e=>e,l⟩
theorem Grow.at {ι ι' : Ix} {H H' : Hp} (g : Grow ι H ι' H') {k : Nat} {a : Addr} (h : ι.refs[k]? = some a) : ι'.refs[k]? = some a:=by
 obtain ⟨n,e,_⟩:=g.pre
 rw [e,List.getElem?_append_left (List.getElem?_eq_some_iff.mp h).1]
 exact h
theorem Grow.outR {ι ι' : Ix} {H H' : Hp} (g : Grow ι H ι' H') {a : Addr} {o : HO} (n : a ∉ ι.refs) (e : H a = some o) : a ∉ ι'.refs:=fun z=>by
 obtain ⟨m,e',hm⟩:=g.pre
 rw [e'] at z
 rcases List.mem_append.mp z with z | z
 ·exact n z
 ·rw [hm a z] at e; cases e
theorem Grow.out {ι ι' : Ix} {H H' : Hp} (g : Grow ι H ι' H') {a : Addr} {o : HO} (n : a ∉ ι.all) (e : H a = some o) : a ∉ ι'.all:=fun z=>by
 rcases List.mem_append.mp z with z | z
 ·exact g.outR (Ix.nr n) e z
 ·rw [g.priv] at z; exact Ix.np n z
theorem Grow.trans {ι ι' ι'' : Ix} {H H' H'' : Hp} (g : Grow ι H ι' H') (k : Grow ι' H' ι'' H'') : Grow ι H ι'' H'' := by
 obtain ⟨n,e1,hn⟩:=g.pre
 obtain ⟨m,e2,hm⟩:=k.pre
 refine ⟨⟨n++m,by rw [e2,e1]; simp,fun a ha=>?_⟩,k.priv.trans g.priv,fun a o na e=>k.keep a o (g.outR na e) (g.keep a o na e),fun a ha=>k.live a ?_⟩
 ·rcases List.mem_append.mp ha with z | z
  ·exact hn a z
  ·have q:=hm a z
   by_cases hi : a ∈ ι.refs
   ·exact absurd q (g.live a (List.mem_append_left _ hi))
   ·cases e : H a with
    | none=>rfl
    | some o=>rw [g.keep a o hi e] at q; cases q
 ·rcases List.mem_append.mp ha with z | z
  ·exact List.mem_append_left _ (by rw [e1]; exact List.mem_append_left _ z)
  ·exact List.mem_append_right _ (by rw [g.priv]; exact z)
structure Ext (ι : Ix) (H : Hp) (ι' : Ix) (H' : Hp) : Prop where
 at_ : ∀ {k : Nat} {a : Addr},ι.refs[k]? = some a -> ι'.refs[k]? = some a
 keep : ∀ a o,a ∉ ι.all -> H a = some o -> H' a = some o
 out : ∀ a o,a ∉ ι.all -> H a = some o -> a ∉ ι'.all
theorem Grow.ext {ι ι' : Ix} {H H' : Hp} (g : Grow ι H ι' H') : Ext ι H ι' H' := ⟨g.at,fun a o n e=>g.keep a o (Ix.nr n) e,fun a o n e=>g.out n e⟩
theorem Ext.trans {ι ι' ι'' : Ix} {H H' H'' : Hp} (g : Ext ι H ι' H') (k : Ext ι' H' ι'' H'') : Ext ι H ι'' H'' :=
 ⟨fun e=>k.at_ (g.at_ e),fun a o n e=>k.keep a o (g.out a o n e) (g.keep a o n e),fun a o n e=>k.out a o (g.out a o n e) (g.keep a o n e)⟩
theorem zfk {ι ι' : Ix} {H H' : Hp} (g : Ext ι H ι' H') {a : Addr} {u : HO} (n : a ∉ ι.all) (r : Rd H a u) : Rd H' a u:=by
 rcases r with r | ⟨o,r⟩
 ·exact .inl (g.keep a _ n r)
 ·exact .inr ⟨o,g.keep a _ n r⟩
theorem yg3 {ι ι' : Ix} {H H' : Hp} (g : Ext ι H ι' H') {a : Addr} {u : HO} (n : a ∉ ι.all) (r : Rd H a u) : a ∉ ι'.all:=by
 rcases r with r | ⟨o,r⟩
 ·exact g.out _ _ n r
 ·exact g.out _ _ n r
mutual
theorem RV.ext {T : Tb} {ι ι' : Ix} {H H' : Hp} (g : Ext ι H ι' H') : ∀ {x : AV} {u : V},RV T ι H x u -> RV T ι' H' x u
 | _,_,.non=>.non
 | _,_,.bl b=>.bl b
 | _,_,.int i=>.int i
 | _,_,.str n o=>.str n o
 | _,_,.tup n h r=>.tup (g.out _ _ n h) (g.keep _ _ n h) (RVs.ext g r)
 | _,_,.fl n h r=>.fl (yg3 g n h) (zfk g n h) (RVs.ext g r)
 | _,_,.kfl h r=>.kfl h (RVs.ext g r)
 | _,_,.ref h=>.ref (g.at_ h)
 | _,_,.exc n h q=>.exc (g.out _ _ n q) h (g.keep _ _ n q)
theorem RVs.ext {T : Tb} {ι ι' : Ix} {H H' : Hp} (g : Ext ι H ι' H') : ∀ {xs : List AV} {us : List V},RVs T ι H xs us -> RVs T ι' H' xs us
 | _,_,.nil=>.nil
 | _,_,.cons r rs=>.cons (RV.ext g r) (RVs.ext g rs)
end
theorem RV.mono {T : Tb} {ι ι' : Ix} {H H' : Hp} (g : Grow ι H ι' H') {x : AV} {u : V} (r : RV T ι H x u) : RV T ι' H' x u:=r.ext g.ext
theorem RVs.mono {T : Tb} {ι ι' : Ix} {H H' : Hp} (g : Grow ι H ι' H') {xs : List AV} {us : List V} (r : RVs T ι H xs us) : RVs T ι' H' xs us:=r.ext g.ext
section
variable {T : Tb} {ι : Ix} {H : Hp}
theorem RVs.length : ∀ {xs : List AV} {us : List V},RVs T ι H xs us -> xs.length = us.length
 | _,_,.nil=>rfl
 | _,_,.cons _ rs=>by simp [RVs.length rs]
theorem RVs.get : ∀ {xs : List AV} {us : List V} {i : Nat} {x : AV},RVs T ι H xs us -> xs[i]? = some x -> ∃ u,us[i]? = some u /\ RV T ι H x u
 | _,_,_,_,.nil,e=>by simp at e
 | _,_,0,_,.cons r _,e=>by simp at e; subst e; exact ⟨_,rfl,r⟩
 | _,_,i + 1,x,.cons _ t,e=>by
  obtain ⟨u,h1,h2⟩:=RVs.get (i:=i) (x:=x) t (by simpa using e)
  exact ⟨u,by simpa using h1,h2⟩
theorem RVs.append : ∀ {xs ys : List AV} {us ws : List V},RVs T ι H xs us -> RVs T ι H ys ws -> RVs T ι H (xs++ys) (us++ws)
 | _,_,_,_,.nil,s=>s
 | _,_,_,_,.cons r t,s=>.cons r (RVs.append t s)
theorem RVs.set {x : AV} {u : V} (r : RV T ι H x u) : ∀ {xs : List AV} {us : List V} (i : Nat),RVs T ι H xs us -> RVs T ι H (xs.set i x) (us.set i u)
 | _,_,_,.nil=>.nil
 | _,_,0,.cons _ t=>.cons r t
 | _,_,i + 1,.cons q t=>.cons q (RVs.set r i t)
theorem RVs.take : ∀ {xs : List AV} {us : List V} (n : Nat),RVs T ι H xs us -> RVs T ι H (xs.take n) (us.take n)
 | _,_,0,_=>by simpa using RVs.nil
 | _,_,_ + 1,.nil=>.nil
 | _,_,n + 1,.cons r t=>.cons r (RVs.take n t)
theorem RVs.drop : ∀ {xs : List AV} {us : List V} (n : Nat),RVs T ι H xs us -> RVs T ι H (xs.drop n) (us.drop n)
 | _,_,0,r=>r
 | _,_,_ + 1,.nil=>.nil
 | _,_,n + 1,.cons _ t=>RVs.drop n t
end
def kA : Key -> AV
 | .inl i=>.int i
 | .inr x=>.str x
def OR (T : Tb) (ι : Ix) (H : Hp) : AO -> HO -> Prop
 | .lst xs,o=>∃ us,o = .lst us /\ RVs T ι H xs us
 | .dct false kvs,o=>∃ kus : List (Key × V),o = .dK kus /\ Paired (fun (p : AV × AV) (q : Key × V)=>p.1 = kA q.1 /\ RV T ι H p.2 q.2) kvs kus
 | .dct true kvs,o=>∃ kus : List (List Key × V),o = .dT kus /\ Paired (fun (p : AV × AV) (q : List Key × V)=>p.1 = .tup (q.1.map kA) /\ RV T ι H p.2 q.2) kvs kus
 | .ins c fs,o=>∃ C dx fus,T.cls c = some C /\ o = .ins C dx fus /\ (fus.map (·.1)).Nodup /\ (∀ p ∈ fus,p.1 ∈ T.fields c) /\ fs.length = (T.fields c).length /\
   ∀ (i : Nat) (v : AV),fs[i]? = some (some v) -> ∃ f u,(T.fields c)[i]? = some f /\ fus.lookup f = some u /\ RV T ι H v u
theorem OR.mono {T : Tb} {ι ι' : Ix} {H H' : Hp} (g : Grow ι H ι' H') {o : AO} {u : HO} (h : OR T ι H o u) : OR T ι' H' o u:=by
 cases o with
 | lst xs=>obtain ⟨us,e,r⟩:=h; exact ⟨us,e,r.mono g⟩
 | dct t kvs =>
  cases t with
  | false=>obtain ⟨us,e,r⟩:=h; exact ⟨us,e,Paired.mapP r fun _ _ ⟨a,b⟩=>⟨a,b.mono g⟩⟩
  | true=>obtain ⟨us,e,r⟩:=h; exact ⟨us,e,Paired.mapP r fun _ _ ⟨a,b⟩=>⟨a,b.mono g⟩⟩
 | ins c fs =>
  obtain ⟨C,dx,fus,a,b,n,w,l,r⟩:=h
  refine ⟨C,dx,fus,a,b,n,w,l,fun i v e=>?_⟩
  obtain ⟨f,u,e1,e2,q⟩:=r i v e
  exact ⟨f,u,e1,e2,q.mono g⟩
structure Sim (T : Tb) (ι : Ix) (h : AH) (H : Hp) : Prop where
 len : ι.refs.length = h.length
 nd : ι.refs.Nodup
 plive : ∀ a ∈ ι.priv,H a ≠ none
 obj : ∀ (i : Nat) (o : AO) (a : Addr),h[i]? = some o -> ι.refs[i]? = some a -> ∃ u,H a = some u /\ OR T ι H o u
section
variable {T : Tb} {ι : Ix} {h : AH} {H : Hp}
theorem Sim.live (S : Sim T ι h H) : ∀ a ∈ ι.all,H a ≠ none:=fun a ha z=>by
 rcases List.mem_append.mp ha with ha | ha
 ·obtain ⟨i,hi⟩:=List.mem_iff_getElem?.mp ha
  have hl : i < h.length:=by rw [<- S.len]; exact (List.getElem?_eq_some_iff.mp hi).1
  obtain ⟨u,e,_⟩:=S.obj i h[i] a (by simp [hl]) hi
  rw [z] at e; cases e
 ·exact S.plive a ha z
theorem Sim.refl (S : Sim T ι h H) : Grow ι H ι H:=.refl S.live
theorem Sim.fresh (S : Sim T ι h H) {p : Addr} (n : H p = none) : p ∉ ι.all:=fun z=>S.live p z n
theorem Sim.still (S : Sim T ι h H) {H' : Hp} (g : Grow ι H ι H') (k : ∀ a ∈ ι.refs,H' a = H a) : Sim T ι h H' :=
 ⟨S.len,S.nd,fun a ha=>g.live a (List.mem_append_right _ ha),fun i o a e1 e2=>by
  obtain ⟨u,e,r⟩:=S.obj i o a e1 e2
  exact ⟨u,by rw [k a (List.mem_of_getElem? e2)]; exact e,r.mono g⟩⟩
theorem Sim.growNew (S : Sim T ι h H) {p : Addr} {o : HO} (n : H p = none) : Grow ι H ι (upd H p o) :=
 ⟨⟨[],by simp,by simp⟩,rfl,fun a u _ e=>by rw [yaB (zap e n)]; exact e,fun a ha=>by
  rw [yaB (show a ≠ p from fun z=>S.fresh n (z ▸ ha))]; exact S.live a ha⟩
theorem Sim.new (S : Sim T ι h H) {p : Addr} {o : HO} (n : H p = none) : Sim T ι h (upd H p o) :=
 S.still (S.growNew n) fun a ha=>yaB fun z=>S.fresh n (z ▸ List.mem_append_left _ ha)
def Ix.add (ι : Ix) (p : Addr) : Ix:=⟨ι.refs++[p],ι.priv⟩
theorem Sim.growAdd (S : Sim T ι h H) {p : Addr} {u : HO} (n : H p = none) : Grow ι H (ι.add p) (upd H p u) :=
 ⟨⟨[p],rfl,fun a ha=>by have e : a = p:=(by simpa using ha); rw [e]; exact n⟩,rfl,(S.growNew n).keep,(S.growNew n).live⟩
theorem Sim.add (S : Sim T ι h H) {p : Addr} {u : HO} {o : AO} (n : H p = none) (r : OR T (ι.add p) (upd H p u) o u) : Sim T (ι.add p) (h++[o]) (upd H p u):=by
 refine ⟨by simp [Ix.add,S.len],?_,fun a ha=>(S.growNew n).live a (List.mem_append_right _ ha),fun i o' a e1 e2=>?_⟩
 ·show (ι.refs++[p]).Nodup
  rw [List.nodup_append]
  exact ⟨S.nd,by simp,fun a ha b hb z=>by have e : b = p:=(by simpa using hb); subst e; subst z; exact S.fresh n (List.mem_append_left _ ha)⟩
 ·replace e2 : (ι.refs++[p])[i]? = some a:=e2
  by_cases hi : i < h.length
  ·rw [List.getElem?_append_left hi] at e1
   rw [List.getElem?_append_left (by rw [S.len]; exact hi)] at e2
   obtain ⟨v,e,q⟩:=S.obj i o' a e1 e2
   exact ⟨v,by rw [yaB (zap e n)]; exact e,q.mono (S.growAdd n)⟩
  ·have e3 : i = h.length:=by
    have:=(List.getElem?_eq_some_iff.mp e1).1
    simp at this; omega
   subst e3
   rw [List.getElem?_append_right (Nat.le_refl _)] at e1
   rw [List.getElem?_append_right (by rw [S.len]; exact Nat.le_refl _),S.len] at e2
   simp at e1 e2
   subst e1 e2
   exact ⟨u,zat,r⟩
theorem Sim.addAt (S : Sim T ι h H) {p : Addr} : (ι.add p).refs[h.length]? = some p:=by
 show (ι.refs++[p])[h.length]? = some p
 rw [<- S.len]; simp
theorem Sim.growSet (S : Sim T ι h H) {i : Nat} {a : Addr} {u : HO} (e : ι.refs[i]? = some a) : Grow ι H ι (upd H a u) :=
 ⟨⟨[],by simp,by simp⟩,rfl,fun b o nb q=>by rw [yaB (show b ≠ a from fun z=>nb (by rw [z]; exact List.mem_of_getElem? e))]; exact q,fun b hb=>by
  by_cases z : b = a
  ·subst z; rw [zat]; simp
  ·rw [yaB z]; exact S.live b hb⟩
theorem Sim.set (S : Sim T ι h H) {i : Nat} {a : Addr} {u : HO} {o : AO} (e : ι.refs[i]? = some a) (r : OR T ι (upd H a u) o u) : Sim T ι (h.set i o) (upd H a u):=by
 refine ⟨by simp [S.len],S.nd,fun b hb=>(S.growSet e).live b (List.mem_append_right _ hb),fun j o' b e1 e2=>?_⟩
 by_cases hj : j = i
 ·subst hj
  rw [e] at e2; cases e2
  have hl : j < h.length:=by rw [<- S.len]; exact (List.getElem?_eq_some_iff.mp e).1
  rw [List.getElem?_set_self hl] at e1; cases e1
  exact ⟨u,zat,r⟩
 ·rw [List.getElem?_set_ne (Ne.symm hj)] at e1
  obtain ⟨v,q,r'⟩:=S.obj j o' b e1 e2
  have ne : b ≠ a:=fun z=>hj (by
   subst z
   exact zet S.nd e2 e)
  exact ⟨v,by rw [yaB ne]; exact q,r'.mono (S.growSet e)⟩
end
def Ix.hide (ι : Ix) (D : Addr) : Ix:=⟨ι.refs,D :: ι.priv⟩
theorem Ix.hide_all {ι : Ix} {D a : Addr} : a ∉ (ι.hide D).all ↔ a ∉ ι.all /\ a ≠ D:=by
 unfold Ix.all Ix.hide
 simp only [List.mem_append,List.mem_cons]
 constructor
 ·intro h; exact ⟨fun z=>h (z.elim .inl fun z=>.inr (.inr z)),fun z=>h (.inr (.inl z))⟩
 ·rintro ⟨h1,h2⟩ (z | z | z)
  ·exact h1 (.inl z)
  ·exact h2 z
  ·exact h1 (.inr z)
section
variable {T : Tb} {ι : Ix} {H : Hp} {D : Addr}
theorem Ext.hide {o : HO} (hn : H D = none) : Ext ι H (ι.hide D) (upd H D o):=⟨fun e=>e,fun a u n e=>by rw [yaB (zap e hn)]; exact e,fun a u n e=>Ix.hide_all.mpr ⟨n,zap e hn⟩⟩
theorem Ext.poke {o : HO} : Ext (ι.hide D) H (ι.hide D) (upd H D o):=⟨fun e=>e,fun a u n e=>by rw [yaB (Ix.hide_all.mp n).2]; exact e,fun a u n e=>n⟩
theorem Ext.show : Ext (ι.hide D) H ι H:=⟨fun e=>e,fun a u n e=>e,fun a u n e=>(Ix.hide_all.mp n).1⟩
theorem OR.ext {ι ι' : Ix} {H H' : Hp} (g : Ext ι H ι' H') {o : AO} {u : HO} (h : OR T ι H o u) : OR T ι' H' o u:=by
 cases o with
 | lst xs=>obtain ⟨us,e,r⟩:=h; exact ⟨us,e,r.ext g⟩
 | dct t kvs =>
  cases t with
  | false=>obtain ⟨us,e,r⟩:=h; exact ⟨us,e,Paired.mapP r fun _ _ ⟨a,b⟩=>⟨a,b.ext g⟩⟩
  | true=>obtain ⟨us,e,r⟩:=h; exact ⟨us,e,Paired.mapP r fun _ _ ⟨a,b⟩=>⟨a,b.ext g⟩⟩
 | ins c fs =>
  obtain ⟨C,dx,fus,a,b,n,w,l,r⟩:=h
  refine ⟨C,dx,fus,a,b,n,w,l,fun i v e=>?_⟩
  obtain ⟨f,u,e1,e2,q⟩:=r i v e
  exact ⟨f,u,e1,e2,q.ext g⟩
theorem Sim.hide {h : AH} {o : HO} (S : Sim T ι h H) (hn : H D = none) : Sim T (ι.hide D) h (upd H D o) :=
 ⟨S.len,S.nd,fun a ha=>by
  rcases List.mem_cons.mp ha with rfl | ha
  ·rw [zat]; simp
  ·rw [yaB (show a ≠ D from fun z=>S.plive a ha (z ▸ hn))]; exact S.plive a ha,fun i o' a e1 e2=>by
  obtain ⟨u,e,r⟩:=S.obj i o' a e1 e2
  exact ⟨u,by rw [yaB (zap e hn)]; exact e,r.ext (Ext.hide hn)⟩⟩
theorem Sim.poke {h : AH} {o : HO} (S : Sim T (ι.hide D) h H) (hr : D ∉ ι.refs) : Sim T (ι.hide D) h (upd H D o) :=
 ⟨S.len,S.nd,fun a ha=>by
  by_cases z : a = D
  ·subst z; rw [zat]; simp
  ·rw [yaB z]; exact S.plive a ha,fun i o' a e1 e2=>by
  obtain ⟨u,e,r⟩:=S.obj i o' a e1 e2
  have ne : a ≠ D:=fun z=>hr (z ▸ List.mem_of_getElem? e2)
  exact ⟨u,by rw [yaB ne]; exact e,r.ext Ext.poke⟩⟩
theorem Sim.show {h : AH} (S : Sim T (ι.hide D) h H) : Sim T ι h H :=
 ⟨S.len,S.nd,fun a ha=>S.plive a (List.mem_cons_of_mem _ ha),fun i o' a e1 e2=>by
  obtain ⟨u,e,r⟩:=S.obj i o' a e1 e2
  exact ⟨u,e,r.ext Ext.show⟩⟩
end
def ER (T : Tb) (ι : Ix) (H : Hp) (e : En) (σ : St) : Prop:=e.length = σ.length /\ ∀ (i : Nat) (v : AV),e[i]? = some (some v) -> ∃ u,σ[i]? = some (some u) /\ RV T ι H v u
theorem ER.mono {T : Tb} {ι ι' : Ix} {H H' : Hp} {e : En} {σ : St} (r : ER T ι H e σ) (g : Grow ι H ι' H') : ER T ι' H' e σ :=
 ⟨r.1,fun i v q=>let ⟨u,a,b⟩:=r.2 i v q; ⟨u,a,b.mono g⟩⟩
theorem ER.ext {T : Tb} {ι ι' : Ix} {H H' : Hp} {e : En} {σ : St} (r : ER T ι H e σ) (g : Ext ι H ι' H') : ER T ι' H' e σ :=
 ⟨r.1,fun i v q=>let ⟨u,a,b⟩:=r.2 i v q; ⟨u,a,b.ext g⟩⟩
theorem ER.set {T : Tb} {ι : Ix} {H : Hp} {e : En} {σ : St} (r : ER T ι H e σ) {v : AV} {u : V} (q : RV T ι H v u) (i : Nat) : ER T ι H (e.set i (some v)) (σ.set i (some u)):=by
 refine ⟨by simp [r.1],fun j w z=>?_⟩
 by_cases hj : j = i
 ·subst hj
  by_cases hl : j < e.length
  ·rw [List.getElem?_set_self hl] at z; cases z
   exact ⟨u,by rw [List.getElem?_set_self (by rw [<- r.1]; exact hl)],q⟩
  ·rw [List.getElem?_eq_none (by simpa using hl)] at z; cases z
 ·rw [List.getElem?_set_ne (Ne.symm hj)] at z ⊢
  exact r.2 j w z
theorem ER.unset {T : Tb} {ι : Ix} {H : Hp} {e : En} {σ : St} (r : ER T ι H e σ) (i : Nat) : ER T ι H (e.set i none) (σ.set i none):=by
 refine ⟨by simp [r.1],fun j w z=>?_⟩
 by_cases hj : j = i
 ·subst hj
  by_cases hl : j < e.length
  ·rw [List.getElem?_set_self hl] at z; cases z
  ·rw [List.getElem?_eq_none (by simpa using hl)] at z; cases z
 ·rw [List.getElem?_set_ne (Ne.symm hj)] at z ⊢
  exact r.2 j w z
def Post {α β : Type} (T : Tb) (ι : Ix) (H : Hp) (E : XK) (R : Ix -> Hp -> α -> β -> Prop) (o : Out α) (Q : β -> Hp -> Prop) : Prop :=
 match o with
 | .ok v h' => ∀ ι' H' u,Grow ι H ι' H' -> Sim T ι' h' H' -> R ι' H' v u -> Q u H'
 | .ex c h' => ∀ ι' H' C,Grow ι H ι' H' -> Sim T ι' h' H' -> T.exc c = some C -> E (.ref C) none H'
 | .bad=>False
def PostS (T : Tb) (ι : Ix) (H : Hp) (E : St -> XK) (o : OutS) (D : Ends) : Prop :=
 match o with
 | .nx e h' => ∀ ι' H' σ',Grow ι H ι' H' -> Sim T ι' h' H' -> ER T ι' H' e σ' -> D.nx σ' H'
 | .bk e h' => ∀ ι' H' σ',Grow ι H ι' H' -> Sim T ι' h' H' -> ER T ι' H' e σ' -> D.bk σ' H'
 | .ct e h' => ∀ ι' H' σ',Grow ι H ι' H' -> Sim T ι' h' H' -> ER T ι' H' e σ' -> D.ct σ' H'
 | .rt v h' => ∀ ι' H' u,Grow ι H ι' H' -> Sim T ι' h' H' -> RV T ι' H' v u -> D.rt u H'
 | .ex c e h' => ∀ ι' H' σ' C,Grow ι H ι' H' -> Sim T ι' h' H' -> ER T ι' H' e σ' -> T.exc c = some C -> E σ' (.ref C) none H'
 | .bad=>False
abbrev REq {α : Type} : Ix -> Hp -> α -> α -> Prop:=fun _ _ a b=>a = b
section
variable {T : Tb} {ι ι' : Ix} {h : AH} {H H' : Hp} {α β γ δ : Type} {E : XK} {R : Ix -> Hp -> α -> β -> Prop} {R' : Ix -> Hp -> γ -> δ -> Prop}
theorem Post.shift {o : Out α} {Q : β -> Hp -> Prop} (p : Post T ι H E R o Q) (g : Grow ι H ι' H') : Post T ι' H' E R o Q:=by
 cases o with
 | ok v h' => exact fun i2 H2 u g2=>p i2 H2 u (g.trans g2)
 | ex c h' => exact fun i2 H2 C g2=>p i2 H2 C (g.trans g2)
 | bad=>exact p
theorem Post.bind {o : Out α} {f : α -> AH -> Out γ} {Q : δ -> Hp -> Prop} {Q1 : β -> Hp -> Prop} (p : Post T ι H E R' (o.bind f) Q)
  (k : ∀ v h' ι' H' u,Grow ι H ι' H' -> Sim T ι' h' H' -> R ι' H' v u -> Post T ι' H' E R' (f v h') Q -> Q1 u H') : Post T ι H E R o Q1:=by
 cases o with
 | ok v h' => exact fun i2 H2 u g S r=>k v h' i2 H2 u g S r (Post.shift p g)
 | ex c h' => exact p
 | bad=>exact p
theorem Post.now {v : α} {u : β} {Q : β -> Hp -> Prop} (p : Post T ι H E R (.ok v h) Q) (S : Sim T ι h H) (r : R ι H v u) : Q u H:=p ι H u S.refl S r
theorem PostS.shift {E : St -> XK} {o : OutS} {D : Ends} (p : PostS T ι H E o D) (g : Grow ι H ι' H') : PostS T ι' H' E o D:=by
 cases o with
 | nx e h' => exact fun i2 H2 u g2=>p i2 H2 u (g.trans g2)
 | bk e h' => exact fun i2 H2 u g2=>p i2 H2 u (g.trans g2)
 | ct e h' => exact fun i2 H2 u g2=>p i2 H2 u (g.trans g2)
 | rt v h' => exact fun i2 H2 u g2=>p i2 H2 u (g.trans g2)
 | ex c e h' => exact fun i2 H2 u C g2=>p i2 H2 u C (g.trans g2)
 | bad=>exact p
theorem PostS.go {E : St -> XK} {o : Out α} {en : En} {σ : St} {f : α -> AH -> OutS} {D : Ends} {Q1 : β -> Hp -> Prop} (p : PostS T ι H E (o.go en f) D) (er : ER T ι H en σ)
  (k : ∀ v h' ι' H' u,Grow ι H ι' H' -> Sim T ι' h' H' -> R ι' H' v u -> PostS T ι' H' E (f v h') D -> Q1 u H') : Post T ι H (E σ) R o Q1:=by
 cases o with
 | ok v h' => exact fun i2 H2 u g S r=>k v h' i2 H2 u g S r (PostS.shift p g)
 | ex c h' => exact fun i2 H2 C g S e=>p i2 H2 σ C g S (er.mono g) e
 | bad=>exact p
end
def tE (T : Tb) (E : St -> XK) (a : SE) : TE:=fun σ H Q=>∃ ι h en,Sim T ι h H /\ ER T ι H en σ /\ Post T ι H (E σ) (RV T) (a en h) Q
def tT (T : Tb) (E : St -> XK) (a : SB) : TT:=fun σ H Q=>∃ ι h en,Sim T ι h H /\ ER T ι H en σ /\ Post T ι H (E σ) REq (a en h) Q
def tA (T : Tb) (E : St -> XK) (a : SL) : TA:=fun σ H Q=>∃ ι h en,Sim T ι h H /\ ER T ι H en σ /\ Post T ι H (E σ) (RVs T) (a en h) Q
def tS (T : Tb) (E : St -> XK) (b : SS) : TS:=fun D σ H=>∃ ι h en,Sim T ι h H /\ ER T ι H en σ /\ PostS T ι H E (b en h) D
abbrev PEA (T : Tb) (E : St -> XK) (X : Cx) (e : Expr) (a : SE) : Prop:=PE X e (tE T E a)
abbrev PTA (T : Tb) (E : St -> XK) (X : Cx) (e : Expr) (a : SB) : Prop:=PT X e (tT T E a)
abbrev PWA (T : Tb) (E : St -> XK) (X : Cx) (e : Expr) (a : SB) : Prop:=PW X e (tT T E a)
abbrev PAA (T : Tb) (E : St -> XK) (X : Cx) (es : List Expr) (a : SL) : Prop:=PA X es (tA T E a)
abbrev PSA (T : Tb) (E : St -> XK) (X : Cx) (st : Stmt) (b : SS) : Prop:=PS X st (tS T E b)
abbrev PSsA (T : Tb) (E : St -> XK) (X : Cx) (sts : List Stmt) (b : SS) : Prop:=PSs X sts (tS T E b)
theorem ya1 {X : Cx} {e : Expr} {t t' : TE} (h : PE X e t) (k : ∀ σ H Q,t' σ H Q -> t σ H Q) : PE X e t' := fun pins s σ H Q I q=>h pins s σ H Q I (k σ H Q q)
theorem yeQ {X : Cx} {e : Expr} {t t' : TT} (h : PT X e t) (k : ∀ σ H Q,t' σ H Q -> t σ H Q) : PT X e t' := fun pins s σ H Q I q=>h pins s σ H Q I (k σ H Q q)
theorem yft {X : Cx} {e : Expr} {t t' : TT} (h : PW X e t) (k : ∀ σ H Q,t' σ H Q -> t σ H Q) : PW X e t' := fun w pins s σ H Q I q=>h w pins s σ H Q I (k σ H Q q)
theorem yfu {X : Cx} {e : List Expr} {t t' : TA} (h : PA X e t) (k : ∀ σ H Q,t' σ H Q -> t σ H Q) : PA X e t' := fun p pins s σ H Q I q=>h p pins s σ H Q I (k σ H Q q)
theorem ybZ {X : Cx} {e : Stmt} {t t' : TS} (h : PS X e t) (k : ∀ D σ H,t' D σ H -> t D σ H) : PS X e t' := fun pins s σ H D I q=>h pins s σ H D I (k D σ H q)
theorem zfl {X : Cx} {e : List Stmt} {t t' : TS} (h : PSs X e t) (k : ∀ D σ H,t' D σ H -> t D σ H) : PSs X e t' := fun pins s σ H D I q=>h pins s σ H D I (k D σ H q)
theorem yfv {X : Cx} {st : Stmt} {t : TS} (h : PS X.nox st t) : PS X st t:=fun pins s σ H D I hw=>by
 refine wpAny_mono (h pins s σ H D (I.wish _) hw) (fun f s' q=>SP.unwish q) fun _ _ z=>z.elim
end Sm
namespace Sm
open PySem L2
instance : DecidableEq AV:=fun _ _=>Classical.propDecidable _
@[simp] def sVar (i : Nat) : SE:=fun en h=>match en[i]? with
 | some (some v)=>.ok v h
 | _=>.bad
@[simp] def sLit (v : AV) : SE:=fun _ h=>.ok v h
abbrev F1:=AV -> AH -> Out AV
abbrev F2:=AV -> AV -> AH -> Out AV
@[simp] def sOp1 (f : F1) (a : SE) : SE:=fun en h=>(a en h).bind f
@[simp] def sOp2 (f : F2) (a b : SE) : SE:=fun en h=>(a en h).bind fun x h1=>(b en h1).bind fun y h2=>f x y h2
@[simp] def sNil : SL:=fun _ h=>.ok [] h
@[simp] def yaa (a : SE) (r : SL) : SL:=fun en h=>(a en h).bind fun x h1=>(r en h1).bind fun xs h2=>.ok (x :: xs) h2
@[simp] def yag (F : Fn) (as : SL) : SE:=fun en h=>(as en h).bind F
@[simp] def sTup (as : SL) : SE:=fun en h=>(as en h).bind fun xs h1=>if xs.length <= 1000 then .ok (.tup xs) h1 else .bad
@[simp] def sLst (as : SL) : SE:=fun en h=>(as en h).bind fun xs h1=>if xs.length <= 1000 then .ok (.fl xs) h1 else .bad
@[simp] def yco (as : SL) : SE:=fun en h=>(as en h).bind fun xs h1=>if xs.length <= 1000 then .ok (.ref h1.length) (h1++[.lst xs]) else .bad
@[simp] def yf1 (t : Bool) : SE:=fun _ h=>.ok (.ref h.length) (h++[.dct t []])
@[simp] def yiw (v : AV) (h : AH) : Option (List AV):=match v with
 | .tup xs=>some xs
 | .fl xs=>some xs
 | .ref n=>match h[n]? with
  | some (.lst xs)=>some xs
  | _=>none
 | _=>none
@[simp] def ydf (v : AV) (h : AH) : Option (List AV):=match v with
 | .fl xs=>some xs
 | .ref n=>match h[n]? with
  | some (.lst xs)=>some xs
  | _=>none
 | _=>none
@[simp] def fAdd : F2:=fun x y h=>match x,y with
 | .int i,.int j=>.ok (.int (i + j)) h
 | .str i,.str j=>if i.length + j.length <= sizeLine then .ok (.str (i++j)) h else .bad
 | .tup xs,.tup ys=>if xs ≠ [] /\ xs.length + ys.length <= sizeLine then .ok (.tup (xs++ys)) h else .bad
 | x,y=>match ydf x h,ydf y h with
  | some xs,some ys=>if xs.length + ys.length <= sizeLine then .ok (.fl (xs++ys)) h else .bad
  | _,_=>.bad
@[simp] def fSub : F2:=fun x y h=>match x,y with
 | .int i,.int j=>.ok (.int (i - j)) h
 | _,_=>.bad
@[simp] def fMul : F2:=fun x y h=>match x,y with
 | .int i,.int j=>if (i.natAbs < 2 ^ 64 \/ j.natAbs < 2 ^ 64) \/ (i.natAbs < 2 ^ 4000 /\ j.natAbs < 2 ^ 4000) then .ok (.int (i * j)) h else .bad
 | _,_=>.bad
@[simp] def fDiv : F2:=fun x y h=>match x,y with
 | .int i,.int j=>if 0 < j /\ j.natAbs < 2 ^ 200 then .ok (.int (i / j)) h else .bad
 | _,_=>.bad
@[simp] def fMod : F2:=fun x y h=>match x,y with
 | .int i,.int j=>if 0 < j then .ok (.int (i % j)) h else .bad
 | _,_=>.bad
@[simp] def fPow : F2:=fun x y h=>match x,y with
 | .int i,.int j=>if 0 <= j /\ j <= 1000000 /\ i.natAbs < 2 ^ 64 then .ok (.int (i ^ j.toNat)) h else .bad
 | _,_=>.bad
@[simp] def fNeg : F1:=fun x h=>match x with
 | .int i=>.ok (.int (-i)) h
 | _=>.bad
def toDs (f : AV -> Option PyData) : List AV -> Option (List PyData)
 | []=>some []
 | x :: xs=>match f x,toDs f xs with
  | some d,some ds=>some (d :: ds)
  | _,_=>none
def toD : Nat -> AH -> AV -> Option PyData
 | 0,_,v=>match v with
  | .non=>some .none
  | .bl b=>some (.bool b)
  | .int i=>some (.int i)
  | .str x=>some (.str x)
  | _=>none
 | n + 1,h,v=>match v with
  | .non=>some .none
  | .bl b=>some (.bool b)
  | .int i=>some (.int i)
  | .str x=>some (.str x)
  | .tup xs=>(toDs (toD n h) xs).map .tuple
  | .fl xs=>(toDs (toD n h) xs).map .list
  | .ref k=>match h[k]? with
   | some (.lst xs)=>(toDs (toD n h) xs).map .list
   | _=>none
  | .exc _=>none
@[simp] def eqA (x y : AV) (h : AH) : Option Bool:=match x,y with
 | .int i,.int j=>some (decide (i = j))
 | .str i,.str j=>some (decide (i = j))
 | .bl i,.bl j=>some (decide (i = j))
 | .non,.non=>some true
 | x,y=>match toD 8 h x,toD 8 h y with
  | some d,some e=>some (PyData.eqv d e)
  | _,_=>none
@[simp] def fEq : F2:=fun x y h=>match eqA x y h with
 | some b=>.ok (.bl b) h
 | none=>.bad
@[simp] def fNe : F2:=fun x y h=>match eqA x y h with
 | some b=>.ok (.bl (!b)) h
 | none=>.bad
@[simp] def fLt : F2:=fun x y h=>match x,y with
 | .int i,.int j=>.ok (.bl (decide (i < j))) h
 | .str i,.str j=>.ok (.bl (decide (i.cps.toList < j.cps.toList))) h
 | _,_=>.bad
@[simp] def fLe : F2:=fun x y h=>match x,y with
 | .int i,.int j=>.ok (.bl (decide (i <= j))) h
 | .str i,.str j=>.ok (.bl (!decide (j.cps.toList < i.cps.toList))) h
 | _,_=>.bad
@[simp] def fGt : F2:=fun x y h=>match x,y with
 | .int i,.int j=>.ok (.bl (decide (j < i))) h
 | _,_=>.bad
@[simp] def fGe : F2:=fun x y h=>match x,y with
 | .int i,.int j=>.ok (.bl (decide (j <= i))) h
 | _,_=>.bad
@[simp] def fIsN : F2:=fun x y h=>match y with
 | .non=>.ok (.bl (decide (x = .non))) h
 | _=>.bad
@[simp] def truA (v : AV) (h : AH) : Option Bool:=match v with
 | .non=>some false
 | .bl b=>some b
 | .int i=>some (i != 0)
 | .str y=>some ((y.length : Int) != 0)
 | .tup xs=>some (!xs.isEmpty)
 | .fl xs=>some (!xs.isEmpty)
 | .ref n=>match h[n]? with
  | some (.lst xs)=>some (!xs.isEmpty)
  | some (.dct false kvs)=>some (!kvs.isEmpty)
  | _=>none
 | _=>none
@[simp] def ybW (a : SE) : SB:=fun en h=>(a en h).bind fun v h1=>match truA v h1 with
 | some b=>.ok b h1
 | none=>.bad
@[simp] def yaq (a : SE) : SB:=fun en h=>(a en h).bind fun v h1=>match v with
 | .bl b=>.ok b h1
 | _=>.bad
@[simp] def sAnd (a b : SB) : SB:=fun en h=>(a en h).bind fun x h1=>if x = true then b en h1 else .ok false h1
@[simp] def sOr (a b : SB) : SB:=fun en h=>(a en h).bind fun x h1=>if x = true then .ok true h1 else b en h1
@[simp] def sNot (a : SB) : SB:=fun en h=>(a en h).bind fun x h1=>.ok (!x) h1
@[simp] def ycW (a b : SE) : SE:=fun en h=>(a en h).bind fun v h1=>match v with
 | .bl k=>if k = true then b en h1 else .ok (.bl false) h1
 | _=>.bad
@[simp] def sOrV (a b : SE) : SE:=fun en h=>(a en h).bind fun v h1=>match v with
 | .bl k=>if k = true then .ok (.bl true) h1 else b en h1
 | _=>.bad
@[simp] def yf2 (a : SE) : SE:=fun en h=>(a en h).bind fun v h1=>match v with
 | .bl b=>.ok (.bl (!b)) h1
 | _=>.bad
@[simp] def sIfE (c : SB) (a b : SE) : SE:=fun en h=>(c en h).bind fun x h1=>if x = true then a en h1 else b en h1
@[simp] def yd0 (f f' : F2) (a b c : SE) : SE:=fun en h=>(a en h).bind fun x h1=>(b en h1).bind fun y h2=>(f x y h2).bind fun z h3=>match z with
 | .bl k=>if k = true then (c en h3).bind fun w h4=>f' y w h4 else .ok (.bl false) h3
 | _=>.bad
@[simp] def yaz : SS:=fun en h=>.nx en h
@[simp] def sSeq (a b : SS) : SS:=fun en h=>match a en h with
 | .nx e h' => b e h'
 | o=>o
@[simp] def yfw : SS:=fun en h=>.bk en h
@[simp] def yaT (a : SE) : SS:=fun en h=>(a en h).go en fun _ h' => .nx en h'
@[simp] def sRet (a : SE) : SS:=fun en h=>(a en h).go en fun v h' => .rt v h'
@[simp] def sIf (c : SB) (a b : SS) : SS:=fun en h=>(c en h).go en fun x h' => if x = true then a en h' else b en h'
@[simp] def sSet (i : Nat) (a : SE) : SS:=fun en h=>(a en h).go en fun v h' => .nx (en.set i (some v)) h'
def yar (c : SB) (b : SS) : Nat -> SS
 | 0=>fun _ _=>.bad
 | n + 1=>fun en h=>match c en h with
  | .ok true h1=>(match b en h1 with
   | .nx e2 h2=>yar c b n e2 h2
   | .ct e2 h2=>yar c b n e2 h2
   | .bk e2 h2=>.nx e2 h2
   | .rt v h2=>.rt v h2
   | _=>.bad)
  | .ok false h1=>.nx en h1
  | _=>.bad
abbrev SI:=En -> AH -> Out (List AV × Option Nat)
@[simp] def ybX (w : Option Nat) (xs : List AV) (h : AH) : Bool:=match w with
 | none=>true
 | some n=>match h[n]? with
  | some (.lst ys)=>decide (ys = xs)
  | _=>false
inductive Tg where
 | nm (i : Nat)
 | tup (is : List Nat)
 | nst (i : Nat) (is : List Nat)
@[simp] def yeR : List Nat -> List AV -> En -> Option En
 | [],[],en=>some en
 | i :: is,x :: xs,en=>yeR is xs (en.set i (some x))
 | _,_,_=>none
@[simp] def setT (t : Tg) (v : AV) (en : En) : Option En:=match t,v with
 | .nm i,v=>some (en.set i (some v))
 | .tup is,.tup xs=>yeR is xs en
 | .nst i is,.tup [y,.tup xs]=>yeR is xs (en.set i (some y))
 | _,_=>none
def ya3 (w : Option Nat) (all : List AV) (t : Tg) (b : SS) : List AV -> SS
 | []=>fun en h=>if ybX w all h = true then .nx en h else .bad
 | x :: xs=>fun en h=>if ybX w all h = true then
   (match setT t x en with
   | some e1=>(match b e1 h with
    | .nx e2 h2=>ya3 w all t b xs e2 h2
    | .ct e2 h2=>ya3 w all t b xs e2 h2
    | .bk e2 h2=>.nx e2 h2
    | .rt v h2=>.rt v h2
    | _=>.bad)
   | none=>.bad) else .bad
@[simp] def sFor (it : SI) (t : Tg) (b : SS) : SS:=fun en h=>match it en h with
 | .ok (xs,w) h1=>ya3 w xs t b xs en h1
 | _=>.bad
@[simp] def iVal (a : SE) : SI:=fun en h=>(a en h).bind fun v h1=>match v with
 | .fl xs=>.ok (xs,none) h1
 | .tup xs=>.ok (xs,none) h1
 | .str z=>.ok (z.cps.toList.map (fun c=>.str ⟨#[c]⟩),none) h1
 | .ref n=>match h1[n]? with
  | some (.lst xs)=>.ok (xs,some n) h1
  | _=>.bad
 | _=>.bad
def ybk (lo : Int) : Nat -> List AV
 | 0=>[]
 | n + 1=>.int lo :: ybk (lo + 1) n
@[simp] def ycg (a : SE) : SI:=fun en h=>(a en h).bind fun v h1=>match v with
 | .int j=>if j.natAbs < 2 ^ 62 then .ok (ybk 0 j.toNat,none) h1 else .bad
 | _=>.bad
def yeS (k : Nat) : List AV -> List AV
 | []=>[]
 | x :: xs=>.tup [.int k,x] :: yeS (k + 1) xs
@[simp] def yix (a : SE) : SI:=fun en h=>(a en h).bind fun v h1=>match v with
 | .fl xs=>.ok (yeS 0 xs,none) h1
 | _=>.bad
def ybc (js : List Nat) (en : En) (w : Option Nat) (all : List AV) (c : SB) (e : SE) : List AV -> List AV -> AH -> Out (List AV)
 | [],ys,h=>if ybX w all h = true then .ok ys h else .bad
 | x :: xs,ys,h=>if ybX w all h = true /\ ys.length < sizeLine then
   (match c (some x :: js.map fun j=>(en[j]?).join) h with
   | .ok true h1=>(match e (some x :: js.map fun j=>(en[j]?).join) h1 with
    | .ok v h2=>ybc js en w all c e xs (ys++[v]) h2
    | _=>.bad)
   | .ok false h1=>ybc js en w all c e xs ys h1
   | _=>.bad) else .bad
@[simp] def sYes : SB:=fun _ h=>.ok true h
@[simp] def ycX (js : List Nat) (it : SI) (c : SB) (e : SE) : SE:=fun en h=>match it en h with
 | .ok (xs,w) h1=>(match ybc js en w xs c e xs [] h1 with
  | .ok ys h2=>.ok (.fl ys) h2
  | _=>.bad)
 | _=>.bad
@[simp] def mkFn (n m : Nat) (b : SS) : Fn:=fun args h =>
 if args.length = n then
  match b (args.map some++List.replicate (m - n) none) h with
  | .nx _ h' => .ok .non h'
  | .rt v h' => .ok v h'
  | .ex c _ h' => .ex c h'
  | _=>.bad
 else .bad
@[simp] def yao (c : Nat) (F : Fn) (o : SE) (as : SL) : SE:=fun en h=>(o en h).bind fun x h1=>match x with
 | .ref n=>match h1[n]? with
  | some (.ins c' _)=>if c' = c then (as en h1).bind fun xs h2=>F (x :: xs) h2 else .bad
  | _=>.bad
 | _=>.bad
@[simp] def yen (c k : Nat) (F : Fn) (as : SL) : SE:=fun en h=>(as en h).bind fun xs h1=>match F (.ref h1.length :: xs) (h1++[.ins c (List.replicate k none)]) with
 | .ok .non h2=>.ok (.ref h1.length) h2
 | .ex c h2=>.ex c h2
 | _=>.bad
@[simp] def sFld (c i : Nat) (o : SE) : SE:=fun en h=>(o en h).bind fun x h1=>match x with
 | .ref n=>match h1[n]? with
  | some (.ins c' fs)=>if c' = c then (match fs[i]? with | some (some v)=>.ok v h1 | _=>.bad) else .bad
  | _=>.bad
 | _=>.bad
@[simp] def ych (c i : Nat) (o v : SE) : SS:=fun en h=>(v en h).go en fun y h1=>(o en h1).go en fun x h2=>match x with
 | .ref n=>match h2[n]? with
  | some (.ins c' fs)=>if c' = c then .nx en (h2.set n (.ins c (fs.set i (some y)))) else .bad
  | _=>.bad
 | _=>.bad
@[simp] def yb9 (c : Nat) (as : SL) : SS:=fun en h=>(as en h).go en fun xs h1=>if xs.length <= 1000 then .ex c en h1 else .bad
@[simp] def sTry (i : Nat) (catches : Nat -> Bool) (b hd : SS) : SS:=fun en h=>match b en h with
 | .ex c e h' => if catches c = true then
   (match hd (e.set i (some (.exc c))) h' with
   | .nx e2 h2=>.nx (e2.set i none) h2
   | .bk e2 h2=>.bk (e2.set i none) h2
   | .ct e2 h2=>.ct (e2.set i none) h2
   | .rt v h2=>.rt v h2
   | _=>.bad) else .bad
 | o=>o
@[simp] def keyOf? (v : AV) : Option Key:=match v with
 | .int i=>some (.inl i)
 | .str x=>some (.inr x)
 | _=>none
@[simp] def keysOf? : List AV -> Option (List Key)
 | []=>some []
 | v :: r=>match keyOf? v,keysOf? r with
  | some k,some ks=>some (k :: ks)
  | _,_=>none
@[simp] def ydg (t : Bool) (v : AV) : Bool:=match t,v with
 | false,v=>(keyOf? v).isSome
 | true,.tup xs=>(keysOf? xs).isSome
 | true,_=>false
def valA (kvs : List (AV × AV)) (k : AV) : Option AV:=(kvs.find? fun p=>decide (p.1 = k)).map (·.2)
def putA (kvs : List (AV × AV)) (k v : AV) : List (AV × AV) :=
 if kvs.any (fun p=>decide (p.1 = k)) then kvs.map fun p=>if p.1 = k then (p.1,v) else p else kvs++[(k,v)]
@[simp] def fIx : F2:=fun x y h=>match x,y with
 | .str z,.int i=>match atI z.cps.toList i with
  | some c=>.ok (.str ⟨#[c]⟩) h
  | none=>.bad
 | .tup xs,.int i=>match atI xs i with
  | some v=>.ok v h
  | none=>.bad
 | .fl xs,.int i=>match atI xs i with
  | some v=>.ok v h
  | none=>.bad
 | .ref n,y=>match h[n]? with
  | some (.lst xs)=>match y with
   | .int i=>match atI xs i with
    | some v=>.ok v h
    | none=>.bad
   | _=>.bad
  | some (.dct t kvs)=>if ydg t y then (match valA kvs y with | some v=>.ok v h | none=>.bad) else .bad
  | _=>.bad
 | _,_=>.bad
@[simp] def yeo (o i v : SE) : SS:=fun en h=>(v en h).go en fun z h1=>(o en h1).go en fun x h2=>(i en h2).go en fun y h3=>match x with
 | .ref n=>match h3[n]? with
  | some (.lst xs)=>match y with
   | .int k=>match ixN xs.length k with
    | some j=>.nx en (h3.set n (.lst (xs.set j z)))
    | none=>.bad
   | _=>.bad
  | some (.dct t kvs)=>if ydg t y = true /\ kvs.length < sizeLine then .nx en (h3.set n (.dct t (putA kvs y z))) else .bad
  | _=>.bad
 | _=>.bad
@[simp] def inA (x y : AV) (h : AH) : Option Bool:=match x,y with
 | .str i,.str j=>some (!(Builtin.Str.occurrences j i 0 j.length 1).isEmpty)
 | x,.ref n=>match h[n]? with
  | some (.dct t kvs)=>if ydg t x then some (valA kvs x).isSome else none
  | some (.lst xs)=>match toD 8 h x,toDs (toD 8 h) xs with
   | some d,some ds=>some (ds.any fun e=>PyData.eqv e d)
   | _,_=>none
  | _=>none
 | x,.fl xs=>match toD 8 h x,toDs (toD 8 h) xs with
  | some d,some ds=>some (ds.any fun e=>PyData.eqv e d)
  | _,_=>none
 | x,.tup xs=>match toD 8 h x,toDs (toD 8 h) xs with
  | some d,some ds=>some (ds.any fun e=>PyData.eqv e d)
  | _,_=>none
 | _,_=>none
@[simp] def yeT : F2:=fun x y h=>match inA x y h with
 | some b=>.ok (.bl (!b)) h
 | none=>.bad
@[simp] def fLen : Fn:=fun args h=>match args with
 | [.str x]=>.ok (.int x.length) h
 | [.tup xs]=>.ok (.int xs.length) h
 | [.fl xs]=>.ok (.int xs.length) h
 | [.ref n]=>match h[n]? with
  | some (.lst xs)=>.ok (.int xs.length) h
  | some (.dct false kvs)=>.ok (.int kvs.length) h
  | _=>.bad
 | _=>.bad
@[simp] def fAbs : Fn:=fun args h=>match args with
 | [.int i]=>.ok (.int (if i < 0 then -i else i)) h
 | _=>.bad
@[simp] def ybN : Fn:=fun args h=>match args with
 | [.int i,.int j]=>.ok (.int (if j > i then j else i)) h
 | _=>.bad
@[simp] def ybO : Fn:=fun args h=>match args with
 | [.int i,.int j]=>.ok (.int (if j < i then j else i)) h
 | _=>.bad
@[simp] def ydL : List AV -> Option (List Bool)
 | []=>some []
 | .bl b :: r=>(ydL r).map (b :: ·)
 | _ :: _=>none
@[simp] def fAll : Fn:=fun args h=>match args with
 | [.fl xs]=>match ydL xs with
  | some bs=>.ok (.bl (bs.all id)) h
  | none=>.bad
 | _=>.bad
@[simp] def tyN (v : AV) (h : AH) : Option String:=match v with
 | .non=>some "NoneType"
 | .bl _=>some "bool"
 | .int _=>some "int"
 | .str _=>some "str"
 | .tup _=>some "tuple"
 | .fl _=>some "list"
 | .ref n=>match h[n]? with
  | some (.lst _)=>some "list"
  | some (.dct _ _)=>some "dict"
  | _=>none
 | .exc _=>none
@[simp] def sIsB (t : String) (a : SE) : SE:=fun en h=>(a en h).bind fun v h1=>match tyN v h1 with
 | some n=>.ok (.bl (n == t || (t == "int" && n == "bool"))) h1
 | none=>.bad
@[simp] def sIsX (p : Nat -> Bool) (a : SE) : SE:=fun en h=>(a en h).bind fun v h1=>match v with
 | .exc c=>.ok (.bl (p c)) h1
 | _=>.bad
abbrev FM:=AV -> List AV -> AH -> Out AV
@[simp] def yay (v : AV) (h : AH) : Bool:=(ydf v h).isSome
@[simp] def ye9 (v : AV) (_ : AH) : Bool:=match v with
 | .str _=>true
 | _=>false
@[simp] def sBM (chk : AV -> AH -> Bool) (f : FM) (o : SE) (as : SL) : SE:=fun en h=>(o en h).bind fun x h1=>if chk x h1 = true then (as en h1).bind fun xs h2=>f x xs h2 else .bad
@[simp] def sBM0 (chk : AV -> AH -> Bool) (f : FM) (o : SE) : SE:=fun en h=>(o en h).bind fun x h1=>if chk x h1 = true then f x [] h1 else .bad
@[simp] def yaA : FM:=fun x vs h=>match x,vs with
 | .ref n,[y]=>match h[n]? with
  | some (.lst xs)=>if xs.length < sizeLine then .ok .non (h.set n (.lst (xs++[y]))) else .bad
  | _=>.bad
 | _,_=>.bad
@[simp] def mPop : FM:=fun x vs h=>match x,vs with
 | .ref n,[]=>match h[n]? with
  | some (.lst xs)=>match xs[xs.length - 1]? with
   | some y=>.ok y (h.set n (.lst xs.dropLast))
   | none=>.bad
  | _=>.bad
 | _,_=>.bad
@[simp] def yeD : FM:=fun x vs h=>match x,vs with
 | .str z,[.str y]=>.ok (.int ((Builtin.Str.occurrences z y 0 z.length (z.length + 1)).length : Nat)) h
 | _,_=>.bad
def cutA {α : Type} (xs : List α) (lo hi : Option Int) : List α:=(xs.drop (HT.sIx xs.length 0 lo)).take (HT.sIx xs.length xs.length hi - HT.sIx xs.length 0 lo)
end Sm
namespace Sm
open PySem L2
structure CA (T : Tb) (E : St -> XK) (X : Cx) : Prop where
 hK : X.K = T.K
 pass : ycO (CXE X.prog X.w) X E
abbrev EN : St -> XK:=fun _=>E0
theorem CA.nox {T : Tb} {E : St -> XK} {X : Cx} (c : CA T E X) : CA T EN X.nox:=⟨c.hK,fun _ _ _ _ _ _ _ h=>by
 obtain ⟨_,_,_,_,_,_,_,_,_,_,_,_,_,_,q⟩:=h
 exact q.elim⟩
theorem CA.never {T : Tb} {X : Cx} (hK : X.K = T.K) : CA T EN X:=⟨hK,fun _ _ _ _ _ _ _ h=>by
 obtain ⟨_,_,_,_,_,_,_,_,_,_,_,_,_,_,q⟩:=h
 exact q.elim⟩
section
variable {T : Tb} {ι : Ix} {h : AH} {H : Hp}
theorem ybR {x : AV} {u : V} {xs : List AV} (S : Sim T ι h H) (r : RV T ι H x u) (e : ydf x h = some xs) : ∃ a us,u = .ref a /\ SqL T.K H a us /\ RVs T ι H xs us:=by
 unfold ydf at e
 cases r with
 | fl n q r=>cases e; exact ⟨_,_,rfl,.inl q,r⟩
 | kfl q r=>cases e; exact ⟨_,_,rfl,.inr q,r⟩
 | @ref k a q =>
  dsimp only at e
  split at e
  ·rename_i ys hk
   cases e
   obtain ⟨u,e1,us,rfl,r⟩:=S.obj k _ a hk q
   exact ⟨a,us,rfl,.inl (.inl e1),r⟩
  ·cases e
 | _=>cases e
theorem ydM {u : V} {xs : List AV} (r : RV T ι H (.tup xs) u) : ∃ a us,u = .ref a /\ SqT T.K H a us /\ RVs T ι H xs us:=by
 cases r with
 | tup n q r=>exact ⟨_,_,rfl,.of q,r⟩
theorem ybr {u : V} {x : Str} (r : RV T ι H (.str x) u) : u = .str x /\ x.length <= sizeLine /\ x.cps.all (· < 0x110000) = true:=by
 cases r with
 | str n o=>exact ⟨rfl,n,o⟩
theorem yaG {u : V} {i : Int} (r : RV T ι H (.int i) u) : u = .int i:=by cases r; rfl
theorem ydh {u : V} {i : Bool} (r : RV T ι H (.bl i) u) : u = .bl i:=by cases r; rfl
theorem yep {u : V} (r : RV T ι H .non u) : u = .non:=by cases r; rfl
theorem yeq {us : List V} {xs : List AV} {p : Addr} {E : XK} {Q : VK} (S : Sim T ι h H) (r : RVs T ι H xs us) (n : H p = none) (q : Post T ι H E (RV T) (.ok (.fl xs) h) Q) : Q (.ref p) (upd H p (.lst us)) :=
 q ι _ _ (S.growNew n) (S.new n) (.fl (S.fresh n) (.inl zat) (r.mono (S.growNew n)))
theorem zdf {us : List V} {xs : List AV} {p : Addr} {E : XK} {Q : VK} (S : Sim T ι h H) (r : RVs T ι H xs us) (n : H p = none) (q : Post T ι H E (RV T) (.ok (.tup xs) h) Q) : Q (.ref p) (upd H p (.tup us)) :=
 q ι _ _ (S.growNew n) (S.new n) (.tup (S.fresh n) zat (r.mono (S.growNew n)))
theorem ziN {us : List V} {xs : List AV} {p : Addr} {E : XK} {Q : VK} (S : Sim T ι h H) (r : RVs T ι H xs us) (n : H p = none) (q : Post T ι H E (RV T) (.ok (.ref h.length) (h++[.lst xs])) Q) : Q (.ref p) (upd H p (.lst us)) :=
 q _ _ _ (S.growAdd n) (S.add n ⟨us,rfl,r.mono (S.growAdd n)⟩) (.ref S.addAt)
end
section
variable {T : Tb} {E : St -> XK} {X : Cx} {pos : Pos}
theorem yab (i : Nat) {x : Str} {p : Pos} (hN : X.N[i]? = some x:=by rfl) (hv : Vis X.env.scope x:=by first | exact Or.inl rfl | exact Or.inr (Or.inl rfl) | exact Or.inr (Or.inr rfl)) (hd : (x == ("__debug__" : Str)) = false:=by decide)
  (hcd : (x == ("__classdict__" : Str)) = false:=by decide) : PEA T E X (.Name x p) (sVar i) :=
 ya1 (pv i hN hv hd hcd) fun σ H Q ⟨ι,h,en,S,er,q⟩=>by
  unfold sVar at q
  split at q
  ·rename_i v hv
   obtain ⟨u,e,r⟩:=er.2 i v hv
   exact ⟨u,e,q.now S r⟩
  ·exact q.elim
theorem yaf {i j p} : PEA T E X (.Constant (.int i) j p) (sLit (.int i)):=ya1 ygn fun σ H Q ⟨ι,h,en,S,er,q⟩=>q.now S (.int i)
theorem r_bl {i j p} : PEA T E X (.Constant (.bool i) j p) (sLit (.bl i)):=ya1 yhE fun σ H Q ⟨ι,h,en,S,er,q⟩=>q.now S (.bl i)
theorem yfa {j p} : PEA T E X (.Constant .none j p) (sLit .non):=ya1 ygo fun σ H Q ⟨ι,h,en,S,er,q⟩=>q.now S .non
theorem yaO {x j p} (n : x.length <= sizeLine:=by decide +kernel) (o : x.cps.all (· < 0x110000) = true:=by decide +kernel) : PEA T E X (.Constant (.str x) j p) (sLit (.str x)):=ya1 ygp fun σ H Q ⟨ι,h,en,S,er,q⟩=>q.now S (.str n o)
theorem ziO {x : Str} {i : Int} {t : Tok} {p : Pos} (hg : Gl X x) (hm : X.mg x = some (.int i t)) (hd : (x == ("__debug__" : Str)) = false:=by decide) : PEA T E X (.Name x p) (sLit (.int i)) :=
 ya1 (zfa (v:=.int i) hg hm ⟨t,rfl⟩ hd) fun σ H Q ⟨ι,h,en,S,er,q⟩=>q.now S (.int i)
def OpS (T : Tb) (f : F2) (r : R2) : Prop:=∀ (ι : Ix) (h : AH) (H : Hp) (x y : AV) (u w : V) (E : XK) (Q : VK),Sim T ι h H -> RV T ι H x u -> RV T ι H y w -> Post T ι H E (RV T) (f x y h) Q -> r u w H Q
def Op (T : Tb) (X : Cx) (g : Value -> Value -> Sem Value) (f : F2) : Prop:=∃ r,OpR X g r /\ OpS T f r
variable {a b c : Expr} {sa sb sc : SE}
theorem two {f : F2} {r : R2} (hs : OpS T f r) {σ : St} {H : Hp} {Q : VK} (q : tE T E (sOp2 f sa sb) σ H Q) : tOp r (tE T E sa) (tE T E sb) σ H Q:=by
 obtain ⟨ι,h,en,S,er,q⟩:=q
 refine ⟨ι,h,en,S,er,q.bind fun x h1 ι1 H1 u g1 S1 r1 q1=>⟨ι1,h1,en,S1,er.mono g1,q1.bind fun y h2 ι2 H2 w g2 S2 r2 q2=>?_⟩⟩
 exact hs ι2 h2 H2 x y u w _ Q S2 (r1.mono g2) r2 q2
theorem yav {op : Operator} {f : F2} (ho : Op T X (binaryOp op) f) (ha : PEA T E X a sa) (hb : PEA T E X b sb) : PEA T E X (.BinOp a op b pos) (sOp2 f sa sb):=by
 obtain ⟨r,h1,h2⟩:=ho
 exact ya1 (yhN h1 ha hb) fun σ H Q q=>two h2 q
theorem ziP {i j : Str} (hi : i.cps.all (· < 0x110000) = true) (hj : j.cps.all (· < 0x110000) = true) : (i++j).cps.all (· < 0x110000) = true:=by
 show (i.cps++j.cps).all _ = true
 rw [Array.all_append,hi,hj]; rfl
theorem zeX (i j : Str) : (i++j).length = i.length + j.length:=by
 show (i.cps++j.cps).size = _
 rw [Array.size_append]; rfl
theorem ybq (hK : X.K = T.K) : Op T X (binaryOp .Add) fAdd:=by
 refine ⟨_,op_add.or (zf8.or (ziy.or ziL)),fun ι h H x y u w E Q S rx ry p=>?_⟩
 unfold fAdd at p
 split at p
 ·rw [yaG rx,yaG ry]
  exact .inl ⟨_,_,rfl,rfl,p.now S (.int _)⟩
 ·split at p
  ·rename_i hz
   obtain ⟨rfl,_,o1⟩:=ybr rx
   obtain ⟨rfl,_,o2⟩:=ybr ry
   exact .inr (.inl ⟨_,_,rfl,rfl,hz,p.now S (.str (by rw [zeX]; exact hz) (ziP o1 o2))⟩)
  ·exact p.elim
 ·split at p
  ·rename_i hz
   obtain ⟨a,us,rfl,q1,r1⟩:=ydM rx
   obtain ⟨b,ws,rfl,q2,r2⟩:=ydM ry
   refine .inr (.inr (.inl ⟨a,b,us,ws,rfl,rfl,hK ▸ q1,hK ▸ q2,fun z=>hz.1 ?_,by rw [<- r1.length,<- r2.length]; exact hz.2,fun z=>?_,fun _ l n=>zdf S (r1.append r2) n p⟩))
   ·subst z; cases r1; rfl
   ·subst z; cases r2
    rw [List.append_nil] at p
    exact p.now S rx
  ·exact p.elim
 ·split at p
  ·split at p
   ·rename_i e1 e2 hz
    obtain ⟨a,us,rfl,q1,r1⟩:=ybR S rx e1
    obtain ⟨b,ws,rfl,q2,r2⟩:=ybR S ry e2
    exact .inr (.inr (.inr ⟨a,b,us,ws,rfl,rfl,hK ▸ q1,hK ▸ q2,by rw [<- r1.length,<- r2.length]; exact hz,fun l n=>yeq S (r1.append r2) n p⟩))
   ·exact p.elim
  ·exact p.elim
theorem yd7 : Op T X (binaryOp .Sub) fSub:=by
 refine ⟨_,ygE,fun ι h H x y u w E Q S rx ry p=>?_⟩
 unfold fSub at p
 split at p
 ·rw [yaG rx,yaG ry]
  exact ⟨_,_,rfl,rfl,p.now S (.int _)⟩
 ·exact p.elim
theorem zfm {i : Int} (h : i.natAbs < 2 ^ 4000) : Builtin.Int.intBits i <= 2 ^ 20:=by
 unfold Builtin.Int.intBits
 split
 ·exact Nat.zero_le _
 ·rename_i hz
  have h0 : i.natAbs ≠ 0:=fun z=>hz (by simpa using z)
  have : i.natAbs.log2 < 4000:=(Nat.log2_lt h0).mpr h
  exact Nat.le_trans (by omega : i.natAbs.log2 + 1 <= 4001) (by decide)
theorem ycY : Op T X (binaryOp .Mult) fMul:=by
 refine ⟨_,zhB,fun ι h H x y u w E Q S rx ry p=>?_⟩
 unfold fMul at p
 split at p
 ·split at p
  ·rename_i hz
   rw [yaG rx,yaG ry]
   exact ⟨_,_,rfl,rfl,hz.elim (fun z=>CMul.ok (z.elim (fun z=>.inl ⟨by omega,by omega⟩) (fun z=>.inr ⟨by omega,by omega⟩))) (fun z=>.of_bits (zfm z.1) (zfm z.2)),p.now S (.int _)⟩
  ·exact p.elim
 ·exact p.elim
theorem yfb : Op T X (binaryOp .FloorDiv) fDiv:=by
 refine ⟨_,zhA,fun ι h H x y u w E Q S rx ry p=>?_⟩
 unfold fDiv at p
 split at p
 ·split at p
  ·rename_i hz
   rw [yaG rx,yaG ry]
   exact ⟨_,_,rfl,rfl,⟨hz.1,by omega⟩,p.now S (.int _)⟩
  ·exact p.elim
 ·exact p.elim
theorem ydi : Op T X (binaryOp .Mod) fMod:=by
 refine ⟨_,ygF,fun ι h H x y u w E Q S rx ry p=>?_⟩
 unfold fMod at p
 split at p
 ·split at p
  ·rename_i hz
   rw [yaG rx,yaG ry]
   exact ⟨_,_,rfl,rfl,hz,p.now S (.int _)⟩
  ·exact p.elim
 ·exact p.elim
theorem ydx : Op T X (binaryOp .Pow) fPow:=by
 refine ⟨_,ygG,fun ι h H x y u w E Q S rx ry p=>?_⟩
 unfold fPow at p
 split at p
 ·split at p
  ·rename_i hz
   rw [yaG rx,yaG ry]
   exact ⟨_,_,rfl,rfl,hz,p.now S (.int _)⟩
  ·exact p.elim
 ·exact p.elim
theorem ydy (ha : PEA T E X a sa) : PEA T E X (.UnaryOp .USub a pos) (sOp1 fNeg sa) :=
 ya1 (yhO ygH ha) fun σ H Q ⟨ι,h,en,S,er,q⟩=>⟨ι,h,en,S,er,q.bind fun x h1 ι1 H1 u g1 S1 r1 q1=>by
  unfold fNeg at q1
  split at q1
  ·rw [yaG r1]
   exact ⟨_,rfl,q1.now S1 (.int _)⟩
  ·exact q1.elim⟩
theorem zgX {ds : List PyData} (h : ∀ d ∈ ds,d.canLay0 = true) : PyData.canLayAll0 ds = true:=by
 induction ds with
 | nil=>rfl
 | cons d r ih=>show (d.canLay0 && PyData.canLayAll0 r) = true; rw [h d (by simp),ih fun e he=>h e (by simp [he])]; rfl
theorem zeY {n : Nat} {ds : List PyData} (h : ∀ d ∈ ds,d.depth <= n) : PyData.depthAll ds <= n:=by
 induction ds with
 | nil=>exact Nat.zero_le _
 | cons d r ih=>show max d.depth (PyData.depthAll r) <= n; have:=h d (by simp); have:=ih fun e he=>h e (by simp [he]); omega
section
variable {ι : Ix} {h : AH} {H : Hp}
theorem zbB {f : AV -> Option PyData} {n : Nat} (hf : ∀ {x : AV} {u : V} {d : PyData},RV T ι H x u -> f x = some d -> DaV T.K H u d /\ d.canLay0 = true /\ d.depth <= n) :
  ∀ {xs : List AV} {us : List V} {ds : List PyData},RVs T ι H xs us -> toDs f xs = some ds -> DaVs T.K H us ds /\ ∀ d ∈ ds,d.canLay0 = true /\ d.depth <= n
 | _,_,ds,.nil,e=>by cases e; exact ⟨.nil,by simp⟩
 | _,_,ds,.cons (x:=x) (xs:=xs) r rs,e=>by
  unfold toDs at e
  split at e
  ·rename_i d ds' e1 e2
   cases e
   obtain ⟨q1,q2⟩:=hf r e1
   obtain ⟨q3,q4⟩:=zbB hf rs e2
   refine ⟨.cons q1 q3,fun d hd=>?_⟩
   rcases List.mem_cons.mp hd with rfl | hd
   ·exact q2
   ·exact q4 d hd
  ·cases e
theorem ycx (S : Sim T ι h H) : ∀ (n : Nat) {x : AV} {u : V} {d : PyData},RV T ι H x u -> toD n h x = some d -> DaV T.K H u d /\ d.canLay0 = true /\ d.depth <= n
 | 0,x,u,d,r,e=>by
  unfold toD at e
  cases r with
  | non=>cases e; exact ⟨.non,rfl,Nat.le_refl _⟩
  | bl b=>cases e; exact ⟨.bl b,rfl,Nat.le_refl _⟩
  | int b=>cases e; exact ⟨.int b,rfl,Nat.le_refl _⟩
  | str a b=>cases e; exact ⟨.str _,b,Nat.le_refl _⟩
  | _=>cases e
 | n + 1,x,u,d,r,e=>by
  unfold toD at e
  have many : ∀ {xs : List AV} {us : List V} {ds : List PyData},RVs T ι H xs us -> toDs (toD n h) xs = some ds -> DaVs T.K H us ds /\ ∀ d ∈ ds,d.canLay0 = true /\ d.depth <= n:=fun r e=>zbB (fun r e=>ycx S n r e) r e
  have fin : ∀ {ds : List PyData},(∀ d ∈ ds,d.canLay0 = true /\ d.depth <= n) -> PyData.canLayAll0 ds = true /\ PyData.depthAll ds + 1 <= n + 1:=fun q=>⟨zgX fun d hd=>(q d hd).1,Nat.succ_le_succ (zeY fun d hd=>(q d hd).2)⟩
  cases r with
  | non=>cases e; exact ⟨.non,rfl,Nat.zero_le _⟩
  | bl b=>cases e; exact ⟨.bl b,rfl,Nat.zero_le _⟩
  | int b=>cases e; exact ⟨.int b,rfl,Nat.zero_le _⟩
  | str a b=>cases e; exact ⟨.str _,b,Nat.zero_le _⟩
  | tup k q r =>
   obtain ⟨ds,e1,rfl⟩:=Option.map_eq_some_iff.mp e
   obtain ⟨q1,q2⟩:=many r e1
   exact ⟨.tup (.of q) q1,fin q2⟩
  | fl k q r =>
   obtain ⟨ds,e1,rfl⟩:=Option.map_eq_some_iff.mp e
   obtain ⟨q1,q2⟩:=many r e1
   exact ⟨.lst (.inl q) q1,fin q2⟩
  | kfl q r =>
   obtain ⟨ds,e1,rfl⟩:=Option.map_eq_some_iff.mp e
   obtain ⟨q1,q2⟩:=many r e1
   exact ⟨.lst (.inr q) q1,fin q2⟩
  | @ref k a q =>
   dsimp only at e
   split at e
   ·rename_i ys hk
    obtain ⟨ds,e1,rfl⟩:=Option.map_eq_some_iff.mp e
    obtain ⟨u,e2,us,rfl,r⟩:=S.obj k _ a hk q
    obtain ⟨q1,q2⟩:=many r e1
    exact ⟨.lst (.inl (.inl e2)) q1,fin q2⟩
   ·cases e
  | exc _ _ _=>cases e
end
theorem yg4 {i j : Int} : decide (V.int i = V.int j) = decide (i = j):=by rw [Bool.eq_iff_iff]; simp
theorem yg5 {i j : Str} : decide (V.str i = V.str j) = decide (i = j):=by rw [Bool.eq_iff_iff]; simp
theorem yh5 {i j : Bool} : decide (V.bl i = V.bl j) = decide (i = j):=by rw [Bool.eq_iff_iff]; simp
theorem zfn {r : R2} {neg : Bool} (ho : OpR X g r) (h1 : ∀ x y H Q,(scal x y = true /\ Q (.bl (if neg then !decide (x = y) else decide (x = y))) H) -> r x y H Q)
  (h2 : ∀ x y H Q,(∃ d e,DaV T.K H x d /\ DaV T.K H y e /\ d.canLay0 = true /\ e.canLay0 = true /\ d.depth <= 60 /\ Q (.bl (if neg then !PyData.eqv d e else PyData.eqv d e)) H) -> r x y H Q) :
  OpS T (fun x y h=>match eqA x y h with | some b=>.ok (.bl (if neg then !b else b)) h | none=>.bad) r:=by
 intro ι h H x y u w E Q S rx ry p
 dsimp only at p
 cases hb : eqA x y h with
 | none=>rw [hb] at p; exact p.elim
 | some b =>
  rw [hb] at p
  dsimp only at p
  unfold eqA at hb
  split at hb
  ·cases hb
   rw [yaG rx,yaG ry]
   exact h1 _ _ _ _ ⟨rfl,by rw [yg4]; exact p.now S (.bl _)⟩
  ·cases hb
   obtain ⟨rfl,_⟩:=ybr rx
   obtain ⟨rfl,_⟩:=ybr ry
   exact h1 _ _ _ _ ⟨rfl,by rw [yg5]; exact p.now S (.bl _)⟩
  ·cases hb
   rw [ydh rx,ydh ry]
   exact h1 _ _ _ _ ⟨rfl,by rw [yh5]; exact p.now S (.bl _)⟩
  ·cases hb
   rw [yep rx,yep ry]
   exact h1 _ _ _ _ ⟨rfl,by rw [show decide (V.non = V.non) = true from rfl]; exact p.now S (.bl _)⟩
  ·split at hb
   ·rename_i d e e1 e2
    cases hb
    obtain ⟨q1,q2,q3⟩:=ycx S 8 rx e1
    obtain ⟨q4,q5,q6⟩:=ycx S 8 ry e2
    exact h2 _ _ _ _ ⟨d,e,q1,q4,q2,q5,by omega,p.now S (.bl _)⟩
   ·cases hb
theorem o_eq (hK : X.K = T.K) (hu : X.A.units + 64 < cLine) : Op T X (compareOp .Eq) fEq :=
 ⟨_,op_eq.or (yfq hu),zfn (neg:=false) (op_eq.or (yfq hu)) (fun _ _ _ _ q=>.inl q) fun _ _ _ _ q=>.inr (hK ▸ q)⟩
theorem o_ne (hK : X.K = T.K) (hu : X.A.units + 64 < cLine) : Op T X (compareOp .NotEq) fNe :=
 ⟨_,op_ne.or (yfr hu),zfn (neg:=true) (op_ne.or (yfr hu)) (fun _ _ _ _ q=>.inl q) fun _ _ _ _ q=>.inr (hK ▸ q)⟩
theorem o_lt : Op T X (compareOp .Lt) fLt:=by
 refine ⟨_,op_lt.or zgC,fun ι h H x y u w E Q S rx ry p=>?_⟩
 unfold fLt at p
 split at p
 ·rw [yaG rx,yaG ry]
  exact .inl ⟨_,_,rfl,rfl,p.now S (.bl _)⟩
 ·obtain ⟨rfl,_⟩:=ybr rx
  obtain ⟨rfl,_⟩:=ybr ry
  exact .inr ⟨_,_,rfl,rfl,p.now S (.bl _)⟩
 ·exact p.elim
theorem o_le : Op T X (compareOp .LtE) fLe:=by
 refine ⟨_,op_le.or zgP,fun ι h H x y u w E Q S rx ry p=>?_⟩
 unfold fLe at p
 split at p
 ·rw [yaG rx,yaG ry]
  exact .inl ⟨_,_,rfl,rfl,p.now S (.bl _)⟩
 ·obtain ⟨rfl,_⟩:=ybr rx
  obtain ⟨rfl,_⟩:=ybr ry
  exact .inr ⟨_,_,rfl,rfl,p.now S (.bl _)⟩
 ·exact p.elim
theorem o_gt : Op T X (compareOp .Gt) fGt:=by
 refine ⟨_,yhP,fun ι h H x y u w E Q S rx ry p=>?_⟩
 unfold fGt at p
 split at p
 ·rw [yaG rx,yaG ry]
  exact ⟨_,_,rfl,rfl,p.now S (.bl _)⟩
 ·exact p.elim
theorem o_ge : Op T X (compareOp .GtE) fGe:=by
 refine ⟨_,yhQ,fun ι h H x y u w E Q S rx ry p=>?_⟩
 unfold fGe at p
 split at p
 ·rw [yaG rx,yaG ry]
  exact ⟨_,_,rfl,rfl,p.now S (.bl _)⟩
 ·exact p.elim
theorem RV.non_iff {ι : Ix} {H : Hp} {x : AV} {u : V} (r : RV T ι H x u) : decide (x = .non) = decide (u = .non):=by
 exact decide_eq_decide.mpr ⟨fun z=>by subst z; cases r; rfl,fun z=>by subst z; cases r; rfl⟩
theorem yf3 : Op T X (compareOp .Is) fIsN:=by
 refine ⟨_,ygI,fun ι h H x y u w E Q S rx ry p=>?_⟩
 unfold fIsN at p
 split at p
 ·refine ⟨yep ry,?_⟩
  rw [<- rx.non_iff]
  exact p.now S (.bl _)
 ·exact p.elim
theorem ycy {op : CmpOp} {f : F2} (ho : Op T X (compareOp op) f) (ha : PEA T E X a sa) (hb : PEA T E X b sb) (hm : behindInMarks op b = false) : PEA T E X (.Compare a [op] [b] pos) (sOp2 f sa sb):=by
 obtain ⟨r,h1,h2⟩:=ho
 exact ya1 (zir h1 ha hb hm) fun σ H Q q=>two h2 q
theorem yat {op : CmpOp} {f : F2} (ho : Op T X (compareOp op) f) (ha : PEA T E X a sa) (hb : PEA T E X b sb) (hm : behindInMarks op b = false) : PTA T E X (.Compare a [op] [b] pos) (yaq (sOp2 f sa sb)):=by
 obtain ⟨r,h1,h2⟩:=ho
 refine yeQ (zis h1 ha hb hm) fun σ H Q q=>two (E:=E) (Q:=fun x H' => ∃ k,x = V.bl k /\ Q k H') h2 ?_
 obtain ⟨ι,h,en,S,er,q⟩:=q
 refine ⟨ι,h,en,S,er,q.bind fun x h1 ι1 H1 u g1 S1 r1 q1=>?_⟩
 split at q1
 ·rw [ydh r1]
  exact ⟨_,rfl,q1.now S1 rfl⟩
 ·exact q1.elim
theorem yh6 {f f' : F2} {r r' : R2} (hs : OpS T f r) (hs' : OpS T f' r') {σ : St} {H : Hp} {Q : VK} (q : tE T E (yd0 f f' sa sb sc) σ H Q) : yfl r r' (tE T E sa) (tE T E sb) (tE T E sc) σ H Q:=by
 obtain ⟨ι,h,en,S,er,q⟩:=q
 refine ⟨ι,h,en,S,er,q.bind fun x h1 ι1 H1 u g1 S1 r1 q1=>⟨ι1,h1,en,S1,er.mono g1,q1.bind fun y h2 ι2 H2 w g2 S2 r2 q2=>?_⟩⟩
 refine hs ι2 h2 H2 x y u w (E σ) _ S2 (r1.mono g2) r2 (q2.bind fun z h3 ι3 H3 k g3 S3 r3 q3=>?_)
 split at q3
 ·rename_i kk
  rw [ydh r3]
  refine ⟨kk,rfl,?_⟩
  by_cases hkk : kk = true
  ·rw [if_pos hkk] at q3 ⊢
   refine ⟨ι3,h3,en,S3,er.mono (g1.trans (g2.trans g3)),q3.bind fun v h4 ι4 H4 j g4 S4 r4 q4=>?_⟩
   exact hs' ι4 h4 H4 y v w j _ Q S4 (r2.mono (g3.trans g4)) r4 q4
  ·rw [if_neg hkk] at q3 ⊢
   exact q3.now S3 (.bl _)
 ·exact q3.elim
theorem zdg {op op' : CmpOp} {f f' : F2} (ho : Op T X (compareOp op) f) (ho' : Op T X (compareOp op') f') (ha : PEA T E X a sa) (hb : PEA T E X b sb) (hc : PEA T E X c sc) (hm : lastMarks [op,op'] [b,c] = false:=by with_unfolding_all rfl) :
  PEA T E X (.Compare a [op,op'] [b,c] pos) (yd0 f f' sa sb sc):=by
 obtain ⟨r,h1,h2⟩:=ho
 obtain ⟨r',h1',h2'⟩:=ho'
 exact ya1 (zhm h1 h1' ha hb hc hm) fun σ H Q q=>yh6 h2 h2' q
theorem yg6 {ι : Ix} {h : AH} {H : Hp} {v : AV} {u : V} {k : Bool} (S : Sim T ι h H) (r : RV T ι H v u) (e : truA v h = some k) : TruV T.K u H k:=by
 unfold truA at e
 cases r with
 | non=>cases e; rfl
 | bl b=>cases e; rfl
 | int b=>cases e; rfl
 | str n o=>cases e; exact ⟨n,rfl⟩
 | tup n q r=>cases e; exact .inr (.inl ⟨_,.of q,by cases r<;>rfl⟩)
 | fl n q r=>cases e; exact .inl ⟨_,.inl q,by cases r<;>rfl⟩
 | kfl q r=>cases e; exact .inl ⟨_,.inr q,by cases r<;>rfl⟩
 | @ref n a q =>
  dsimp only at e
  split at e
  ·rename_i xs hk
   cases e
   obtain ⟨u,e1,us,rfl,r⟩:=S.obj n _ a hk q
   exact .inl ⟨us,.inl (.inl e1),by cases r<;>rfl⟩
  ·rename_i xs hk
   cases e
   obtain ⟨u,e1,us,rfl,r⟩:=S.obj n _ a hk q
   exact .inr (.inr ⟨us,e1,by cases r<;>rfl⟩)
  ·cases e
 | exc _ _ _=>cases e
theorem zau (hK : X.K = T.K) (ha : PEA T E X a sa) (he : ∀ whole,isTrue a X.env whole = (do let v <- whole; standAt a.pos; holding [v] (truthy v)):=by intro _; rfl) : PTA T E X a (ybW sa) :=
 yeQ (zhn ha he) fun σ H Q ⟨ι,h,en,S,er,q⟩=>⟨ι,h,en,S,er,q.bind fun x h1 ι1 H1 u g1 S1 r1 q1=>by
  split at q1
  ·rename_i b hb
   exact ⟨b,hK ▸ yg6 S1 r1 hb,q1.now S1 rfl⟩
  ·exact q1.elim⟩
variable {ca cb : SB} {rest : List Expr}
theorem yc3 (ha : PTA T E X a ca) : PTA T E X (.UnaryOp .Not a pos) (sNot ca) :=
 yeQ (ygs ha) fun σ H Q ⟨ι,h,en,S,er,q⟩=>⟨ι,h,en,S,er,q.bind fun x h1 ι1 H1 u g1 S1 r1 q1=>by subst r1; exact q1.now S1 rfl⟩
theorem rt_w (h : PWA T E X a ca) : PTA T E X a ca:=PW.pt h
theorem zck (ha : PTA T E X a ca) : PWA T E X (.BoolOp .And [a] pos) ca:=zik ha
theorem yeU (ha : PTA T E X a ca) : PWA T E X (.BoolOp .Or [a] pos) ca:=ygq ha
theorem yer (ha : PTA T E X a ca) (hb : PWA T E X (.BoolOp .And (b :: rest) pos) cb) : PWA T E X (.BoolOp .And (a :: b :: rest) pos) (sAnd ca cb) :=
 yft (ygr ha hb) fun σ H Q ⟨ι,h,en,S,er,q⟩=>⟨ι,h,en,S,er,q.bind fun x h1 ι1 H1 u g1 S1 r1 q1=>by
  subst r1
  by_cases hx : x = true
  ·rw [if_pos hx] at q1 ⊢
   exact ⟨ι1,h1,en,S1,er.mono g1,q1⟩
  ·rw [if_neg hx] at q1 ⊢
   exact q1.now S1 rfl⟩
theorem yfc (ha : PTA T E X a ca) (hb : PWA T E X (.BoolOp .Or (b :: rest) pos) cb) : PWA T E X (.BoolOp .Or (a :: b :: rest) pos) (sOr ca cb) :=
 yft (yhF ha hb) fun σ H Q ⟨ι,h,en,S,er,q⟩=>⟨ι,h,en,S,er,q.bind fun x h1 ι1 H1 u g1 S1 r1 q1=>by
  subst r1
  by_cases hx : x = true
  ·rw [if_pos hx] at q1 ⊢
   exact q1.now S1 rfl
  ·rw [if_neg hx] at q1 ⊢
   exact ⟨ι1,h1,en,S1,er.mono g1,q1⟩⟩
theorem ydz {op} (h : PEA T E X a sa) : PEA T E X (.BoolOp op [a] pos) sa:=ygt h
theorem ydj (ha : PEA T E X a sa) (hb : PEA T E X (.BoolOp .And (b :: rest) pos) sb) : PEA T E X (.BoolOp .And (a :: b :: rest) pos) (ycW sa sb) :=
 ya1 (ygu ha hb) fun σ H Q ⟨ι,h,en,S,er,q⟩=>⟨ι,h,en,S,er,q.bind fun x h1 ι1 H1 u g1 S1 r1 q1=>by
  split at q1
  ·rename_i kk
   rw [ydh r1]
   refine ⟨kk,rfl,?_⟩
   by_cases hkk : kk = true
   ·rw [if_pos hkk] at q1 ⊢
    exact ⟨ι1,h1,en,S1,er.mono g1,q1⟩
   ·rw [if_neg hkk] at q1 ⊢
    exact q1.now S1 (.bl _)
  ·exact q1.elim⟩
theorem r_or (ha : PEA T E X a sa) (hb : PEA T E X (.BoolOp .Or (b :: rest) pos) sb) : PEA T E X (.BoolOp .Or (a :: b :: rest) pos) (sOrV sa sb) :=
 ya1 (yhI ha hb) fun σ H Q ⟨ι,h,en,S,er,q⟩=>⟨ι,h,en,S,er,q.bind fun x h1 ι1 H1 u g1 S1 r1 q1=>by
  split at q1
  ·rename_i kk
   rw [ydh r1]
   refine ⟨kk,rfl,?_⟩
   by_cases hkk : kk = true
   ·rw [if_pos hkk] at q1 ⊢
    exact q1.now S1 (.bl _)
   ·rw [if_neg hkk] at q1 ⊢
    exact ⟨ι1,h1,en,S1,er.mono g1,q1⟩
  ·exact q1.elim⟩
theorem yh7 (ha : PEA T E X a sa) : PEA T E X (.UnaryOp .Not a pos) (yf2 sa) :=
 ya1 (ygv ha) fun σ H Q ⟨ι,h,en,S,er,q⟩=>⟨ι,h,en,S,er,q.bind fun x h1 ι1 H1 u g1 S1 r1 q1=>by
  split at q1
  ·rw [ydh r1]
   exact ⟨_,rfl,q1.now S1 (.bl _)⟩
  ·exact q1.elim⟩
theorem yf4 {d : Expr} (hc : PTA T E X d ca) (ha : PEA T E X a sa) (hb : PEA T E X b sb) : PEA T E X (.IfExp d a b pos) (sIfE ca sa sb) :=
 ya1 (zhh hc ha hb) fun σ H Q ⟨ι,h,en,S,er,q⟩=>⟨ι,h,en,S,er,q.bind fun x h1 ι1 H1 u g1 S1 r1 q1=>by
  subst r1
  by_cases hx : x = true
  ·rw [if_pos hx] at q1 ⊢
   exact ⟨ι1,h1,en,S1,er.mono g1,q1⟩
  ·rw [if_neg hx] at q1 ⊢
   exact ⟨ι1,h1,en,S1,er.mono g1,q1⟩⟩
variable {es : List Expr} {as : SL}
theorem yac : PAA T E X [] sNil:=yfu yeP fun σ H Q ⟨ι,h,en,S,er,q⟩=>q.now S .nil
theorem zaa (ha : PEA T E X a sa) (hr : PAA T E X es as) (hs : starEach (a :: es) X.env = (false,eval a X.env) :: starEach es X.env:=by rfl) : PAA T E X (a :: es) (yaa sa as) :=
 yfu (zbz ha hr hs) fun σ H Q ⟨ι,h,en,S,er,q⟩=>⟨ι,h,en,S,er,q.bind fun x h1 ι1 H1 u g1 S1 r1 q1=>⟨ι1,h1,en,S1,er.mono g1,q1.bind fun xs h2 ι2 H2 us g2 S2 r2 q2=>q2.now S2 (.cons (r1.mono g2) r2)⟩⟩
theorem ybj {k} (h : PAA T E X es as) : PEA T E X (.Tuple es k pos) (sTup as) :=
 ya1 (ygM h) fun σ H Q ⟨ι,h,en,S,er,q⟩=>⟨ι,h,en,S,er,q.bind fun xs h1 ι1 H1 us g1 S1 r1 q1=>by
  split at q1
  ·rename_i hl
   exact ⟨by rw [<- r1.length]; exact Nat.le_trans hl (by decide),fun p n=>zdf S1 r1 n q1⟩
  ·exact q1.elim⟩
theorem ybs (h : PAA T E X es as) : PEA T E X (.List es pos) (sLst as) :=
 ya1 (yfm h) fun σ H Q ⟨ι,h,en,S,er,q⟩=>⟨ι,h,en,S,er,q.bind fun xs h1 ι1 H1 us g1 S1 r1 q1=>by
  split at q1
  ·rename_i hl
   exact ⟨by rw [<- r1.length]; exact Nat.le_trans hl (by decide),fun p n=>yeq S1 r1 n q1⟩
  ·exact q1.elim⟩
theorem yca (h : PAA T E X es as) : PEA T E X (.List es pos) (yco as) :=
 ya1 (yfm h) fun σ H Q ⟨ι,h,en,S,er,q⟩=>⟨ι,h,en,S,er,q.bind fun xs h1 ι1 H1 us g1 S1 r1 q1=>by
  split at q1
  ·rename_i hl
   exact ⟨by rw [<- r1.length]; exact Nat.le_trans hl (by decide),fun p n=>ziN S1 r1 n q1⟩
  ·exact q1.elim⟩
theorem ziQ : PEA T E X (.Dict [] [] pos) (yf1 true) :=
 ya1 zhv fun σ H Q ⟨ι,h,en,S,er,q⟩ p n=>q _ _ _ (S.growAdd n) (S.add n ⟨[],rfl,.nil⟩) (.ref S.addAt)
end
end Sm
namespace Sm
open PySem L2
section
variable {T : Tb} {E : St -> XK} {X : Cx} {pos : Pos} {a b : Expr} {sa sb : SE} {ca : SB} {st : Stmt} {sts ss1 ss2 : List Stmt} {s1 s2 : SS}
theorem yaw : PSsA T E X [] yaz:=zfl zil fun D σ H ⟨ι,h,en,S,er,q⟩=>q ι H σ S.refl S er
theorem zab (h1 : PSA T E X st s1) (h2 : PSsA T E X sts s2) : PSsA T E X (st :: sts) (sSeq s1 s2) :=
 zfl (zhi h1 h2) fun D σ H ⟨ι,h,en,S,er,q⟩=>by
  refine ⟨ι,h,en,S,er,?_⟩
  unfold sSeq at q
  cases e : s1 en h with
  | nx e1 h1 =>
   rw [e] at q
   exact fun ι' H' σ' g S' er' => ⟨ι',h1,e1,S',er',q.shift g⟩
  | rt v h1=>rw [e] at q; exact q
  | bk e1 h1=>rw [e] at q; exact q
  | ct e1 h1=>rw [e] at q; exact q
  | ex c e1 h1=>rw [e] at q; exact q
  | bad=>rw [e] at q; exact q
theorem yad (h1 : PSA T E X st s1) : PSsA T E X [st] s1:=zim h1
theorem ziR : PSA T E X (.Break pos) yfw:=ybZ zhj fun D σ H ⟨ι,h,en,S,er,q⟩=>q ι H σ S.refl S er
theorem yaI (ha : PEA T E X a sa) (hs : swapsWith a none pos.line X.env = pure false:=by rfl) : PSA T E X (.Expr a pos) (yaT sa) :=
 ybZ (zin ha hs) fun D σ H ⟨ι,h,en,S,er,q⟩=>⟨ι,h,en,S,er,q.go er fun v h1 ι1 H1 u g1 S1 r1 q1=>q1 ι1 H1 σ S1.refl S1 (er.mono g1)⟩
theorem yak (ha : PEA T E X a sa) : PSA T E X (.Return (some a) pos) (sRet sa) :=
 ybZ (ygx ha) fun D σ H ⟨ι,h,en,S,er,q⟩=>⟨ι,h,en,S,er,q.go er fun v h1 ι1 H1 u g1 S1 r1 q1=>q1 ι1 H1 u S1.refl S1 r1⟩
theorem r_if (hc : PTA T E X a ca) (h1 : PSsA T E X ss1 s1) (h2 : PSsA T E X ss2 s2) : PSA T E X (.If a ss1 ss2 pos) (sIf ca s1 s2) :=
 ybZ (yhL hc h1 h2) fun D σ H ⟨ι,h,en,S,er,q⟩=>⟨ι,h,en,S,er,q.go er fun x h1 ι1 H1 u g1 S1 r1 q1=>by
  subst r1
  by_cases hx : x = true
  ·rw [if_pos hx] at q1 ⊢
   exact ⟨ι1,h1,en,S1,er.mono g1,q1⟩
  ·rw [if_neg hx] at q1 ⊢
   exact ⟨ι1,h1,en,S1,er.mono g1,q1⟩⟩
theorem yfx {σ : St} {H : Hp} {D : Ends} {i : Nat} (q : tS T E (sSet i sa) D σ H) : tAsg (tE T E sa) (yeE i) D σ H:=by
 obtain ⟨ι,h,en,S,er,q⟩:=q
 exact ⟨ι,h,en,S,er,q.go er fun v h1 ι1 H1 u g1 S1 r1 q1=>q1 ι1 H1 _ S1.refl S1 ((er.mono g1).set r1 i)⟩
theorem yap {i : Nat} {x : Str} {p' : Pos} (hN : X.N.Nodup) (ha : PEA T E X a sa) (hi : X.N[i]? = some x:=by rfl) (hx : Loc X.env.scope x:=by first | exact Or.inl rfl | exact Or.inr rfl) (hs : swapsWith a (some (.Name x p')) pos.line X.env = pure false:=by rfl)
  (hf : X.fn x = true \/ X.env.scope.names.lookup x = some .local:=by first | exact .inl rfl | exact .inr rfl | assumption) : PSA T E X (.Assign [.Name x p'] a pos) (sSet i sa) :=
 ybZ (ygA hN hi hx ha hs hf) fun D σ H q=>yfx q
theorem zbb (n : Nat) (hc : PTA T EN X.nox a ca) (hb : PSsA T EN X.nox sts s1) : PSA T E X (.While a sts [] pos) (yar ca s1 n) :=
 ybZ (yfv (zhk PassesOwn.never hc hb)) fun D σ H ⟨ι,h,en,S,er,q⟩=>by
  refine ⟨fun m σ H=>∃ ι h en,Sim T ι h H /\ ER T ι H en σ /\ PostS T ι H E (yar ca s1 m en h) D,⟨n,ι,h,en,S,er,q⟩,?_⟩
  rintro m σ H ⟨ι,h,en,S,er,q⟩
  cases m with
  | zero=>exact (show False from q).elim
  | succ m =>
   unfold yar at q
   refine ⟨ι,h,en,S,er,?_⟩
   cases e : ca en h with
   | bad=>rw [e] at q; exact q
   | ex c h1=>rw [e] at q; exact (show False from q).elim
   | ok x h1 =>
    rw [e] at q
    intro ι1 H1 u g1 S1 r1
    subst r1
    have q1:=PostS.shift q g1
    cases x with
    | true =>
     rw [if_pos rfl]
     refine ⟨fun σ H=>∃ ι h en,Sim T ι h H /\ ER T ι H en σ /\ PostS T ι H E (yar ca s1 m en h) D,fun σ' H' w=>⟨m,Nat.lt_succ_self m,w⟩,ι1,h1,en,S1,er.mono g1,?_⟩
     dsimp only at q1
     cases e2 : s1 en h1 with
     | nx e3 h3=>rw [e2] at q1; exact fun ι2 H2 σ2 g2 S2 er2=>⟨ι2,h3,e3,S2,er2,q1.shift g2⟩
     | ct e3 h3=>rw [e2] at q1; exact fun ι2 H2 σ2 g2 S2 er2=>⟨ι2,h3,e3,S2,er2,q1.shift g2⟩
     | bk e3 h3=>rw [e2] at q1; exact q1
     | rt v h3=>rw [e2] at q1; exact q1
     | ex c e3 h3=>rw [e2] at q1; exact (show False from q1).elim
     | bad=>rw [e2] at q1; exact q1
    | false =>
     rw [if_neg Bool.false_ne_true]
     exact q1 ι1 H1 σ S1.refl S1 (er.mono g1)
def PGA (T : Tb) (X : Cx) (tg : Expr) (t : Tg) : Prop:=∃ g,PG X tg g /\ ∀ {ι : Ix} {h : AH} {H : Hp} {en e : En} {σ : St} {v : AV} {u : V} {Q : St -> Hp -> Prop},Sim T ι h H -> ER T ι H en σ -> RV T ι H v u -> setT t v en = some e ->
 (∀ σ',ER T ι H e σ' -> Q σ' H) -> g u σ H Q
theorem zaG {i : Nat} {x : Str} (hN : X.N.Nodup) (hi : X.N[i]? = some x:=by rfl) (hx : Loc X.env.scope x:=by first | exact Or.inl rfl | exact Or.inr rfl) (hf : X.fn x = true \/ X.env.scope.names.lookup x = some .local:=by first | exact .inl rfl | exact .inr rfl | assumption) :
  PGA T X (.Name x pos) (.nm i):=⟨_,zio hN hi hx hf,fun S er r e k=>by cases e; exact k _ (er.set r i)⟩
structure ItR (T : Tb) (J : It) (ι : Ix) (H : Hp) (xs : List AV) (w : Option Nat) : Prop where
 go : ∀ (i : Nat) (ι' : Ix) (h' : AH) (H' : Hp) (x : AV),Ext ι H ι' H' -> Sim T ι' h' H' -> ybX w xs h' = true -> xs[i]? = some x -> J.go i H' /\ ∀ u H2,J.yld i H' u H2 -> Grow ι' H' ι' H2 /\ Sim T ι' h' H2 /\ RV T ι' H2 x u
 stop : ∀ (i : Nat) (ι' : Ix) (h' : AH) (H' : Hp),Ext ι H ι' H' -> Sim T ι' h' H' -> ybX w xs h' = true -> xs.length <= i -> J.stop i H'
def tI (T : Tb) (it : SI) : TI:=fun σ H R=>∃ ι h en,Sim T ι h H /\ ER T ι H en σ /\ match it en h with
 | .ok (xs,w) h' => ∀ ι' H' J,Grow ι H ι' H' -> Sim T ι' h' H' -> ItR T J ι' H' xs w -> R J H'
 | _=>False
abbrev PIA (T : Tb) (X : Cx) (tg iter : Expr) (it : SI) : Prop:=PI X tg iter (tI T it)
theorem yeV {X : Cx} {tg iter : Expr} {t t' : TI} (h : PI X tg iter t) (k : ∀ σ H R,t' σ H R -> t σ H R) : PI X tg iter t' := fun pins s σ H R I q=>h pins s σ H R I (k σ H R q)
theorem PI.or {X : Cx} {tg iter : Expr} {t t' : TI} (h : PI X tg iter t) (h' : PI X tg iter t') : PI X tg iter (fun σ H R=>t σ H R \/ t' σ H R):=fun pins s σ H R I q=>q.elim (h pins s σ H R I) (h' pins s σ H R I)
theorem yfy {ι : Ix} {H : Hp} {a : Addr} {us : List V} {xs : List AV} {K : PySem.W.Frag} (keep : ∀ (ι' : Ix) (H' : Hp),Ext ι H ι' H' -> SqL K H' a us) (r : RVs T ι H xs us) : ItR T (Itl K a) ι H xs none:=by
 constructor
 ·intro i ι' h' H' x g S _ e
  obtain ⟨u,e1,r1⟩:=(r.ext g).get e
  refine ⟨⟨us,u,keep ι' H' g,e1⟩,?_⟩
  rintro u2 H2 ⟨rfl,y⟩
  have z:=y us (keep ι' _ g)
  rw [e1] at z; cases z
  exact ⟨S.refl,S,r1⟩
 ·intro i ι' h' H' g S _ hl
  exact ⟨us,keep ι' H' g,by rw [<- r.length]; exact hl⟩
theorem yg7 {ι : Ix} {H : Hp} {a : Addr} {us : List V} {xs : List AV} {K : PySem.W.Frag} (keep : ∀ (ι' : Ix) (H' : Hp),Ext ι H ι' H' -> SqT K H' a us) (r : RVs T ι H xs us) : ItR T (Itt K a) ι H xs none:=by
 constructor
 ·intro i ι' h' H' x g S _ e
  obtain ⟨u,e1,r1⟩:=(r.ext g).get e
  refine ⟨⟨us,u,keep ι' H' g,e1⟩,?_⟩
  rintro u2 H2 ⟨rfl,y⟩
  have z:=y us (keep ι' _ g)
  rw [e1] at z; cases z
  exact ⟨S.refl,S,r1⟩
 ·intro i ι' h' H' g S _ hl
  exact ⟨us,keep ι' H' g,by rw [<- r.length]; exact hl⟩
theorem ziS {ι : Ix} {H : Hp} {a : Addr} {n : Nat} {xs : List AV} {K : PySem.W.Frag} (e : ι.refs[n]? = some a) : ItR T (Itl K a) ι H xs (some n):=by
 have at_ : ∀ {ι' : Ix} {h' : AH} {H' : Hp},Ext ι H ι' H' -> Sim T ι' h' H' -> ybX (some n) xs h' = true -> ∃ us,H' a = some (.lst us) /\ RVs T ι' H' xs us:=fun {ι' h' H'} g S l=>by
  unfold ybX at l
  dsimp only at l
  split at l
  ·rename_i ys hy
   have z:=of_decide_eq_true l
   subst z
   obtain ⟨u,e1,us,rfl,r⟩:=S.obj n _ a hy (g.at_ e)
   exact ⟨us,e1,r⟩
  ·cases l
 constructor
 ·intro i ι' h' H' x g S l e
  obtain ⟨us,e0,r⟩:=at_ g S l
  obtain ⟨u,e1,r1⟩:=r.get e
  refine ⟨⟨us,u,.of e0,e1⟩,?_⟩
  rintro u2 H2 ⟨rfl,y⟩
  have z:=y us (.of e0)
  rw [e1] at z; cases z
  exact ⟨S.refl,S,r1⟩
 ·intro i ι' h' H' g S l hl
  obtain ⟨us,e0,r⟩:=at_ g S l
  exact ⟨us,.of e0,by rw [<- r.length]; exact hl⟩
theorem ziT {ι : Ix} {H : Hp} {x : Str} (o : x.cps.all (· < 0x110000) = true) : ItR T (Its x) ι H (x.cps.toList.map fun c=>.str ⟨#[c]⟩) none:=by
 constructor
 ·intro i ι' h' H' y g S _ e
  rw [List.getElem?_map] at e
  obtain ⟨c,e1,rfl⟩:=Option.map_eq_some_iff.mp e
  have hi : i < x.cps.size:=by
   have:=(List.getElem?_eq_some_iff.mp e1).1
   simpa using this
  refine ⟨hi,?_⟩
  rintro u H2 ⟨rfl,c',e2,rfl⟩
  have z : x.cps[i]? = some c:=by simpa using e1
  rw [e2] at z; cases z
  refine ⟨S.refl,S,.str (show 1 <= sizeLine by decide) ?_⟩
  have m:=Array.mem_of_getElem? e2
  have:=Array.all_eq_true_iff_forall_mem.mp o _ m
  simpa using this
 ·intro i ι' h' H' g S _ hl
  show x.cps.size <= i
  simpa using hl
theorem zgl (n : Nat) : ∀ (lo : Int) (i : Nat),(ybk lo n)[i]? = if i < n then some (.int (lo + i)) else none:=by
 induction n with
 | zero=>intro lo i; simp [ybk]
 | succ n ih =>
  intro lo i
  cases i with
  | zero=>simp [ybk]
  | succ i =>
   show (ybk (lo + 1) n)[i]? = _
   rw [ih]
   by_cases h : i < n
   ·rw [if_pos h,if_pos (by omega)]
    congr 2
    show lo + 1 + (i : Int) = lo + ((i + 1 : Nat) : Int)
    omega
   ·rw [if_neg h,if_neg (by omega)]
theorem zd7 (n : Nat) : ∀ lo : Int,(ybk lo n).length = n:=by
 induction n with
 | zero=>intro lo; rfl
 | succ n ih=>intro lo; show (ybk (lo + 1) n).length + 1 = n + 1; rw [ih]
theorem zgY {ι : Ix} {H : Hp} {lo : Int} {n : Nat} : ItR T (Itr lo n) ι H (ybk lo n) none:=by
 constructor
 ·intro i ι' h' H' y g S _ e
  rw [zgl] at e
  split at e
  ·rename_i hi
   cases e
   refine ⟨hi,?_⟩
   rintro u H2 ⟨rfl,rfl⟩
   exact ⟨S.refl,S,.int _⟩
  ·cases e
 ·intro i ι' h' H' g S _ hl
  rw [zd7] at hl
  exact hl
theorem yh8 {ι : Ix} {H : Hp} {a : Addr} {us : List V} (n : a ∉ ι.all) (h : Rd H a (.lst us)) : ∀ (ι' : Ix) (H' : Hp),Ext ι H ι' H' -> SqL T.K H' a us:=fun _ _ g=>.inl (zfk g n h)
theorem yh9 {ι : Ix} {H : Hp} {a : Addr} {us : List V} (n : a ∉ ι.all) (h : H a = some (.tup us)) : ∀ (ι' : Ix) (H' : Hp),Ext ι H ι' H' -> SqT T.K H' a us:=fun _ _ g=>.of (g.keep _ _ n h)
theorem yfz {K K' : PySem.W.Frag} {H : Hp} {a : Addr} {us : List V} (e : K = K') (h : SqL K' H a us) : SqL K H a us:=e ▸ h
theorem yf5 {σ : St} {H : Hp} {R : It -> Hp -> Prop} {ι : Ix} {h h1 : AH} {en : En} {v : AV} {xs : List AV} {w : Option Nat} (hK : X.K = T.K) (S : Sim T ι h H) (er : ER T ι H en σ) (e : sa en h = .ok v h1) (hv : (v = .fl xs /\ w = none) \/ ∃ n,v = .ref n /\ h1[n]? = some (.lst xs) /\ w = some n)
  (q : ∀ ι' H' J,Grow ι H ι' H' -> Sim T ι' h1 H' -> ItR T J ι' H' xs w -> R J H') : yfY X.K (tE T E sa) σ H R:=by
 refine ⟨ι,h,en,S,er,?_⟩
 rw [e]
 intro ι1 H1 u g1 S1 r1
 rcases hv with ⟨rfl,rfl⟩ | ⟨n,rfl,hn,rfl⟩
 ·cases r1 with
  | fl n hr rs=>exact ⟨_,rfl,⟨_,yfz hK (.inl hr)⟩,q ι1 H1 _ g1 S1 (hK ▸ yfy (yh8 n hr) rs)⟩
  | kfl hr rs=>exact ⟨_,rfl,⟨_,yfz hK (.inr hr)⟩,q ι1 H1 _ g1 S1 (hK ▸ yfy (fun _ _ _=>.inr hr) rs)⟩
 ·cases r1 with
  | ref hr =>
   obtain ⟨u,e1,us,rfl,rs⟩:=S1.obj n _ _ hn hr
   exact ⟨_,rfl,⟨_,.of e1⟩,q ι1 H1 _ g1 S1 (ziS hr)⟩
theorem yia {σ : St} {H : Hp} {R : It -> Hp -> Prop} {ι : Ix} {h h1 : AH} {en : En} {xs : List AV} (hK : X.K = T.K) (S : Sim T ι h H) (er : ER T ι H en σ) (e : sa en h = .ok (.tup xs) h1)
  (q : ∀ ι' H' J,Grow ι H ι' H' -> Sim T ι' h1 H' -> ItR T J ι' H' xs none -> R J H') : iTup X.K (tE T E sa) σ H R:=by
 refine ⟨ι,h,en,S,er,?_⟩
 rw [e]
 intro ι1 H1 u g1 S1 r1
 cases r1 with
 | tup n hr rs=>exact ⟨_,rfl,⟨_,.of hr⟩,q ι1 H1 _ g1 S1 (hK ▸ yg7 (yh9 n hr) rs)⟩
theorem yc4 {y : Str} {py : Pos} (hK : X.K = T.K) (ha : PEA T E X a sa) : PIA T X (.Name y py) a (iVal sa) :=
 yeV (PI.or (ziq ha) (PI.or (ygC ha) (ygV ha))) fun σ H R ⟨ι,h,en,S,er,q⟩=>by
  unfold iVal at q
  cases e : sa en h with
  | bad=>rw [e] at q; exact q.elim
  | ex c h1=>rw [e] at q; exact q.elim
  | ok v h1 =>
   rw [e] at q
   cases v with
   | fl xs=>exact .inl (yf5 hK S er e (.inl ⟨rfl,rfl⟩) q)
   | tup xs=>exact .inr (.inl (yia hK S er e q))
   | str z =>
    refine .inr (.inr ⟨ι,h,en,S,er,?_⟩)
    rw [e]
    intro ι1 H1 u g1 S1 r1
    obtain ⟨rfl,_,o⟩:=ybr r1
    exact ⟨_,rfl,q ι1 H1 _ g1 S1 (ziT o)⟩
   | ref n =>
    dsimp only [Out.bind] at q
    cases e2 : h1[n]? with
    | none=>rw [e2] at q; exact q.elim
    | some o =>
     rw [e2] at q
     cases o with
     | lst xs=>exact .inl (yf5 hK S er e (.inr ⟨n,rfl,e2,rfl⟩) q)
     | _=>exact q.elim
   | _=>exact q.elim
theorem zbo {tg : Expr} {p : Pos} (hg : Gl X "range") (hm : X.mg "range" = none) (ha : PEA T E X a sa) (hs : starEach [a] X.env = [(false,eval a X.env)]:=by rfl) : PIA T X tg (.Call (.Name "range" p) [a] [] pos) (ycg sa) :=
 yeV (zgA hg hm (zaa ha yac hs) hs) fun σ H R ⟨ι,h,en,S,er,q⟩=>by
  unfold ycg at q
  refine ⟨ι,h,en,S,er,?_⟩
  unfold yaa
  cases e : sa en h with
  | bad=>rw [e] at q; exact q
  | ex c h1=>rw [e] at q; exact q.elim
  | ok v h1 =>
   rw [e] at q
   intro ι1 H1 u g1 S1 r1
   dsimp only [Out.bind] at q
   cases v with
   | int j =>
    dsimp only at q
    split at q
    ·rename_i hx
     split at hx
     ·rename_i hb
      cases hx
      cases r1 with
      | cons r r' =>
       cases r'
       rw [yaG r]
       exact ⟨j,rfl,by omega,by omega,q ι1 H1 _ g1 S1 zgY⟩
     ·cases hx
    ·exact q.elim
   | _=>exact q.elim
theorem zdO {α : Type} {xs : List α} {i : Nat} (h : i < xs.length) : xs.drop i = xs[i] :: xs.drop (i + 1):=by simp
theorem ycz {tg iter : Expr} {it : SI} {t : Tg} (hc : X.calm = true) (hi : PIA T X.nox tg iter it) (hg : PGA T X.nox tg t) (hb : PSsA T EN X.nox sts s1) (hs : ∀ x,foldedSetIterable iter X.nox.env x = pure x:=by intro _; rfl) :
  PSA T E X (.For tg iter sts [] pos) (sFor it t s1):=by
 obtain ⟨g,hg1,hg2⟩:=hg
 refine ybZ (yfv (ygD PassesOwn.never hc hi hg1 hb hs)) fun D σ H ⟨ι,h,en,S,er,q⟩=>⟨ι,h,en,S,er,?_⟩
 unfold sFor at q
 cases e : it en h with
 | bad=>rw [e] at q; exact q
 | ex c h1=>rw [e] at q; exact q
 | ok p h1 =>
  obtain ⟨xs,w⟩:=p
  rw [e] at q
  intro ι1 H1 J g1 S1 IR
  refine ⟨fun i m σ H=>m = xs.length - i /\ i <= xs.length /\ ∃ ι' h' en',Grow ι1 H1 ι' H /\ Sim T ι' h' H /\ ER T ι' H en' σ /\ PostS T ι' H E (ya3 w xs t s1 (xs.drop i) en' h') D,
   ⟨xs.length,by simp,Nat.zero_le _,ι1,h1,en,S1.refl,S1,er.mono g1,PostS.shift q g1⟩,?_⟩
  rintro i m σ H ⟨rfl,hi,ι',h',en',g',S',er',q'⟩
  by_cases hl : i < xs.length
  ·rw [zdO hl] at q'
   unfold ya3 at q'
   split at q'
   ·rename_i hlive
    obtain ⟨go,yld⟩:=IR.go i ι' h' H xs[i] g'.ext S' hlive (by simp [hl])
    refine .inr ⟨go,fun σ H=>∃ ι' h' en',Grow ι1 H1 ι' H /\ Sim T ι' h' H /\ ER T ι' H en' σ /\ PostS T ι' H E (ya3 w xs t s1 (xs.drop (i + 1)) en' h') D,
     fun σ' H' w' => ⟨xs.length - (i + 1),by omega,rfl,hl,w'⟩,fun x H' y=>?_⟩
    obtain ⟨g2,S2,r2⟩:=yld x H' y
    split at q'
    ·rename_i e1 he1
     refine hg2 S2 (er'.mono g2) r2 he1 fun σ' er2=>⟨ι',h',e1,S2,er2,?_⟩
     have q2:=PostS.shift q' g2
     cases e2 : s1 e1 h' with
     | nx e3 h3=>rw [e2] at q2; exact fun ι3 H3 σ3 g3 S3 er3=>⟨ι3,h3,e3,g'.trans (g2.trans g3),S3,er3,q2.shift g3⟩
     | ct e3 h3=>rw [e2] at q2; exact fun ι3 H3 σ3 g3 S3 er3=>⟨ι3,h3,e3,g'.trans (g2.trans g3),S3,er3,q2.shift g3⟩
     | bk e3 h3=>rw [e2] at q2; exact q2
     | rt v h3=>rw [e2] at q2; exact q2
     | ex c e3 h3=>rw [e2] at q2; exact (show False from q2).elim
     | bad=>rw [e2] at q2; exact q2
    ·exact (show False from q').elim
   ·exact (show False from q').elim
  ·have ei : i = xs.length:=by omega
   subst ei
   rw [List.drop_length] at q'
   unfold ya3 at q'
   split at q'
   ·rename_i hlive
    exact .inl ⟨IR.stop _ ι' h' H g'.ext S' hlive (Nat.le_refl _),q' ι' H σ S'.refl S' er'⟩
   ·exact (show False from q').elim
theorem ER.comp {ι : Ix} {H : Hp} {en : En} {σ : St} {x : AV} {u : V} {jf : List (Nat × Str)} (er : ER T ι H en σ) (r : RV T ι H x u) : ER T ι H (some x :: (jf.map (·.1)).map fun j=>(en[j]?).join) (ybB (some u) jf σ):=by
 refine ⟨by simp [ybB],fun i v e=>?_⟩
 cases i with
 | zero=>simp at e; subst e; exact ⟨u,rfl,r⟩
 | succ i =>
  simp only [List.getElem?_cons_succ,List.getElem?_map] at e
  unfold ybB
  simp only [List.getElem?_cons_succ,List.getElem?_map]
  cases e1 : jf[i]? with
  | none=>rw [e1] at e; cases e
  | some j =>
   rw [e1] at e
   simp only [Option.map_some,Option.some.injEq] at e
   have e2 : en[j.1]? = some (some v):=by
    cases e3 : en[j.1]? with
    | none=>rw [e3] at e; cases e
    | some o=>rw [e3] at e; exact congrArg some e
   obtain ⟨u',e4,r'⟩:=er.2 j.1 v e2
   exact ⟨u',by simp [e4],r'⟩
theorem ziU {jf : List (Nat × Str)} {it : SI} {cc : SB} {ce : SE} {σ : St} {H : Hp} {Q : VK} {ι : Ix} {h : AH} {en : En} (S : Sim T ι h H) (er : ER T ι H en σ)
  (q : match it en h with | .ok (xs,w) h1=>(match ybc (jf.map (·.1)) en w xs cc ce xs [] h1 with | .ok ys h2=>∀ ι' H' D vs,Grow ι H ι' H' -> Sim T (ι'.hide D) h2 H' -> RVs T (ι'.hide D) H' ys vs -> H' D = some (.lst vs) -> D ∉ ι'.all -> (∀ n,ι'.refs = ι.refs++n -> ∀ a ∈ n++[D],H a = none) -> Q (.ref D) H' | _=>False) | _=>False) :
  yel jf (tI T it) (tT T EN cc) (tE T EN ce) σ H Q:=by
 refine ⟨ι,h,en,S,er,?_⟩
 cases e : it en h with
 | bad=>rw [e] at q; exact q
 | ex c h1=>rw [e] at q; exact q
 | ok p h1 =>
  obtain ⟨xs,w⟩:=p
  rw [e] at q
  dsimp only at q
  intro ι1 H1 J g1 S1 IR D hD
  refine ⟨fun i m ys H2=>m = xs.length - i /\ i <= xs.length /\ H2 D = some (.lst ys) /\ ∃ ι' h' vs,Grow ι1 H1 ι' H2 /\ Ext ι1 H1 (ι'.hide D) H2 /\ Sim T (ι'.hide D) h' H2 /\ ER T (ι'.hide D) H2 en σ /\ RVs T (ι'.hide D) H2 vs ys /\ D ∉ ι'.refs /\
   (match ybc (jf.map (·.1)) en w xs cc ce (xs.drop i) vs h' with | .ok ys h2=>∀ ι' H' D vs,Grow ι H ι' H' -> Sim T (ι'.hide D) h2 H' -> RVs T (ι'.hide D) H' ys vs -> H' D = some (.lst vs) -> D ∉ ι'.all -> (∀ n,ι'.refs = ι.refs++n -> ∀ a ∈ n++[D],H a = none) -> Q (.ref D) H' | _=>False),?_,?_⟩
  ·exact ⟨xs.length,by simp,Nat.zero_le _,zat,ι1,h1,[],S1.growNew hD,Ext.hide hD,S1.hide hD,(er.mono g1).ext (Ext.hide hD),.nil,fun z=>S1.fresh hD (List.mem_append_left _ z),q⟩
  ·rintro i m ys H2 ⟨rfl,hi,hH2,ι',h',vs,g',x',S',er',rv',nD',q'⟩
   refine ⟨hH2,?_⟩
   by_cases hl : i < xs.length
   ·rw [zdO hl] at q'
    unfold ybc at q'
    by_cases hs : ybX w xs h' = true /\ vs.length < sizeLine
    ·rw [if_pos hs] at q'
     obtain ⟨hs1,hs2⟩:=hs
     obtain ⟨go,yld⟩:=IR.go i _ h' H2 xs[i] x' S' hs1 (by simp [hl])
     refine .inr ⟨go,by rw [<- rv'.length]; exact hs2,fun x H3 y=>?_⟩
     obtain ⟨g3,S3,r3⟩:=yld x H3 y
     have er3:=er'.mono g3
     refine ⟨ι'.hide D,h',_,S3,ER.comp er3 r3,?_⟩
     cases ec : cc (some xs[i] :: (jf.map (·.1)).map fun j=>(en[j]?).join) h' with
     | bad=>rw [ec] at q'; exact q'
     | ex c h5=>rw [ec] at q'; exact q'.elim
     | ok bb h5 =>
      rw [ec] at q'
      intro ι5 H5 b5 g5 S5 r5
      subst r5
      have g35:=g3.trans g5
      have hD5 : H5 D = some (.lst ys):=g35.keep D _ nD' hH2
      have eι : ι5 = Ix.hide ⟨ι5.refs,ι'.priv⟩ D:=by
       have:=g5.priv
       cases ι5
       simp only at this
       subst this
       rfl
      have nD5 : D ∉ ι5.refs:=g35.outR nD' hH2
      have gG5 : Grow ι1 H1 ⟨ι5.refs,ι'.priv⟩ H5:=by
       obtain ⟨n,en1,hn⟩:=g'.pre
       obtain ⟨k,ek,hk⟩:=g35.pre
       refine ⟨⟨n++k,?_,fun a ha=>?_⟩,g'.priv,fun a o na ea=>?_,fun a ha=>?_⟩
       ·show ι5.refs = _; rw [ek]; show ι'.refs++k = _; rw [en1]; simp
       ·rcases List.mem_append.mp ha with z | z
        ·exact hn a z
        ·have z2:=hk a z
         by_cases hr : a ∈ ι1.refs
         ·exact absurd z2 (g'.live a (List.mem_append_left _ hr))
         ·cases e9 : H1 a with
          | none=>rfl
          | some o=>rw [g'.keep a o hr e9] at z2; cases z2
       ·exact g35.keep a o (g'.outR na ea) (g'.keep a o na ea)
       ·have : a ∈ (ι'.hide D).all:=by
         rcases List.mem_append.mp ha with z | z
         ·exact List.mem_append_left _ (by show a ∈ ι'.refs; rw [en1]; exact List.mem_append_left _ z)
         ·exact List.mem_append_right _ (List.mem_cons_of_mem _ (by rw [g'.priv]; exact z))
        exact g35.live a this
      have x5 : Ext ι1 H1 (Ix.hide ⟨ι5.refs,ι'.priv⟩ D) H5:=eι ▸ x'.trans g35.ext
      have er5:=er3.mono g5
      have rv5:=(rv'.mono g35)
      cases bb with
      | false =>
       rw [if_neg Bool.false_ne_true]
       refine ⟨xs.length - (i + 1),by omega,rfl,hl,hD5,⟨ι5.refs,ι'.priv⟩,h5,vs,gG5,x5,eι ▸ S5,eι ▸ er5,eι ▸ rv5,nD5,q'⟩
      | true =>
       rw [if_pos rfl]
       refine ⟨ι5,h5,_,S5,(ER.comp er3 r3).mono g5,?_⟩
       dsimp only at q'
       cases ee : ce (some xs[i] :: (jf.map (·.1)).map fun j=>(en[j]?).join) h5 with
       | bad=>rw [ee] at q'; exact q'
       | ex c h6=>rw [ee] at q'; exact q'.elim
       | ok v h6 =>
        rw [ee] at q'
        intro ι6 H6 u6 g6 S6 r6
        have g56:=g6
        have hD6 : H6 D = some (.lst ys):=g56.keep D _ nD5 hD5
        have eι6 : ι6 = Ix.hide ⟨ι6.refs,ι'.priv⟩ D:=by
         have h1:=g6.priv
         have h2:=g5.priv
         rw [h2] at h1
         cases ι6
         simp only at h1
         subst h1
         rfl
        have nD6 : D ∉ ι6.refs:=g56.outR nD5 hD5
        have gG6 : Grow ι1 H1 ⟨ι6.refs,ι'.priv⟩ (upd H6 D (.lst (ys++[u6]))):=by
         obtain ⟨n,en1,hn⟩:=gG5.pre
         obtain ⟨k,ek,hk⟩:=g56.pre
         have hD1 : ∀ a o,H1 a = some o -> a ≠ D:=fun a o ea=>zap ea hD
         refine ⟨⟨n++k,?_,fun a ha=>?_⟩,g'.priv,fun a o na ea=>?_,fun a ha=>?_⟩
         ·show ι6.refs = _; rw [ek]; have z : ι5.refs = ι1.refs++n:=en1; rw [z]; simp
         ·rcases List.mem_append.mp ha with z | z
          ·exact hn a z
          ·have z2:=hk a z
           by_cases hr : a ∈ ι1.refs
           ·exact absurd z2 (gG5.live a (List.mem_append_left _ hr))
           ·cases e9 : H1 a with
            | none=>rfl
            | some o=>rw [gG5.keep a o hr e9] at z2; cases z2
         ·rw [yaB (hD1 a o ea)]
          exact g56.keep a o (gG5.outR na ea) (gG5.keep a o na ea)
         ·by_cases zD : a = D
          ·subst zD; rw [zat]; simp
          ·rw [yaB zD]
           have : a ∈ ι5.all:=by
            rcases List.mem_append.mp ha with z | z
            ·exact List.mem_append_left _ (by have z' : ι5.refs = ι1.refs++n:=en1; rw [z']; exact List.mem_append_left _ z)
            ·rw [eι]; exact List.mem_append_right _ (List.mem_cons_of_mem _ (by show a ∈ ι'.priv; rw [g'.priv]; exact z))
           exact g56.live a this
        refine ⟨hD6,xs.length - (i + 1),by omega,rfl,hl,zat,⟨ι6.refs,ι'.priv⟩,h6,vs++[v],gG6,?_,?_,?_,?_,nD6,q'⟩
        ·exact (eι6 ▸ (x'.trans (g35.ext.trans g6.ext))).trans Ext.poke
        ·exact Sim.poke (eι6 ▸ S6) nD6
        ·exact ER.ext (eι6 ▸ er5.mono g6) Ext.poke
        ·have : RVs T ι6 H6 (vs++[v]) (ys++[u6]):=(rv5.mono g6).append (.cons r6 .nil)
         exact RVs.ext Ext.poke (eι6 ▸ this)
    ·rw [if_neg hs] at q'; exact q'.elim
   ·have ei : i = xs.length:=by omega
    subst ei
    rw [List.drop_length] at q'
    unfold ybc at q'
    by_cases hs : ybX w xs h' = true
    ·rw [if_pos hs] at q'
     have hp : D ∉ ι'.priv:=fun z=>by rw [g'.priv] at z; exact S1.plive D z hD
     refine .inl ⟨IR.stop _ _ h' H2 x' S' hs (Nat.le_refl _),q' ι' H2 D ys (g1.trans g') S' rv' hH2 (fun z=>(List.mem_append.mp z).elim nD' hp) fun n en1 a ha=>?_⟩
     obtain ⟨k,ek,hk⟩:=(g1.trans g').pre
     have : n = k:=List.append_cancel_left (en1.symm.trans ek)
     subst this
     rcases List.mem_append.mp ha with z | z
     ·exact hk a z
     ·have z' : a = D:=by simpa using z
      subst z'
      cases e9 : H a with
      | none=>rfl
      | some o =>
       by_cases hr : a ∈ ι.refs
       ·have z1 : a ∈ ι1.refs:=by
         obtain ⟨k1,ek1,_⟩:=g1.pre
         rw [ek1]; exact List.mem_append_left _ hr
        exact absurd hD (S1.live a (List.mem_append_left _ z1))
       ·rw [g1.keep a o hr e9] at hD; cases hD
    ·rw [if_neg hs] at q'; exact q'.elim
end
end Sm
namespace Sm
open PySem PySem.Spec L2
section
variable {T : Tb} {E : St -> XK} {X : Cx} {pos px : Pos} {iter elt : Expr} {ifs : List Expr} {scope : Scope} {x₁ : Str} {jf : List (Nat × Str)} {it : SI} {cc : SB} {ce : SE}
theorem zfo {σ : St} {H : Hp} {Q : VK} (q : tE T E (ycX (jf.map (·.1)) it cc ce) σ H Q) : yel jf (tI T it) (tT T EN cc) (tE T EN ce) σ H Q:=by
 obtain ⟨ι,h,en,S,er,q⟩:=q
 refine ziU S er ?_
 unfold ycX at q
 cases e : it en h with
 | bad=>rw [e] at q; exact q
 | ex c h1=>rw [e] at q; exact q.elim
 | ok p h1 =>
  obtain ⟨xs,w⟩:=p
  rw [e] at q
  dsimp only at q ⊢
  cases e2 : ybc (jf.map (·.1)) en w xs cc ce xs [] h1 with
  | bad=>rw [e2] at q; exact q
  | ex c h1=>rw [e2] at q; exact q.elim
  | ok ys h2 =>
   rw [e2] at q
   exact fun ι' H' D vs g S' r hD nD _=>q ι' H' _ g S'.show (.fl nD (.inl hD) (r.ext Ext.show))
theorem zdh : PTs X [] (tT T E sYes):=fun pins s σ H Q I ⟨ι,h,en,S,er,q⟩=>ziF pins s σ H Q I (q.now S rfl)
structure CompOk (X : Cx) (x₁ : Str) (jf : List (Nat × Str)) (scope : Scope) : Prop where
 hN : (x₁ :: jf.map (·.2)).Nodup
 hx : scope.names.lookup x₁ = some .local
 hjf : ∀ p ∈ jf,X.N[p.1]? = some p.2
 hjl : ∀ p ∈ jf,scope.names.lookup p.2 = some .free
 hkind : scope.kind = .function
 hcell : ∀ y ∈ scope.names,y.2 ≠ .cell
 hfr : ∀ y ∈ scope.names,y.2 = .free -> X.env.kindOf y.1 = some .cell \/ X.env.kindOf y.1 = some .free
 hnames : ∀ y ∈ scope.names,y.2 = .local -> scope.names.lookup y.1 = some .local
theorem yfA (C : CompOk X x₁ jf scope) (hcalm : X.calm = true) (hi : PIA T X (.Name x₁ px) iter it) (hc : ∀ pins cl s H fp,PTs (ybe X pins x₁ jf scope cl s H fp) ifs (tT T EN cc)) (he : ∀ pins cl s H fp,PEA T EN (ybe X pins x₁ jf scope cl s H fp) elt ce)
  (hs : ∀ x,foldedSetIterable iter X.env x = pure x:=by intro _; rfl) : PEA T E X (.ListComp elt [⟨.Name x₁ px,iter,ifs,0⟩] scope pos) (ycX (jf.map (·.1)) it cc ce) :=
 ya1 (ziG hcalm hi hc he C.hN C.hx C.hjf C.hjl C.hkind C.hcell C.hfr C.hnames hs) fun _ _ _ q=>zfo q
theorem ziV {y : Str} {py spos : Pos} {i : Nat} (C : CompOk X x₁ jf scope) (hcalm : X.calm = true) (hi : PIA T X (.Name x₁ px) iter it) (hc : ∀ pins cl s H fp,PTs (ybe X pins x₁ jf scope cl s H fp) ifs (tT T EN cc)) (he : ∀ pins cl s H fp,PEA T EN (ybe X pins x₁ jf scope cl s H fp) elt ce)
  (hNX : X.N.Nodup) (hi' : X.N[i]? = some y:=by rfl) (hy : X.env.scope.names.lookup y = some .local:=by rfl) (hsw : swapsWith (.ListComp elt [⟨.Name x₁ px,iter,ifs,0⟩] scope pos) (some (.Name y py)) spos.line X.env = pure true:=by rfl) (hs : ∀ x,foldedSetIterable iter X.env x = pure x:=by intro _; rfl) :
  PSA T E X (.Assign [.Name y py] (.ListComp elt [⟨.Name x₁ px,iter,ifs,0⟩] scope pos) spos) (sSet i (ycX (jf.map (·.1)) it cc ce)) :=
 ybZ (ziH hcalm hi hc he C.hN C.hx C.hjf C.hjl C.hkind C.hcell C.hfr C.hnames hNX hi' hy hsw hs) fun D σ H q=>zfo (yfx q)
end
def spA (T : Tb) (F : Fn) : Sp:=fun vs H Q E=>∃ ι h args,Sim T ι h H /\ RVs T ι H args vs /\ Post T ι H E (RV T) (F args h) Q
def yib (F : Fn) (n : Nat) : Prop:=∀ args h,args.length ≠ n -> F args h = .bad
theorem zc1 (n m : Nat) (b : SS) : yib (mkFn n m b) n:=fun args h hl=>by
 unfold mkFn
 rw [if_neg hl]
theorem okA {P : Program} {w : World} {K : PySem.W.Frag} {mg : Str -> Option Value} {base : Heap} {T : Tb} {x qual : Str} {st : Stmt} {f : Addr} {fd : FuncData} {N ps : List Str} {k : Nat} {b : SS} (F : Fun K x qual st f fd) (hK : K = T.K) (S : FnScope N ps (yah st))
  (hbody : ∀ (cdv : Value) (A : Around) (outer : List Env) (s : Shared) (H : Hp) (E : XK),Room k (A.deeper (PyProof.Rows.envOfC qual (yah st) s.heap.objs.size f cdv)) -> CA T (fun _=>E) (cxOf (CXE P w) P w K mg base N qual (yah st) f cdv A outer s H E) ->
   PSsA T (fun _=>E) (cxOf (CXE P w) P w K mg base N qual (yah st) f cdv A outer s H E) (yb3 st) b) : FnOk P w K mg base (CXE P w) (k + 1) f fd ps (spA T (mkFn ps.length N.length b)):=by
 refine F.okE S (fun vs H Q E h=>?_) (fun cdv A outer s H vs Q E hr h=>?_)
 ·obtain ⟨ι,h,args,_,r,q⟩:=h
  by_cases hl : args.length = ps.length
  ·rw [<- hl,r.length]
  ·rw [zc1 _ _ _ args h hl] at q; exact q.elim
 ·obtain ⟨ι,h,args,Si,r,q⟩:=h
  refine ⟨_,hbody cdv A outer s H E hr ⟨hK,ziJ⟩,ι,h,args.map some++List.replicate (N.length - ps.length) none,Si,?_,?_⟩
  ·by_cases hl : args.length = ps.length
   ·refine ⟨by simp [L2.start,r.length,<- hl],fun i v e=>?_⟩
    unfold L2.start
    by_cases hi : i < args.length
    ·rw [List.getElem?_append_left (by simpa using hi),List.getElem?_map] at e
     rw [List.getElem?_append_left (by simpa [<- r.length] using hi),List.getElem?_map]
     obtain ⟨x,e1,e2⟩:=Option.map_eq_some_iff.mp e
     cases e2
     obtain ⟨u,e3,r3⟩:=r.get e1
     exact ⟨u,by rw [e3]; rfl,r3⟩
    ·rw [List.getElem?_append_right (by simpa using hi),List.getElem?_replicate] at e
     split at e
     ·cases e
     ·cases e
   ·rw [zc1 _ _ _ args h hl] at q; exact q.elim
  ·unfold mkFn at q
   split at q
   ·split at q
    ·rename_i e1 h1 he
     rw [he]
     exact fun ι' H' σ' g S' er=>q ι' H' _ g S' .non
    ·rename_i v h1 he
     rw [he]
     exact q
    ·rename_i c e1 h1 he
     rw [he]
     exact fun ι' H' σ' C g S' er ec=>q ι' H' C g S' ec
    ·exact q.elim
   ·exact q.elim
structure GF (P : Program) (w : World) (T : Tb) (mg : Str -> Option Value) (base : Heap) (k : Nat) (x : Str) (F : Fn) : Prop where
 ex : ∃ f fd ps,mg x = some (.ref f) /\ PySem.W.keepIn T.K (.ref f) = true /\ Binds T.K fd ps [] /\ FnOk P w T.K mg base (CXE P w) k f fd ps (spA T F)
structure GM (P : Program) (w : World) (T : Tb) (mg : Str -> Option Value) (base : Heap) (k : Nat) (c : Nat) (m : Str) (F : Fn) : Prop where
 ex : ∃ C f fd ps,T.cls c = some C /\ Cls T.K C /\ Meth T.K C m f /\ Binds T.K fd ps [] /\ FnOk P w T.K mg base (CXE P w) k f fd ps (spA T F)
 no : m ∉ T.fields c
section
variable {T : Tb} {E : St -> XK} {X : Cx} {pos p apos : Pos} {e o a : Expr} {es : List Expr} {x m : Str} {F : Fn} {k c : Nat} {as : SL} {so sa : SE}
theorem yai (hK : X.K = T.K) (C : CA T E X) (G : GF X.prog X.w T X.mg X.base k x F) (hr : Room k X.A) (hg : Gl X x) (ha : PAA T E X (e :: es) as) (hdb : (x == ("__debug__" : Str)) = false:=by decide)
  (he : starEach (e :: es) X.env = (false,eval e X.env) :: starEach es X.env:=by rfl) (hpl : (backTo pos (starEach es X.env)).any (·.1) = false:=by rfl) : PEA T E X (.Call (.Name x p) (e :: es) [] pos) (yag F as):=by
 obtain ⟨f,fd,ps,h1,h2,h3,h4⟩:=G.ex
 refine ya1 (zhE (Ex:=E) (dvs:=[]) (hK ▸ h4) hr hg h1 (hK ▸ h2) (hK ▸ h3) .nil C.pass ha hdb he hpl) fun σ H Q ⟨ι,h,en,S,er,q⟩=>⟨ι,h,en,S,er,q.bind fun xs h1 ι1 H1 us g1 S1 r1 q1=>?_⟩
 rw [List.append_nil]
 exact ⟨ι1,h1,xs,S1,r1,q1⟩
theorem zfp {C : Addr} {σ : St} {H : Hp} {Q : VK} (hc : T.cls c = some C) (no : m ∉ T.fields c) (q : tE T E (yao c F so as) σ H Q) : yfp C m (spA T F) [] E (tE T E so) (tA T E as) σ H Q:=by
 obtain ⟨ι,h,en,S,er,q⟩:=q
 refine ⟨ι,h,en,S,er,q.bind fun x h1 ι1 H1 u g1 S1 r1 q1=>?_⟩
 split at q1
 ·rename_i n
  split at q1
  ·rename_i c' fs hn
   split at q1
   ·rename_i ec
    subst ec
    cases r1 with
    | @ref _ a hr =>
     obtain ⟨o,e1,C',dx,fus,hC,rfl,nd,hw,hl,_⟩:=S1.obj n _ a hn hr
     rw [hc] at hC; cases hC
     refine ⟨a,dx,fus,rfl,e1,?_,ι1,h1,en,S1,er.mono g1,q1.bind fun xs h2 ι2 H2 us g2 S2 r2 q2=>?_⟩
     ·cases e : fus.lookup m with
      | none=>rfl
      | some v =>
       have:=PySem.mem_of_lookup e
       exact absurd (hw _ this) no
     ·rw [List.append_nil]
      exact ⟨ι2,h2,.ref n :: xs,S2,.cons (.ref (g2.at hr)) r2,q2⟩
   ·exact q1.elim
  ·exact q1.elim
 ·exact q1.elim
theorem yam {pl : Sem Bool} (hK : X.K = T.K) (CC : CA T E X) (G : GM X.prog X.w T X.mg X.base k c m F) (hr : Room k X.A) (ho : PEA T E X o so) (ha : PAA T E X (e :: es) as)
  (hst : starEach (e :: es) X.env = (false,eval e X.env) :: starEach es X.env:=by rfl) (hpl : (backTo pos (starEach es X.env)).any (·.1) = false:=by rfl)
  (ht : eval (.Call (.Attribute o m apos) (e :: es) [] pos) X.env = (do
   let ov <- eval o X.env
   standAt apos.atName
   let (f,first) <- holding [ov] (getMethod ov m pl)
   callWith pos f first (backTo pos (starEach (e :: es) X.env)) (backToKw pos (keywordEach [] X.env))):=by rfl) : PEA T E X (.Call (.Attribute o m apos) (e :: es) [] pos) (yao c F so as):=by
 obtain ⟨C,f,fd,ps,h1,h2,h3,h4,h5⟩:=G.ex
 exact ya1 (zhF (Ex:=E) (dvs:=[]) (pl:=pl) ho (hK ▸ h2) (hK ▸ h3) (hK ▸ h5) hr (hK ▸ h4) .nil CC.pass ha hst hpl ht) fun σ H Q q=>zfp h1 G.no q
theorem zfq {pl : Sem Bool} (hK : X.K = T.K) (CC : CA T E X) (G : GM X.prog X.w T X.mg X.base k c m F) (hr : Room k X.A) (ho : PEA T E X o so)
  (ht : eval (.Call (.Attribute o m apos) [] [] pos) X.env = (do
   let ov <- eval o X.env
   standAt apos.atName
   let (f,first) <- holding [ov] (getMethod ov m pl)
   callWith pos f first (backTo pos (starEach [] X.env)) (backToKw pos (keywordEach [] X.env))):=by rfl) : PEA T E X (.Call (.Attribute o m apos) [] [] pos) (yao c F so sNil):=by
 obtain ⟨C,f,fd,ps,h1,h2,h3,h4,h5⟩:=G.ex
 intro pins s σ H Q I q
 have q' := zfp (C:=C) h1 G.no q
 refine PySem.W.methodCall_KW (pl:=pl) (thn (ho pins s σ H _ I q') fun u s1 ⟨x,H1,I1,rx,a,dx,fs,ex,ea,l,q⟩=>?_) ht
 subst ex
 obtain rfl : u = Value.ref a:=rx
 refine zcX I1 ea (hK ▸ h2) (hK ▸ h3) l ?_
 obtain ⟨ι,h,en,S,er,q⟩:=q
 refine PySem.W.callWith_K0 (first:=[.ref a]) I1.kIn (hK ▸ h3.kp) (zde (dvs:=[]) (us:=[.ref a]) (vs:=[.ref a]) (hK ▸ h5) hr (hK ▸ h4) .nil CC.pass I1 (.cons rfl .nil) (q.now S .nil))
structure CF (T : Tb) (c : Nat) : Prop where
 ex : ∃ C,T.cls c = some C /\ Cls T.K C /\ ∀ f ∈ T.fields c,NoAttr T.K C f
structure GK (P : Program) (w : World) (T : Tb) (mg : Str -> Option Value) (base : Heap) (k : Nat) (c : Nat) (x : Str) (F : Fn) : Prop where
 ex : ∃ C f fd ps,T.cls c = some C /\ mg x = some (.ref C) /\ Mk T.K C f /\ Binds T.K fd ps [] /\ FnOk P w T.K mg base (CXE P w) k f fd ps (spA T F)
theorem zgZ {CX : CXT} {C f : Addr} {fd : FuncData} {ps : List Str} {sp : Sp} {dvs : List V} {ds : List Value} {pins : List (Addr × Obj)} {σ : St} {H : Hp} {s : Shared} {Q : VK} {us : List Value} {vs : List V} (M : Mk X.K C f) (F : FnOk X.prog X.w X.K X.mg X.base CX k f fd ps sp) (hr : Room (k + 1) X.A) (hb : Binds X.K fd ps ds) (hd : Vals dvs ds)
  (hx : ycO CX X E) (I : L2.Inv X pins σ H s) (r : Vals vs us)
  (h : ∀ x dx,H x = none -> H dx = none -> dx ≠ x -> sp (.ref x :: (vs++dvs)) (upd (upd H dx (.own x)) x (.ins C dx [])) (fun v H2=>v = .non /\ Q (.ref x) H2) (E σ)) :
  wpAny (model X.prog X.w) X.A (call (.ref C) us) (EP X pins σ Q) X.xe s:=by
 have hq:=h (s.heap.objs.size + 1) s.heap.objs.size (I.hok.fresh (Nat.le_succ _)) (I.hok.fresh (Nat.le_refl _)) (Nat.ne_of_lt (Nat.lt_succ_self _))
 have I2:=Inv.made (C:=C) I
 have r2 : Vals (V.ref (s.heap.objs.size + 1) :: (vs++dvs)) (Value.ref (s.heap.objs.size + 1) :: (us++ds)):=.cons rfl (r.append hd)
 have hl : (Value.ref (s.heap.objs.size + 1) :: us++ds).length = ps.length:=by
  have e:=r2.length
  rw [F.len _ _ _ _ hq] at e
  exact e.symm
 refine wpAny_call (zhq (f:=f) I.kIn M.makes M.init (beq_iff_eq.mp M.fn) (codeAny_mono (F.run _ X.stack _ _ ⟨Value.ref (s.heap.objs.size + 1) :: us,[]⟩ (Value.ref (s.heap.objs.size + 1) :: (us++ds)) _ _ (E σ) (hr.make C us [])
  (I2.env0.make C us []) (hb _ (Value.ref (s.heap.objs.size + 1) :: us) I2.kIn hl) r2 hq) fun r s' hq' => ?_))
 cases r with
 | error e=>exact hx pins σ _ _ e s' I2 hq'
 | ok fl =>
  cases fl with
  | ret u =>
   obtain ⟨v,H',I3,rv,ev,q3⟩:=I2.after hq'
   subst ev
   exact ⟨rv,⟨V.ref (s.heap.objs.size + 1),H',I3,rfl,q3⟩⟩
  | next=>exact False.elim hq'
  | brk=>exact False.elim hq'
  | cont=>exact False.elim hq'
theorem ziW {C : Addr} {xs : List AV} {us : List V} {H : Hp} {Q : VK} {ι : Ix} {h : AH} {E : XK} {n : Nat} (hc : T.cls c = some C) (hn : (T.fields c).length = n) (S : Sim T ι h H) (r : RVs T ι H xs us)
  (q : Post T ι H E (RV T) (match F (.ref h.length :: xs) (h++[.ins c (List.replicate n none)]) with | .ok .non h2=>Out.ok (AV.ref h.length) h2 | .ex c h2=>.ex c h2 | _=>.bad) Q) :
  ∀ x dx,H x = none -> H dx = none -> dx ≠ x -> spA T F (.ref x :: us) (upd (upd H dx (.own x)) x (.ins C dx [])) (fun v H2=>v = .non /\ Q (.ref x) H2) E:=by
 intro x dx nx ndx ne
 have nx' : (upd H dx (.own x)) x = none:=by rw [yaB (Ne.symm ne)]; exact nx
 have S1:=S.new (o:=.own x) ndx
 have g1:=S.growNew (o:=.own x) ndx
 have g2:=S1.growAdd (u:=.ins C dx []) nx'
 have S2 : Sim T (ι.add x) (h++[.ins c (List.replicate n none)]) (upd (upd H dx (.own x)) x (.ins C dx [])):=S1.add nx' ⟨C,dx,[],hc,rfl,by simp,by simp,by simp [hn],fun i v e=>by
  rw [List.getElem?_replicate] at e
  split at e
  ·cases e
  ·cases e⟩
 refine ⟨ι.add x,_,.ref h.length :: xs,S2,.cons (.ref S.addAt) (r.mono (g1.trans g2)),?_⟩
 have q2:=q.shift (g1.trans g2)
 cases e : F (.ref h.length :: xs) (h++[.ins c (List.replicate n none)]) with
 | bad=>rw [e] at q2; exact q2
 | ex c' h2=>rw [e] at q2; exact q2
 | ok v h2 =>
  rw [e] at q2
  cases v with
  | non=>exact fun ι' H' u g S' r' => ⟨yep r',q2 ι' H' _ g S' (.ref (g.at S.addAt))⟩
  | _=>exact (show False from q2).elim
theorem ziX {n : Nat} (hK : X.K = T.K) (CC : CA T E X) (G : GK X.prog X.w T X.mg X.base k c x F) (hr : Room (k + 1) X.A) (hg : Gl X x) (hn : (T.fields c).length = n:=by rfl) (hdb : (x == ("__debug__" : Str)) = false:=by decide) : PEA T E X (.Call (.Name x p) [] [] pos) (yen c n F sNil):=by
 obtain ⟨C,f,fd,ps,h1,h2,h3,h4,h5⟩:=G.ex
 intro pins s σ H Q I ⟨ι,h,en,S,er,q⟩
 refine wpAny_Call_Name_kw (zby I hg h2 ?_ hdb)
 have M : Mk X.K C f:=hK ▸ h3
 exact PySem.W.callWith_K0 I.kIn M.kp (zgZ (us:=[]) (vs:=[]) (dvs:=[]) M (hK ▸ h5) hr (hK ▸ h4) .nil CC.pass I .nil (ziW h1 hn S .nil q))
theorem yaP {i : Nat} {f : Str} (hK : X.K = T.K) (CFc : CF T c) (ho : PEA T E X o so) (hf : (T.fields c)[i]? = some f:=by rfl) (hb : attributeBase o f X.env (eval o X.env) = eval o X.env:=by rfl) : PEA T E X (.Attribute o f pos) (Sm.sFld c i so):=by
 obtain ⟨C,hC,hcl,hna⟩:=CFc.ex
 refine ya1 (ygK ho hb) fun σ H Q ⟨ι,h,en,S,er,q⟩=>⟨ι,h,en,S,er,q.bind fun x h1 ι1 H1 u g1 S1 r1 q1=>?_⟩
 split at q1
 ·rename_i n
  split at q1
  ·rename_i c' fs hn
   split at q1
   ·rename_i ec
    subst ec
    split at q1
    ·rename_i v hv
     cases r1 with
     | @ref _ a hr =>
      obtain ⟨o,e1,C',dx,fus,hC',rfl,nd,hw,hl,hr2⟩:=S1.obj n _ a hn hr
      rw [hC] at hC'; cases hC'
      obtain ⟨f',u,e2,e3,r3⟩:=hr2 i v hv
      rw [hf] at e2; cases e2
      exact ⟨a,_,dx,fus,u,rfl,e1,hK ▸ hcl,hK ▸ hna f (List.mem_of_getElem? hf),e3,q1.now S1 r3⟩
    ·exact q1.elim
   ·exact q1.elim
  ·exact q1.elim
 ·exact q1.elim
theorem zdP (f : Str) (v : V) : ∀ {fs : List (Str × V)},(fs.map (·.1)).Nodup -> ((putF f v fs).map (·.1)).Nodup /\ ∀ g,g ∈ (putF f v fs).map (·.1) -> g = f \/ g ∈ fs.map (·.1)
 | [],_=>by simp [putF]
 | (g,x) :: r,n=>by
  obtain ⟨n1,n2⟩:=List.nodup_cons.mp (show (g :: r.map (·.1)).Nodup from n)
  unfold putF
  split
  ·rename_i e
   subst e
   exact ⟨n,fun k hk=>.inr hk⟩
  ·rename_i e
   obtain ⟨h1,h2⟩:=zdP f v (fs:=r) n2
   refine ⟨List.nodup_cons.mpr ⟨fun z=>?_,h1⟩,fun k hk=>?_⟩
   ·rcases h2 g z with z | z
    ·exact e z
    ·exact n1 z
   ·rcases List.mem_cons.mp hk with z | z
    ·exact .inr (by rw [z]; simp)
    ·rcases h2 k z with z | z
     ·exact .inl z
     ·exact .inr (List.mem_cons_of_mem _ z)
theorem zeu : ∀ {l m : List Str},l.Nodup -> (∀ x ∈ l,x ∈ m) -> l.length <= m.length
 | [],m,_,_=>Nat.zero_le _
 | x :: l,m,n,h=>by
  obtain ⟨n1,n2⟩:=List.nodup_cons.mp n
  have hx:=h x (by simp)
  have:=zeu (l:=l) (m:=m.erase x) n2 fun y hy=>by
   have ne : y ≠ x:=fun z=>n1 (z ▸ hy)
   exact (List.mem_erase_of_ne ne).mpr (h y (by simp [hy]))
  rw [List.length_erase_of_mem hx] at this
  have : 0 < m.length:=List.length_pos_of_mem hx
  simp only [List.length_cons]
  omega
theorem zaL {i : Nat} {f : Str} {p' : Pos} (hK : X.K = T.K) (CFc : CF T c) (ho : PEA T E X o so) (ha : PEA T E X a sa) (hf : (T.fields c)[i]? = some f:=by rfl) (hs : swapsWith a (some (.Attribute o f p')) pos.line X.env = pure false:=by rfl) :
  PSA T E X (.Assign [.Attribute o f p'] a pos) (ych c i so sa):=by
 obtain ⟨C,hC,hcl,hna⟩:=CFc.ex
 refine ybZ (ygL ho ha hs) fun D σ H ⟨ι,h,en,S,er,q⟩=>⟨ι,h,en,S,er,q.go er fun y h1 ι1 H1 v g1 S1 r1 q1=>⟨ι1,h1,en,S1,er.mono g1,q1.go (er.mono g1) fun x h2 ι2 H2 u g2 S2 r2 q2=>?_⟩⟩
 split at q2
 ·rename_i n
  split at q2
  ·rename_i c' fs hn
   split at q2
   ·rename_i ec
    subst ec
    cases r2 with
    | @ref _ a hr =>
     obtain ⟨o,e1,C',dx,fus,hC',rfl,nd,hw,hl,hr2⟩:=S2.obj n _ a hn hr
     rw [hC] at hC'; cases hC'
     have hmem : f ∈ T.fields c' := List.mem_of_getElem? hf
     have hlen : fus.length < 1000:=by
      have:=zeu nd (m:=T.fields c') (fun x hx=>by
       obtain ⟨p,hp,rfl⟩:=List.mem_map.mp hx
       exact hw p hp)
      have:=T.few c'
      rw [List.length_map] at *
      omega
     obtain ⟨k1,k2⟩:=zdP f v nd
     have g3:=S2.growSet (u:=.ins C dx (putF f v fus)) hr
     refine ⟨a,C,dx,fus,rfl,e1,hK ▸ hcl,hK ▸ hna f hmem,hlen,q2 ι2 _ σ g3 (S2.set hr ⟨C,dx,putF f v fus,hC,rfl,k1,fun p hp=>?_,by simp [hl],fun j w hj=>?_⟩) (er.mono (g1.trans (g2.trans g3)))⟩
     ·rcases k2 p.1 (List.mem_map.mpr ⟨p,hp,rfl⟩) with z | z
      ·rw [z]; exact hmem
      ·obtain ⟨p',hp',e⟩:=List.mem_map.mp z
       rw [<- e]; exact hw p' hp'
     ·by_cases hji : j = i
      ·subst hji
       have hjl : j < fs.length:=by
        have:=(List.getElem?_eq_some_iff.mp hj).1
        simpa using this
       rw [List.getElem?_set_self hjl] at hj
       cases hj
       exact ⟨f,v,hf,by rw [za1,if_pos rfl],r1.mono (g2.trans g3)⟩
      ·rw [List.getElem?_set_ne (Ne.symm hji)] at hj
       obtain ⟨f',u,e2,e3,r3⟩:=hr2 j w hj
       have ne : f' ≠ f:=fun z=>hji (zbH (T.nd c') e2 (z ▸ hf))
       exact ⟨f',u,e2,by rw [za1,if_neg ne]; exact e3,r3.mono g3⟩
   ·exact (show False from q2).elim
  ·exact (show False from q2).elim
 ·exact (show False from q2).elim
end
end Sm
namespace Sm
open PySem PySem.Spec L2
theorem yfd {T : Tb} {ι : Ix} {H : Hp} {k : Key} {u : V} (r : RV T ι H (kA k) u) : u = kV k:=by
 cases k with
 | inl i=>exact yaG r
 | inr x=>exact (ybr r).1
theorem yeW {k j : Key} (e : kA k = kA j) : k = j:=by
 cases k<;>cases j<;>simp [kA] at e<;>simp [e]
theorem zdi : ∀ {ks js : List Key},ks.map kA = js.map kA -> ks = js
 | [],[],_=>rfl
 | [],_ :: _,e=>by simp at e
 | _ :: _,[],e=>by simp at e
 | k :: ks,j :: js,e=>by
  simp only [List.map_cons,List.cons.injEq] at e
  rw [yeW e.1,zdi e.2]
theorem yfB {T : Tb} {ι : Ix} {H : Hp} : ∀ {ks : List Key} {us : List V},RVs T ι H (ks.map kA) us -> us = ks.map kV
 | [],_,.nil=>rfl
 | k :: ks,_,.cons r rs=>by rw [yfd r,yfB rs]; rfl
theorem zbL {v : AV} {k : Key} (e : keyOf? v = some k) : v = kA k:=by
 unfold keyOf? at e
 split at e<;>cases e<;>rfl
theorem za2 : ∀ {vs : List AV} {ks : List Key},keysOf? vs = some ks -> vs = ks.map kA
 | [],_,e=>by cases e; rfl
 | v :: vs,ks,e=>by
  unfold keysOf? at e
  split at e
  ·rename_i k ks' e1 e2
   cases e
   rw [zbL e1,za2 e2]; rfl
  ·cases e
theorem yes {κ : Type} [DecidableEq κ] {T : Tb} {ι : Ix} {H : Hp} {f : κ -> AV} (hf : ∀ {a b},f a = f b -> a = b) {k : κ} : ∀ {kvs : List (AV × AV)} {kus : List (κ × V)},Paired (fun (p : AV × AV) (q : κ × V)=>p.1 = f q.1 /\ RV T ι H p.2 q.2) kvs kus ->
  (valA kvs (f k) = none /\ valV kus k = none) \/ ∃ v u,valA kvs (f k) = some v /\ valV kus k = some u /\ RV T ι H v u
 | _,_,.nil=>.inl ⟨rfl,rfl⟩
 | (a,v) :: kvs,(j,u) :: kus,.cons ⟨e,r⟩ rs=>by
  by_cases h : j = k
  ·subst h
   replace e : a = f j:=e
   subst e
   exact .inr ⟨v,u,by simp [valA],zbJ rfl,r⟩
  ·have h' : ¬ a = f k:=fun z=>h (hf (e.symm.trans z))
   rcases yes hf rs (k:=k) with ⟨h1,h2⟩ | ⟨v',u',h1,h2,h3⟩
   ·refine .inl ⟨?_,by rw [zbe h]; exact h2⟩
    unfold valA at h1 ⊢
    rw [List.find?_cons,decide_eq_false h']
    exact h1
   ·refine .inr ⟨v',u',?_,by rw [zbe h]; exact h2,h3⟩
    unfold valA at h1 ⊢
    rw [List.find?_cons,decide_eq_false h']
    exact h1
theorem zfr {kvs : List (AV × AV)} {k : AV} : (kvs.any fun p=>decide (p.1 = k)) = (valA kvs k).isSome:=by
 induction kvs with
 | nil=>rfl
 | cons p r ih =>
  unfold valA at ih ⊢
  rw [List.any_cons,List.find?_cons,ih]
  cases h : decide (p.1 = k)<;>simp
theorem yfC {κ : Type} [DecidableEq κ] {T : Tb} {ι : Ix} {H : Hp} {f : κ -> AV} (hf : ∀ {a b},f a = f b -> a = b) {k : κ} {v : AV} {u : V} (rv : RV T ι H v u) {kvs : List (AV × AV)} {kus : List (κ × V)} (r : Paired (fun (p : AV × AV) (q : κ × V)=>p.1 = f q.1 /\ RV T ι H p.2 q.2) kvs kus) :
  Paired (fun (p : AV × AV) (q : κ × V)=>p.1 = f q.1 /\ RV T ι H p.2 q.2) (putA kvs (f k) v) (putK kus k u):=by
 have e : (kvs.any fun p=>decide (p.1 = f k)) = kus.any fun kv=>decide (kv.1 = k):=by
  rw [zfr,zcI]
  rcases yes hf r (k:=k) with ⟨h1,h2⟩ | ⟨v',u',h1,h2,h3⟩
  ·rw [h1,h2]; rfl
  ·rw [h1,h2]; rfl
 unfold putA putK
 rw [e]
 by_cases h : (kus.any fun kv=>decide (kv.1 = k)) = true
 ·rw [if_pos h,if_pos h]
  clear e h
  induction r with
  | nil=>exact .nil
  | cons p rs ih =>
   rename_i a b l1 l2
   refine .cons ?_ ih
   obtain ⟨e1,r1⟩:=p
   dsimp only
   by_cases hk : b.1 = k
   ·rw [if_pos hk,if_pos (by rw [e1,hk])]
    exact ⟨e1,rv⟩
   ·rw [if_neg hk,if_neg (fun z=>hk (hf (e1.symm.trans z)))]
    exact ⟨e1,r1⟩
 ·rw [if_neg h,if_neg h]
  have app : ∀ {l1 : List (AV × AV)} {l2 : List (κ × V)},Paired (fun (p : AV × AV) (q : κ × V)=>p.1 = f q.1 /\ RV T ι H p.2 q.2) l1 l2 -> Paired (fun (p : AV × AV) (q : κ × V)=>p.1 = f q.1 /\ RV T ι H p.2 q.2) (l1++[(f k,v)]) (l2++[(k,u)]):=fun z=>by
   induction z with
   | nil=>exact .cons ⟨rfl,rv⟩ .nil
   | cons p _ ih=>exact .cons p ih
  exact app r
section
variable {T : Tb} {ι : Ix} {h : AH} {H : Hp}
theorem keyT {xs : List AV} {u : V} {ks : List Key} (r : RV T ι H (.tup xs) u) (e : keysOf? xs = some ks) : ∃ b,u = .ref b /\ KTup H b ks:=by
 have:=za2 e
 subst this
 cases r with
 | tup n q r=>exact ⟨_,rfl,.of (by rw [<- yfB r]; exact q)⟩
theorem zfs {n : Nat} {t : Bool} {kvs : List (AV × AV)} {y : AV} {a : Addr} {w : V} (S : Sim T ι h H) (hn : h[n]? = some (.dct t kvs)) (hr : ι.refs[n]? = some a) (ry : RV T ι H y w) (hk : ydg t y = true) :
  ∃ o,DGet H a w o /\ ((valA kvs y = none /\ o = none) \/ ∃ v u,valA kvs y = some v /\ o = some u /\ RV T ι H v u):=by
 obtain ⟨ob,e1,r⟩:=S.obj n _ a hn hr
 cases t with
 | false =>
  obtain ⟨kus,rfl,r⟩:=r
  have hk' : (keyOf? y).isSome = true:=hk
  obtain ⟨k,ek⟩:=Option.isSome_iff_exists.mp hk'
  have:=zbL ek
  subst this
  rw [yfd ry]
  refine ⟨valV kus k,.k e1,?_⟩
  rcases yes yeW r (k:=k) with ⟨h1,h2⟩ | ⟨v',u',h1,h2,h3⟩
  ·exact .inl ⟨h1,h2⟩
  ·exact .inr ⟨v',u',h1,h2,h3⟩
 | true =>
  obtain ⟨kus,rfl,r⟩:=r
  unfold ydg at hk
  split at hk
  ·rename_i hh; cases hh
  ·rename_i xs hh
   obtain ⟨ks,ek⟩:=Option.isSome_iff_exists.mp hk
   obtain ⟨b,rfl,hb⟩:=keyT ry ek
   have:=za2 ek
   subst this
   refine ⟨valV kus ks,.t e1 hb,?_⟩
   rcases yes (f:=fun ks : List Key=>AV.tup (ks.map kA)) (fun e=>zdi (by injection e)) r (k:=ks) with ⟨h1,h2⟩ | ⟨v',u',h1,h2,h3⟩
   ·exact .inl ⟨h1,h2⟩
   ·exact .inr ⟨v',u',h1,h2,h3⟩
  ·cases hk
theorem ziY {n : Nat} {t : Bool} {kvs : List (AV × AV)} {y z : AV} {a : Addr} {w u : V} (S : Sim T ι h H) (hn : h[n]? = some (.dct t kvs)) (hr : ι.refs[n]? = some a) (ry : RV T ι H y w) (rz : RV T ι H z u) (hk : ydg t y = true) (hl : kvs.length < sizeLine) :
  ∃ H',DPut H a w u H' /\ Grow ι H ι H' /\ Sim T ι (h.set n (.dct t (putA kvs y z))) H' := by
 obtain ⟨ob,e1,r⟩:=S.obj n _ a hn hr
 cases t with
 | false =>
  obtain ⟨kus,rfl,r⟩:=r
  have hk' : (keyOf? y).isSome = true:=hk
  obtain ⟨k,ek⟩:=Option.isSome_iff_exists.mp hk'
  have:=zbL ek
  subst this
  rw [yfd ry]
  have g:=S.growSet (u:=.dK (putK kus k u)) hr
  exact ⟨_,.k e1 (by rw [<- Paired.length r]; exact hl),g,S.set hr ⟨_,rfl,yfC yeW (rz.mono g) (Paired.mapP r fun _ _ ⟨p,q⟩=>⟨p,q.mono g⟩)⟩⟩
 | true =>
  obtain ⟨kus,rfl,r⟩:=r
  unfold ydg at hk
  split at hk
  ·rename_i hh; cases hh
  ·rename_i xs hh
   obtain ⟨ks,ek⟩:=Option.isSome_iff_exists.mp hk
   obtain ⟨b,rfl,hb⟩:=keyT ry ek
   have:=za2 ek
   subst this
   have g:=S.growSet (u:=.dT (putK kus ks u)) hr
   exact ⟨_,.t e1 hb (by rw [<- Paired.length r]; exact hl),g,S.set hr ⟨_,rfl,yfC (f:=fun ks : List Key=>AV.tup (ks.map kA)) (fun e=>zdi (by injection e)) (rz.mono g) (Paired.mapP r fun _ _ ⟨p,q⟩=>⟨p,q.mono g⟩)⟩⟩
  ·cases hk
theorem RVs.atI {xs : List AV} {us : List V} {i : Int} {v : AV} (r : RVs T ι H xs us) (e : atI xs i = some v) : ∃ u,L2.atI us i = some u /\ RV T ι H v u:=by
 unfold L2.atI at e ⊢
 rw [<- r.length]
 obtain ⟨j,e1,e2⟩:=Option.bind_eq_some_iff.mp e
 obtain ⟨u,e3,r3⟩:=r.get e2
 exact ⟨u,by rw [e1]; exact e3,r3⟩
end
section
variable {T : Tb} {E : St -> XK} {X : Cx} {pos : Pos} {a b c : Expr} {sa sb sc : SE}
theorem yic {e : Expr} {t t' : TE} (h : PE X e t) (h' : PE X e t') : PE X e (fun σ H Q=>t σ H Q \/ t' σ H Q):=fun pins s σ H Q I q=>q.elim (h pins s σ H Q I) (h' pins s σ H Q I)
theorem yid {e : Stmt} {t t' : TS} (h : PS X e t) (h' : PS X e t') : PS X e (fun D σ H=>t D σ H \/ t' D σ H):=fun pins s σ H Q I q=>q.elim (h pins s σ H Q I) (h' pins s σ H Q I)
theorem r_ix (hK : X.K = T.K) (hu : X.A.units + 64 < cLine) (ha : PEA T E X a sa) (hb : PEA T E X b sb) (hs : ye5 b:=by exact fun _ _=>rfl) : PEA T E X (.Subscript a b pos) (sOp2 fIx sa sb):=by
 refine ya1 (yic (yhV ygP ha hb hs) (ziD (Nat.lt_of_le_of_lt (Nat.add_le_add_left (by decide : 1 <= 64) _) hu) ha hb hs)) fun σ H Q q=>?_
 obtain ⟨ι,h,en,S,er,q⟩:=q
 have left : (∀ x h1 y h2,sa en h = .ok x h1 -> sb en h1 = .ok y h2 -> ∀ n t kvs,x = .ref n -> h2[n]? = some (.dct t kvs) -> False) -> tOp (rIx X.K) (tE T E sa) (tE T E sb) σ H Q:=fun no=>by
  refine ⟨ι,h,en,S,er,?_⟩
  unfold sOp2 at q
  cases e1 : sa en h with
  | bad=>rw [e1] at q; exact q
  | ex c h1=>rw [e1] at q; exact q
  | ok x h1 =>
   rw [e1] at q
   intro ι1 H1 u g1 S1 r1
   refine ⟨ι1,h1,en,S1,er.mono g1,?_⟩
   dsimp only [Out.bind] at q
   cases e2 : sb en h1 with
   | bad=>rw [e2] at q; exact q
   | ex c h2=>rw [e2] at q; exact Post.shift (R:=RV T) (o:=.ex c h2) q g1
   | ok y h2 =>
    rw [e2] at q
    intro ι2 H2 w g2 S2 r2
    have q2:=Post.shift q (g1.trans g2)
    have r1' := r1.mono g2
    dsimp only at q2
    unfold fIx at q2
    split at q2
    ·rename_i z i
     split at q2
     ·rename_i cc hc
      obtain ⟨rfl,zl,zo⟩:=ybr r1'
      rw [yaG r2]
      refine .inr (.inr ⟨z,i,cc,rfl,rfl,zl,hc,q2.now S2 (.str (show 1 <= sizeLine by decide) ?_)⟩)
      obtain ⟨j,_,e3,_⟩:=zcj hc
      have m : cc ∈ z.cps:=by
       have:=List.mem_of_getElem? e3
       simpa using this
      have:=Array.all_eq_true_iff_forall_mem.mp zo _ m
      simpa using this
     ·exact q2.elim
    ·rename_i xs i
     split at q2
     ·rename_i v hv
      obtain ⟨b,us,rfl,sq,rs⟩:=ydM r1'
      obtain ⟨u2,e3,r3⟩:=rs.atI hv
      rw [yaG r2]
      exact .inr (.inl ⟨b,us,i,u2,rfl,rfl,hK ▸ sq,e3,q2.now S2 r3⟩)
     ·exact q2.elim
    ·rename_i xs i
     split at q2
     ·rename_i v hv
      obtain ⟨b,us,rfl,sq,rs⟩:=ybR S2 r1' rfl
      obtain ⟨u2,e3,r3⟩:=rs.atI hv
      rw [yaG r2]
      exact .inl ⟨b,us,i,u2,rfl,rfl,hK ▸ sq,e3,q2.now S2 r3⟩
     ·exact q2.elim
    ·rename_i n
     split at q2
     ·rename_i xs hn
      split at q2
      ·rename_i i
       split at q2
       ·rename_i v hv
        obtain ⟨b,us,rfl,sq,rs⟩:=ybR (xs:=xs) S2 r1' (by simp [ydf,hn])
        obtain ⟨u2,e3,r3⟩:=rs.atI hv
        rw [yaG r2]
        exact .inl ⟨b,us,i,u2,rfl,rfl,hK ▸ sq,e3,q2.now S2 r3⟩
       ·exact q2.elim
      ·exact q2.elim
     ·rename_i t kvs hn
      exact (no _ h1 _ h2 e1 e2 n t kvs rfl hn).elim
     ·exact q2.elim
    ·exact q2.elim
 by_cases dd : ∃ x h1 y h2,sa en h = .ok x h1 /\ sb en h1 = .ok y h2 /\ ∃ n t kvs,x = .ref n /\ h2[n]? = some (.dct t kvs)
 ·obtain ⟨x,h1,y,h2,e1,e2,n,t,kvs,rfl,hn⟩:=dd
  refine .inr ⟨ι,h,en,S,er,?_⟩
  unfold sOp2 at q
  rw [e1] at q ⊢
  intro ι1 H1 u g1 S1 r1
  refine ⟨ι1,h1,en,S1,er.mono g1,?_⟩
  dsimp only [Out.bind] at q
  rw [e2] at q ⊢
  intro ι2 H2 w g2 S2 r2
  have q2:=Post.shift q (g1.trans g2)
  have r1' := r1.mono g2
  dsimp only at q2
  unfold fIx at q2
  simp only [hn] at q2
  split at q2
  ·rename_i hk
   cases r1' with
   | @ref _ ad hr =>
    obtain ⟨o,dg,alt⟩:=zfs S2 hn hr r2 hk
    rcases alt with ⟨v1,rfl⟩ | ⟨v,u,v1,rfl,r3⟩
    ·rw [v1] at q2; exact q2.elim
    ·rw [v1] at q2
     exact ⟨ad,u,rfl,dg,q2.now S2 r3⟩
  ·exact q2.elim
 ·exact .inl (left fun x h1 y h2 e1 e2 n t kvs e3 e4=>dd ⟨x,h1,y,h2,e1,e2,n,t,kvs,e3,e4⟩)
theorem zft {p' : Pos} (hu : X.A.units + 64 < cLine) (ho : PEA T E X a sa) (hi : PEA T E X b sb) (hv : PEA T E X c sc) (hs : swapsWith c (some (.Subscript a b p')) pos.line X.env = pure false:=by rfl) (hs' : swapsWithSole [.Subscript a b p'] c pos.line X.env = pure false:=by rfl) (hw : swappedStores [.Subscript a b p'] c X.env = pure none:=by rfl)
  (h1 : (assignEach [.Subscript a b p'] X.env).map (·.2) = [assign (.Subscript a b p') X.env]:=by rfl)
  (has : ∀ v,assign (.Subscript a b p') X.env v = (do
   let ov <- holding [v] (eval a X.env)
   let iv <- holding [v,ov] (eval b X.env)
   standAt p'
   holding [v,ov,iv] (setItem ov iv v)
   release [v,ov,iv] []):=by intro _; rfl) : PSA T E X (.Assign [.Subscript a b p'] c pos) (yeo sa sb sc):=by
 refine ybZ (yid (ygz hv (ygy ho hi zht has) hs' hw h1) (ziE (Nat.lt_of_le_of_lt (Nat.add_le_add_left (by decide : 1 <= 64) _) hu) ho hi hv hs)) fun D σ H q=>?_
 obtain ⟨ι,h,en,S,er,q⟩:=q
 unfold yeo at q
 by_cases dd : ∃ z h1 x h2 y h3,sc en h = .ok z h1 /\ sa en h1 = .ok x h2 /\ sb en h2 = .ok y h3 /\ ∃ n t kvs,x = .ref n /\ h3[n]? = some (.dct t kvs)
 ·obtain ⟨z,h1,x,h2,y,h3,e1,e2,e3,n,t,kvs,rfl,hn⟩:=dd
  refine .inr ⟨ι,h,en,S,er,?_⟩
  rw [e1] at q ⊢
  intro ι1 H1 u g1 S1 r1
  refine ⟨ι1,h1,en,S1,er.mono g1,?_⟩
  dsimp only [Out.go] at q
  rw [e2] at q ⊢
  intro ι2 H2 w g2 S2 r2
  refine ⟨ι2,h2,en,S2,er.mono (g1.trans g2),?_⟩
  dsimp only at q
  rw [e3] at q ⊢
  intro ι3 H3 j g3 S3 r3
  have q2:=PostS.shift q (g1.trans (g2.trans g3))
  simp only [hn] at q2
  split at q2
  ·rename_i hk
   cases (r2.mono g3) with
   | @ref _ ad hr =>
    obtain ⟨H4,dp,g4,S4⟩:=ziY S3 hn hr r3 (r1.mono (g2.trans g3)) hk.1 hk.2
    exact ⟨ad,H4,rfl,dp,q2 ι3 H4 σ g4 S4 (er.mono (g1.trans (g2.trans (g3.trans g4))))⟩
  ·exact q2.elim
 ·refine .inl ⟨ι,h,en,S,er,?_⟩
  cases e1 : sc en h with
  | bad=>rw [e1] at q; exact q
  | ex cc h1=>rw [e1] at q; exact fun i2 H2 C g S e=>q i2 H2 σ C g S (er.mono g) e
  | ok z h1 =>
   rw [e1] at q
   intro ι1 H1 u g1 S1 r1
   refine ⟨ι1,h1,en,S1,er.mono g1,?_⟩
   dsimp only [Out.go] at q
   cases e2 : sa en h1 with
   | bad=>rw [e2] at q; exact q
   | ex cc h2=>rw [e2] at q; exact fun i2 H2 C g S e=>q i2 H2 σ C (g1.trans g) S (er.mono (g1.trans g)) e
   | ok x h2 =>
    rw [e2] at q
    intro ι2 H2 w g2 S2 r2
    refine ⟨ι2,h2,en,S2,er.mono (g1.trans g2),?_⟩
    dsimp only at q
    cases e3 : sb en h2 with
    | bad=>rw [e3] at q; exact q
    | ex cc h3=>rw [e3] at q; exact fun i2 H2 C g S e=>q i2 H2 σ C (g1.trans (g2.trans g)) S (er.mono (g1.trans (g2.trans g))) e
    | ok y h3 =>
     rw [e3] at q
     intro ι3 H3 j g3 S3 r3
     have q2:=PostS.shift q (g1.trans (g2.trans g3))
     dsimp only at q2
     split at q2
     ·rename_i n
      split at q2
      ·rename_i xs hn
       split at q2
       ·rename_i k
        split at q2
        ·rename_i jj hj
         cases (r2.mono g3) with
         | @ref _ ad hr =>
          obtain ⟨o,e4,us,rfl,rs⟩:=S3.obj n _ ad hn hr
          have g4:=S3.growSet (u:=.lst (us.set jj u)) hr
          rw [yaG r3]
          exact ⟨ad,us,k,jj,rfl,rfl,e4,by rw [<- rs.length]; exact hj,q2 ι3 _ σ g4 (S3.set hr ⟨_,rfl,RVs.set (r1.mono (g2.trans (g3.trans g4))) jj (rs.mono g4)⟩) (er.mono (g1.trans (g2.trans (g3.trans g4))))⟩
        ·exact q2.elim
       ·exact q2.elim
      ·rename_i t kvs hn
       exact (dd ⟨_,h1,_,h2,_,h3,e1,e2,e3,n,t,kvs,rfl,hn⟩).elim
      ·exact q2.elim
     ·exact q2.elim
theorem ziZ {g : Value -> Value -> Sem Value} {r : R2} {neg : Bool} (hK : X.K = T.K)
  (h1 : ∀ (i j : Str) H Q,Q (V.bl (if neg then !(!(Builtin.Str.occurrences j i 0 j.length 1).isEmpty) else !(Builtin.Str.occurrences j i 0 j.length 1).isEmpty)) H -> r (.str i) (.str j) H Q)
  (h2 : ∀ x y H Q p xs d ds,y = V.ref p -> SqL T.K H p xs -> DaV T.K H x d -> DaVs T.K H xs ds -> d.canLay0 = true -> (∀ e ∈ ds,e.canLay0 = true /\ e.depth <= 30) -> Q (V.bl (if neg then !(ds.any fun e=>PyData.eqv e d) else ds.any fun e=>PyData.eqv e d)) H -> r x y H Q)
  (h2t : ∀ x y H Q p xs d ds,y = V.ref p -> SqT T.K H p xs -> DaV T.K H x d -> DaVs T.K H xs ds -> d.canLay0 = true -> (∀ e ∈ ds,e.canLay0 = true /\ e.depth <= 30) -> Q (V.bl (if neg then !(ds.any fun e=>PyData.eqv e d) else ds.any fun e=>PyData.eqv e d)) H -> r x y H Q)
  (h3 : ∀ (y : V) (a : Addr) o H Q,DGet H a y o -> Q (V.bl (if neg then !o.isSome else o.isSome)) H -> r y (.ref a) H Q) :
  OpS T (fun x y h=>match inA x y h with | some b=>.ok (.bl (if neg then !b else b)) h | none=>.bad) r:=by
 intro ι h H x y u w E Q S rx ry p
 dsimp only at p
 cases hb : inA x y h with
 | none=>rw [hb] at p; exact p.elim
 | some b =>
  rw [hb] at p
  dsimp only at p
  unfold inA at hb
  split at hb
  ·cases hb
   obtain ⟨rfl,_⟩:=ybr rx
   obtain ⟨rfl,_⟩:=ybr ry
   exact h1 _ _ _ _ (p.now S (.bl _))
  ·rename_i n
   split at hb
   ·rename_i t kvs hn
    split at hb
    ·rename_i hk
     cases hb
     cases ry with
     | @ref _ ad hr =>
      obtain ⟨o,dg,alt⟩:=zfs S hn hr rx hk
      refine h3 u ad o H Q dg ?_
      rcases alt with ⟨v1,rfl⟩ | ⟨v,u',v1,rfl,r3⟩
      ·rw [v1] at p; exact p.now S (.bl _)
      ·rw [v1] at p; exact p.now S (.bl _)
    ·cases hb
   ·rename_i xs hn
    split at hb
    ·rename_i d ds e1 e2
     cases hb
     obtain ⟨a,us,rfl,sq,rs⟩:=ybR (xs:=xs) S ry (by simp [ydf,hn])
     obtain ⟨q1,q2,q3⟩:=ycx S 8 rx e1
     obtain ⟨q4,q5⟩:=zbB (n:=8) (fun r e=>ycx S 8 r e) rs e2
     exact h2 _ _ _ _ a us d ds rfl sq q1 q4 q2 (fun e he=>⟨(q5 e he).1,by have:=(q5 e he).2; omega⟩) (p.now S (.bl _))
    ·cases hb
   ·cases hb
  ·rename_i xs
   split at hb
   ·rename_i d ds e1 e2
    cases hb
    obtain ⟨a,us,rfl,sq,rs⟩:=ybR S ry rfl
    obtain ⟨q1,q2,q3⟩:=ycx S 8 rx e1
    obtain ⟨q4,q5⟩:=zbB (n:=8) (fun r e=>ycx S 8 r e) rs e2
    exact h2 _ _ _ _ a us d ds rfl sq q1 q4 q2 (fun e he=>⟨(q5 e he).1,by have:=(q5 e he).2; omega⟩) (p.now S (.bl _))
   ·cases hb
  ·rename_i xs
   split at hb
   ·rename_i d ds e1 e2
    cases hb
    obtain ⟨a,us,rfl,sq,rs⟩:=ydM ry
    obtain ⟨q1,q2,q3⟩:=ycx S 8 rx e1
    obtain ⟨q4,q5⟩:=zbB (n:=8) (fun r e=>ycx S 8 r e) rs e2
    exact h2t _ _ _ _ a us d ds rfl sq q1 q4 q2 (fun e he=>⟨(q5 e he).1,by have:=(q5 e he).2; omega⟩) (p.now S (.bl _))
   ·cases hb
  ·cases hb
end
end Sm
namespace L2
open PySem PySem.Spec PyProof.Rows
section
variable {X : Cx} {pins : List (Addr × Obj)} {σ : St} {H : Hp} {s : Shared}
theorem zdQ (I : Inv X pins σ H s) (hu : X.A.units + 64 < cLine) {xs : List V} {ds : List PyData} {its : List Value} {d : PyData} {v : Value} {as : List Addr} (ra : Reads s.heap v d as) (hds : DaVs X.K H xs ds) (r : Vals xs its) (cd : d.canLay0 = true) (cds : ∀ e ∈ ds,e.canLay0 = true /\ e.depth <= 30) :
  (∀ y,y ∈ its.toArray -> SeqAt.EqAt X.A.in1 s y v (isD s.heap d y)) /\ its.toArray.any (isD s.heap d) = ds.any fun e=>PyData.eqv e d:=by
 obtain ⟨hl,hat⟩:=zfi I hds r
 constructor
 ·intro y hy
  have hy' : y ∈ its:=by simpa using hy
  obtain ⟨j,hj⟩:=List.getElem?_of_mem hy'
  have hlt:=(List.getElem?_eq_some_iff.mp hj).1
  have hdj : ds[j]? = some (ds[j]'(by omega)):=List.getElem?_eq_getElem (by omega)
  obtain ⟨bs,rb⟩:=hat j _ _ hj hdj
  have cj:=cds _ (List.mem_of_getElem? hdj)
  rw [yfs cj.1 rb]
  exact SeqAt.eqAt_reads _ _ _ _ _ _ _ _ rb ra cj.1 cd (by
   have:=Nat.min_le_left (ds[j]'(by omega)).depth d.depth
   show X.A.units + 1 + _ < cLine
   omega)
 ·rw [<- Array.any_toList]
  refine zfj hl fun j u e h1 h2=>?_
  obtain ⟨bs,rb⟩:=hat j _ _ h1 h2
  exact yfs (cds _ (List.mem_of_getElem? h2)).1 rb
def ygi (K : PySem.W.Frag) : R2:=fun x y H Q=>∃ p xs d ds,y = .ref p /\ SqL K H p xs /\ DaV K H x d /\ DaVs K H xs ds /\ d.canLay0 = true /\ (∀ e ∈ ds,e.canLay0 = true /\ e.depth <= 30) /\ Q (.bl (!(ds.any fun e=>PyData.eqv e d))) H
def yfW (K : PySem.W.Frag) : R2:=fun x y H Q=>∃ p xs d ds,y = .ref p /\ SqT K H p xs /\ DaV K H x d /\ DaVs K H xs ds /\ d.canLay0 = true /\ (∀ e ∈ ds,e.canLay0 = true /\ e.depth <= 30) /\ Q (.bl (!(ds.any fun e=>PyData.eqv e d))) H
theorem zg0 (hu : X.A.units + 64 < cLine) : OpR X (compareOp .NotIn) (ygi X.K):=by
 intro pins s σ H x y v u Q I rx ry h
 obtain ⟨p,xs,d,ds,rfl,hq,hd,hds,cd,cds,q⟩:=h
 cases ry
 obtain ⟨its,r,pl,hz⟩:=I.list hq
 obtain ⟨as,ra⟩:=hd.reads I rx
 obtain ⟨h1,h2⟩:=zdQ I hu ra hds r cd cds
 exact SeqAt.notIn_listAt (isD s.heap d) pl.isList h1 ⟨.bl _,H,I,rfl,by rw [h2]; exact q⟩
theorem zgm (hu : X.A.units + 64 < cLine) : OpR X (compareOp .NotIn) (yfW X.K):=by
 intro pins s σ H x y v u Q I rx ry h
 obtain ⟨p,xs,d,ds,rfl,hq,hd,hds,cd,cds,q⟩:=h
 cases ry
 obtain ⟨its,r,pl,hz⟩:=I.tuple hq
 obtain ⟨as,ra⟩:=hd.reads I rx
 obtain ⟨h1,h2⟩:=zdQ I hu ra hds r cd cds
 exact SeqAt.notIn_tupleAt (isD s.heap d) pl h1 ⟨.bl _,H,I,rfl,by rw [h2]; exact q⟩
theorem zev (hu : X.A.units + 64 < cLine) : OpR X (compareOp .NotIn) (fun x y H Q=>∃ a o,y = .ref a /\ DGet H a x o /\ Q (.bl (!o.isSome)) H):=by
 intro pins s σ H x y v u Q I rx ry h
 obtain ⟨a,o,rfl,g,q⟩:=h
 cases ry
 exact ziB (Nat.lt_of_le_of_lt (Nat.add_le_add_left (by decide : 1 <= 64) _) hu) I g rx fun s' I' => ⟨.bl _,H,I',rfl,q⟩
end
end L2
namespace Sm
open PySem PySem.Spec L2
section
variable {T : Tb} {E : St -> XK} {X : Cx}
theorem zfu (hK : X.K = T.K) (hu : X.A.units + 64 < cLine) : Op T X (compareOp .NotIn) yeT:=by
 refine ⟨_,zem.or ((zg0 hu).or ((zgm hu).or (zev hu))),ziZ (neg:=true) (g:=compareOp .NotIn) hK ?_ ?_ ?_ ?_⟩
 ·exact fun i j H Q q=>.inl ⟨i,j,rfl,rfl,q⟩
 ·exact fun x y H Q p xs d ds e1 e2 e3 e4 e5 e6 q=>.inr (.inl ⟨p,xs,d,ds,e1,hK ▸ e2,hK ▸ e3,hK ▸ e4,e5,e6,q⟩)
 ·exact fun x y H Q p xs d ds e1 e2 e3 e4 e5 e6 q=>.inr (.inr (.inl ⟨p,xs,d,ds,e1,hK ▸ e2,hK ▸ e3,hK ▸ e4,e5,e6,q⟩))
 ·exact fun y a o H Q g q=>.inr (.inr (.inr ⟨a,o,rfl,g,q⟩))
end
end Sm
namespace Sm
open PySem PySem.Spec L2
abbrev ErrC (x : Str) (C : Addr) (mg : Str -> Option Value) (base : Heap) : Prop:=PyProof.Rows.OwnCls x C [.type "ValueError",.type "Exception",.type "BaseException",.type "object"] "ValueError.__new__" mg base
structure GX (T : Tb) (mg : Str -> Option Value) (base : Heap) (c : Nat) (x : Str) : Prop where
 ex : ∃ C,T.exc c = some C /\ ErrC x C mg base
section
variable {T : Tb} {E : St -> XK} {X : Cx} {pos np cpos : Pos} {e : Expr} {es : List Expr} {x : Str} {c : Nat} {as : SL}
theorem zaJ (G : GX T X.mg X.base c x) (hr : ycN X E) (hg : Gl X x) (ha : PAA T E X (e :: es) as) (hc : X.calm = true:=by rfl) (hex : X.ex = []:=by rfl)
  (hdb : (x == ("__debug__" : Str)) = false:=by decide) (he : starEach (e :: es) X.env = (false,eval e X.env) :: starEach es X.env:=by rfl) (hpl : (backTo cpos (starEach es X.env)).any (·.1) = false:=by rfl) :
  PSA T E X (.Raise (some (.Call (.Name x np) (e :: es) [] cpos)) none pos) (yb9 c as):=by
 obtain ⟨C,h1,O⟩:=G.ex
 refine ybZ (zhD O PySem.F.excBase_ValueError hc hex hr hg ha hdb he hpl) fun D σ H ⟨ι,h,en,S,er,q⟩=>⟨ι,h,en,S,er,q.go er fun xs h1' ι1 H1 us g1 S1 r1 q1=>?_⟩
 split at q1
 ·rename_i hl
  exact ⟨by rw [<- r1.length]; exact hl,q1 ι1 H1 σ C S1.refl S1 (er.mono g1) h1⟩
 ·exact q1.elim
theorem yie {xc n : Str} {i : Nat} {body suite : List Stmt} {b0 : Stmt} {hpos : Pos} {sb hd : SS} {outer : List Env} {C : Addr} {catches : Nat -> Bool} (hK : X.K = T.K) (hN : X.N.Nodup) (hg : Gl X xc) (hm : X.mg xc = some (.ref C))
  (hcat : ∀ c C',catches c = true -> T.exc c = some C' -> PySem.W.exmOne T.K (.ref C') (.ref C) = some true)
  (hb : ∀ pins xe Ex,CA T Ex (tryC X pins xe) -> ycN (tryC X pins xe) Ex -> PSsA T Ex (tryC X pins xe) body sb) (hh : ∀ a,CA T EN (hdlC X a) -> PSsA T EN (hdlC X a) (b0 :: suite) hd)
  (hex : X.ex = []:=by rfl) (hst : X.stack = X.env :: outer:=by rfl) (hf : X.env.frame = some X.env.locals:=by rfl) (hi : X.N[i]? = some n:=by rfl) (hl : X.env.scope.names.lookup n = some .local:=by rfl) (hdb : (xc == ("__debug__" : Str)) = false:=by decide) :
  PSA T E X (.Try body [.ExceptHandler (some (.Name xc np)) (some n) (b0 :: suite) hpos] [] [] pos) (sTry i catches sb hd):=by
 refine ybZ (yg0 hex hst hf hN hi hl hg hm (fun pins xe Ex h1 h2=>hb pins xe Ex ⟨hK,h1⟩ h2) (fun a=>hh a (CA.never hK)) hdb) fun D σ H ⟨ι,h,en,S,er,q⟩=>⟨ι,h,en,S,er,?_⟩
 unfold sTry at q
 cases e1 : sb en h with
 | nx e2 h2=>rw [e1] at q; exact q
 | rt v h2=>rw [e1] at q; exact q
 | bk e2 h2=>rw [e1] at q; exact q
 | ct e2 h2=>rw [e1] at q; exact q
 | bad=>rw [e1] at q; exact q
 | ex c e2 h2 =>
  rw [e1] at q
  dsimp only at q
  intro ι' H' σ' C' g S' er' ec
  by_cases hcc : catches c = true
  ·rw [if_pos hcc] at q
   refine ⟨hK ▸ hcat c C' hcc ec,fun a hn=>⟨ι',h2,e2.set i (some (.exc c)),S'.new hn,(er'.mono (S'.growNew hn)).set (.exc (S'.fresh hn) ec zat) i,?_⟩⟩
   have q2:=PostS.shift q (g.trans (S'.growNew (o:=excO a (.ref C')) hn))
   cases e3 : hd (e2.set i (some (.exc c))) h2 with
   | nx e4 h4=>rw [e3] at q2; exact fun ι5 H5 σ5 g5 S5 er5=>q2 ι5 H5 _ g5 S5 (er5.unset i)
   | bk e4 h4=>rw [e3] at q2; exact fun ι5 H5 σ5 g5 S5 er5=>q2 ι5 H5 _ g5 S5 (er5.unset i)
   | ct e4 h4=>rw [e3] at q2; exact fun ι5 H5 σ5 g5 S5 er5=>q2 ι5 H5 _ g5 S5 (er5.unset i)
   | rt v h4=>rw [e3] at q2; exact q2
   | ex c' e4 h4=>rw [e3] at q2; exact (show False from q2).elim
   | bad=>rw [e3] at q2; exact q2
  ·rw [if_neg hcc] at q; exact (show False from q).elim
end
def ydA (T : Tb) (f : Fn) (r : List V -> Hp -> VK -> Prop) : Prop:=∀ (ι : Ix) (h : AH) (H : Hp) (xs : List AV) (us : List V) (E : XK) (Q : VK),Sim T ι h H -> RVs T ι H xs us -> Post T ι H E (RV T) (f xs h) Q -> r us H Q
section
variable {T : Tb} {E : St -> XK} {X : Cx} {pos p : Pos} {e a : Expr} {es : List Expr} {x : Str} {as : SL} {sa : SE}
theorem yif {f : Fn} {r : List V -> Hp -> VK -> Prop} (hs : ydA T f r) {σ : St} {H : Hp} {Q : VK} (q : tE T E (yag f as) σ H Q) : tCB r (tA T E as) σ H Q:=by
 obtain ⟨ι,h,en,S,er,q⟩:=q
 exact ⟨ι,h,en,S,er,q.bind fun xs h1 ι1 H1 us g1 S1 r1 q1=>hs ι1 h1 H1 xs us _ Q S1 r1 q1⟩
theorem r_bi {id : String} {f : Fn} (hc : ∃ r,CallR X (.builtin id) r /\ ydA T f r) (hg : Gl X x) (hm : X.mg x = none) (hv : bootBuiltins x = some (.builtin id)) (ha : PAA T E X (e :: es) as) (hn : x ≠ "__name__" := by decide) (hdb : (x == ("__debug__" : Str)) = false:=by decide)
  (he : starEach (e :: es) X.env = (false,eval e X.env) :: starEach es X.env:=by rfl) (hpl : (backTo pos (starEach es X.env)).any (·.1) = false:=by rfl) : PEA T E X (.Call (.Name x p) (e :: es) [] pos) (yag f as):=by
 obtain ⟨r,h1,h2⟩:=hc
 exact ya1 (zcG h1 hg hm hv ha hn hdb he hpl) fun σ H Q q=>yif h2 q
theorem b_len (hK : X.K = T.K) : ∃ r,CallR X (.builtin "len") r /\ ydA T fLen r:=by
 refine ⟨_,zeo.or (zen.or zgN),fun ι h H xs us E Q S r q=>?_⟩
 unfold fLen at q
 split at q
 ·cases r with
  | cons r r' =>
   cases r'
   obtain ⟨rfl,n,_⟩:=ybr r
   exact .inl ⟨_,rfl,n,q.now S (.int _)⟩
 ·cases r with
  | cons r r' =>
   cases r'
   obtain ⟨a,us,rfl,sq,rs⟩:=ydM r
   exact .inr (.inl ⟨a,us,rfl,.inr (hK ▸ sq),by rw [<- rs.length]; exact q.now S (.int _)⟩)
 ·cases r with
  | cons r r' =>
   cases r'
   obtain ⟨a,us,rfl,sq,rs⟩:=ybR S r rfl
   exact .inr (.inl ⟨a,us,rfl,.inl (hK ▸ sq),by rw [<- rs.length]; exact q.now S (.int _)⟩)
 ·rename_i n
  cases r with
  | cons r r' =>
   cases r'
   split at q
   ·rename_i xs hn
    obtain ⟨a,us,rfl,sq,rs⟩:=ybR (xs:=xs) S r (by simp [ydf,hn])
    exact .inr (.inl ⟨a,us,rfl,.inl (hK ▸ sq),by rw [<- rs.length]; exact q.now S (.int _)⟩)
   ·rename_i kvs hn
    cases r with
    | @ref _ ad hr =>
     obtain ⟨o,e1,kus,rfl,rs⟩:=S.obj n _ ad hn hr
     exact .inr (.inr ⟨ad,kus,rfl,e1,by rw [<- Paired.length rs]; exact q.now S (.int _)⟩)
   ·exact q.elim
 ·exact q.elim
theorem b_abs : ∃ r,CallR X (.builtin "abs") r /\ ydA T fAbs r:=by
 refine ⟨_,zho,fun ι h H xs us E Q S r q=>?_⟩
 unfold fAbs at q
 split at q
 ·cases r with
  | cons r r' => cases r'; rw [yaG r]; exact ⟨_,rfl,q.now S (.int _)⟩
 ·exact q.elim
theorem yfD (hc : X.calm = true:=by rfl) : ∃ r,CallR X (.builtin "max") r /\ ydA T ybN r:=by
 refine ⟨_,zgD hc,fun ι h H xs us E Q S r q=>?_⟩
 unfold ybN at q
 split at q
 ·cases r with
  | cons r r' => cases r' with
   | cons r1 r2=>cases r2; rw [yaG r,yaG r1]; exact ⟨_,_,rfl,q.now S (.int _)⟩
 ·exact q.elim
theorem yfE (hc : X.calm = true:=by rfl) : ∃ r,CallR X (.builtin "min") r /\ ydA T ybO r:=by
 refine ⟨_,zgE hc,fun ι h H xs us E Q S r q=>?_⟩
 unfold ybO at q
 split at q
 ·cases r with
  | cons r r' => cases r' with
   | cons r1 r2=>cases r2; rw [yaG r,yaG r1]; exact ⟨_,_,rfl,q.now S (.int _)⟩
 ·exact q.elim
theorem zew {ι : Ix} {H : Hp} : ∀ {xs : List AV} {us : List V} {bs : List Bool},RVs T ι H xs us -> ydL xs = some bs -> us = bs.map V.bl
 | _,_,_,.nil,e=>by cases e; rfl
 | _,_,bs,.cons (x:=x) r rs,e=>by
  unfold ydL at e
  split at e
  ·rename_i hh; cases hh
  ·rename_i b r' hh
   cases hh
   obtain ⟨bs',e1,rfl⟩:=Option.map_eq_some_iff.mp e
   rw [ydh r,zew rs e1]; rfl
  ·cases e
theorem b_all (hK : X.K = T.K) (hc : X.calm = true:=by rfl) : ∃ r,CallR X (.builtin "all") r /\ ydA T fAll r:=by
 refine ⟨_,zhz hc,fun ι h H xs us E Q S r q=>?_⟩
 unfold fAll at q
 split at q
 ·split at q
  ·rename_i bs hb
   cases r with
   | cons r r' =>
    cases r'
    obtain ⟨a,us,rfl,sq,rs⟩:=ybR S r rfl
    rw [zew rs hb] at sq
    exact ⟨a,bs,rfl,hK ▸ sq,q.now S (.bl _)⟩
  ·exact q.elim
 ·exact q.elim
abbrev tys : List String:=["NoneType", "bool", "int", "str", "list", "tuple", "dict"]
theorem yfF (K : PySem.W.Frag) : ∀ n ∈ tys,∀ t ∈ tys,PySem.W.kitOne K (.type n) (.type t) = some (n == t || (t == "int" && n == "bool")):=by
 intro n hn t ht
 simp only [tys,List.mem_cons,List.not_mem_nil,or_false] at hn ht
 rcases hn with rfl | rfl | rfl | rfl | rfl | rfl | rfl<;>rcases ht with rfl | rfl | rfl | rfl | rfl | rfl | rfl<;>rfl
theorem zg1 {c : V} {cv : Value} (rc : ∀ u,RelV c u -> u = cv) :
  CallR X (.builtin "isinstance") (fun xs H Q=>∃ a us r,xs = [.ref a,c] /\ SqL X.K H a us /\ PySem.W.kitOne X.K (.type "list") cv = some r /\ Q (.bl r) H):=by
 intro pins s σ H xs us Q I r h
 obtain ⟨a,ws,k,rfl,sq,hk,q⟩:=h
 obtain ⟨u,w',rfl,rx,ry⟩:=yei r
 obtain rfl:=rc _ ry
 obtain rfl : u = Value.ref a:=rx
 obtain ⟨its,_,⟨o,n,e1,e2,_⟩,_⟩:=I.list sq
 exact PySem.W.kia_one PySem.W.kitx_list I.kIn ⟨_,e1,e2⟩ hk (fun z=>nomatch z) fun tk=>⟨.bl k,H,I.tok _,rfl,q⟩
theorem yig {ι : Ix} {h : AH} {H : Hp} {v : AV} {u : V} {n : String} (S : Sim T ι h H) (r : RV T ι H v u) (e : tyN v h = some n) : (TyOf T.K H u (.type n) \/ (n = "list" /\ ∃ a us,u = .ref a /\ SqL T.K H a us)) /\ n ∈ tys:=by
 unfold tyN at e
 cases r with
 | non=>cases e; exact ⟨.inl .non,by decide⟩
 | bl b=>cases e; exact ⟨.inl (.bl b),by decide⟩
 | int b=>cases e; exact ⟨.inl (.int b),by decide⟩
 | str n o=>cases e; exact ⟨.inl (.str _),by decide⟩
 | tup n q r=>cases e; exact ⟨.inl (.tup q),by decide⟩
 | fl n q r=>cases e; exact ⟨.inr ⟨rfl,_,_,rfl,.inl q⟩,by decide⟩
 | kfl q r=>cases e; exact ⟨.inr ⟨rfl,_,_,rfl,.inr q⟩,by decide⟩
 | @ref k a q =>
  dsimp only at e
  split at e
  ·rename_i xs hn
   cases e
   obtain ⟨o,e1,us,rfl,rs⟩:=S.obj k _ a hn q
   exact ⟨.inl (.lst e1),by decide⟩
  ·rename_i t kvs hn
   cases e
   obtain ⟨o,e1,r⟩:=S.obj k _ a hn q
   cases t with
   | false=>obtain ⟨kus,rfl,rs⟩:=r; exact ⟨.inl (.dK e1),by decide⟩
   | true=>obtain ⟨kus,rfl,rs⟩:=r; exact ⟨.inl (.dT e1),by decide⟩
  ·cases e
 | exc _ _ _=>cases e
theorem yd8 {t : Str} {id : String} {p2 : Pos} (hK : X.K = T.K) (hg : Gl X "isinstance") (hm : X.mg "isinstance" = none) (ha : PEA T E X a sa) (hgt : Gl X t) (hmt : X.mg t = none) (hvt : bootBuiltins t = some (.type id)) (hid : id ∈ tys) (hnt : t ≠ "__name__" := by decide) (hdt : (t == ("__debug__" : Str)) = false:=by decide)
  (he : starEach [a,.Name t p2] X.env = (false,eval a X.env) :: starEach [.Name t p2] X.env:=by rfl) : PEA T E X (.Call (.Name "isinstance" p) [a,.Name t p2] [] pos) (sIsB id sa):=by
 refine ya1 (zcG ((zhy (X:=X) (ye8 id)).or (zg1 (X:=X) (ye8 id))) hg hm PyProof.Rows.boot_isinstance (zbz ha (zbz (zfb (v:=.ty id) hgt hmt hvt rfl hnt hdt) yeP) he) (he:=he)) fun σ H Q ⟨ι,h,en,S,er,q⟩=>⟨ι,h,en,S,er,q.bind fun v h1 ι1 H1 u g1 S1 r1 q1=>?_⟩
 split at q1
 ·rename_i n hn
  obtain ⟨ty,hmem⟩:=yig S1 r1 hn
  rcases ty with ty | ⟨rfl,ad,us,rfl,sq⟩
  ·exact .inl ⟨u,.type n,_,rfl,hK ▸ ty,yfF _ n hmem id hid,q1.now S1 (.bl _)⟩
  ·exact .inr ⟨ad,us,_,rfl,hK ▸ sq,yfF _ _ hmem id hid,q1.now S1 (.bl _)⟩
 ·exact q1.elim
theorem yf6 {t : Str} {p2 : Pos} {cv : Value} {cV : V} {pr : Nat -> Bool} (hK : X.K = T.K) (hg : Gl X "isinstance") (hm : X.mg "isinstance" = none) (ha : PEA T E X a sa) (hcl : PE X (.Name t p2) (tC cV)) (rc : ∀ u,RelV cV u -> u = cv)
  (hp : ∀ c C,T.exc c = some C -> ExcK T.K C /\ PySem.W.kitOne T.K (.ref C) cv = some (pr c)) (he : starEach [a,.Name t p2] X.env = (false,eval a X.env) :: starEach [.Name t p2] X.env:=by rfl) : PEA T E X (.Call (.Name "isinstance" p) [a,.Name t p2] [] pos) (sIsX pr sa):=by
 refine ya1 (zcG (zhJ (X:=X) rc) hg hm PyProof.Rows.boot_isinstance (zbz ha (zbz hcl yeP) he) (he:=he)) fun σ H Q ⟨ι,h,en,S,er,q⟩=>⟨ι,h,en,S,er,q.bind fun v h1 ι1 H1 u g1 S1 r1 q1=>?_⟩
 split at q1
 ·rename_i c
  cases r1 with
  | @exc _ C ad n ec hq =>
   obtain ⟨Z,k⟩:=hp c C ec
   exact ⟨ad,C,_,rfl,hq,hK ▸ Z,hK ▸ k,q1.now S1 (.bl _)⟩
 ·exact q1.elim
def MtS (T : Tb) (f : FM) (r : V -> List V -> Hp -> VK -> Prop) : Prop:=∀ (ι : Ix) (h : AH) (H : Hp) (x : AV) (xs : List AV) (u : V) (us : List V) (E : XK) (Q : VK),Sim T ι h H -> RV T ι H x u -> RVs T ι H xs us -> Post T ι H E (RV T) (f x xs h) Q -> r u us H Q
def ChkS (T : Tb) (chk : AV -> AH -> Bool) (n : String) : Prop:=∀ (ι : Ix) (h : AH) (H : Hp) (x : AV) (u : V),Sim T ι h H -> RV T ι H x u -> chk x h = true -> tyV T.K n u H
theorem zak : ChkS T yay "list" := fun ι h H x u S r e=>by
 obtain ⟨xs,e1⟩:=Option.isSome_iff_exists.mp e
 obtain ⟨a,us,rfl,sq,rs⟩:=ybR S r e1
 exact .inl ⟨rfl,us,sq⟩
theorem zi0 : ChkS T ye9 "str" := fun ι h H x u S r e=>by
 unfold ye9 at e
 split at e
 ·obtain ⟨rfl,_⟩:=ybr r; rfl
 ·cases e
variable {o : Expr} {so : SE} {name : Str} {apos : Pos} {chk : AV -> AH -> Bool} {f : FM} {tn id : String}
theorem r_bm (hK : X.K = T.K) (pa : PlainAttrs tn) (slot : Slot tn name id) (hty : typeOf (.builtin id) = pure (.type "method_descriptor")) (hm : ∃ r,MtR X id r /\ MtS T f r) (hc : ChkS T chk tn) (ho : PEA T E X o so) (ha : PAA T E X (e :: es) as)
  (hbase : attributeBase o name X.env (eval o X.env) = eval o X.env:=by rfl)
  (hfew : ((backTo pos (starEach (e :: es) X.env)).all (fun x=>!x.1) && (backToKw pos (keywordEach [] X.env)).all (fun x=>x.1.isSome)
   && decide ((e :: es).length + ([] : List Keyword).length + (if ([] : List Keyword).isEmpty then 0 else 1) < 30)) = true:=by rfl)
  (hline : (apos.endLine == pos.line) = true:=by rfl) (hs : starEach (e :: es) X.env = (false,eval e X.env) :: starEach es X.env:=by rfl) (hplain : (backTo pos (starEach es X.env)).any (·.1) = false:=by rfl) :
  PEA T E X (.Call (.Attribute o name apos) (e :: es) [] pos) (sBM chk f so as):=by
 obtain ⟨r,h1,h2⟩:=hm
 refine ya1 (yhX pa slot hty h1 ho ha hbase hfew hline hs hplain) fun σ H Q ⟨ι,h,en,S,er,q⟩=>⟨ι,h,en,S,er,q.bind fun x h1 ι1 H1 u g1 S1 r1 q1=>?_⟩
 by_cases hx : chk x h1 = true
 ·rw [if_pos hx] at q1
  exact ⟨hK ▸ hc ι1 h1 H1 x u S1 r1 hx,ι1,h1,en,S1,er.mono g1,q1.bind fun xs h2' ι2 H2 us g2 S2 r2 q2=>h2 ι2 h2' H2 x xs u us _ Q S2 (r1.mono g2) r2 q2⟩
 ·rw [if_neg hx] at q1; exact q1.elim
theorem yet (hK : X.K = T.K) (pa : PlainAttrs tn) (slot : Slot tn name id) (hty : typeOf (.builtin id) = pure (.type "method_descriptor")) (hm : ∃ r,MtR X id r /\ MtS T f r) (hc : ChkS T chk tn) (ho : PEA T E X o so)
  (hbase : attributeBase o name X.env (eval o X.env) = eval o X.env:=by rfl) (hline : (apos.endLine == pos.line) = true:=by rfl) : PEA T E X (.Call (.Attribute o name apos) [] [] pos) (sBM0 chk f so):=by
 obtain ⟨r,h1,h2⟩:=hm
 refine ya1 (ygQ pa slot hty h1 ho hbase hline) fun σ H Q ⟨ι,h,en,S,er,q⟩=>⟨ι,h,en,S,er,q.bind fun x h1 ι1 H1 u g1 S1 r1 q1=>?_⟩
 by_cases hx : chk x h1 = true
 ·rw [if_pos hx] at q1
  exact ⟨hK ▸ hc ι1 h1 H1 x u S1 r1 hx,h2 ι1 h1 H1 x [] u [] _ Q S1 r1 .nil q1⟩
 ·rw [if_neg hx] at q1; exact q1.elim
theorem zan : ∃ r,MtR X "list.append" r /\ MtS T yaA r:=by
 refine ⟨_,zdK,fun ι h H x xs u us E Q S rx rs q=>?_⟩
 unfold yaA at q
 split at q
 ·rename_i n y
  split at q
  ·rename_i ys hn
   split at q
   ·rename_i hl
    cases rx with
    | @ref _ ad hr =>
     cases rs with
     | @cons _ uu _ _ r r' =>
      cases r'
      obtain ⟨o,e1,ws,rfl,rw_⟩:=S.obj n _ ad hn hr
      have g:=S.growSet (u:=.lst (ws++[uu])) hr
      exact ⟨ad,ws,_,rfl,rfl,e1,by rw [<- rw_.length]; exact hl,q ι _ _ g (S.set hr ⟨_,rfl,(rw_.mono g).append (.cons (r.mono g) .nil)⟩) .non⟩
   ·exact q.elim
  ·exact q.elim
 ·exact q.elim
theorem yeu : ∃ r,MtR X "list.pop" r /\ MtS T mPop r:=by
 refine ⟨_,ygR,fun ι h H x xs u us E Q S rx rs q=>?_⟩
 unfold mPop at q
 split at q
 ·rename_i n
  split at q
  ·rename_i ys hn
   split at q
   ·rename_i y hy
    cases rx with
    | @ref _ ad hr =>
     cases rs
     obtain ⟨o,e1,ws,rfl,rw_⟩:=S.obj n _ ad hn hr
     have g:=S.growSet (u:=.lst ws.dropLast) hr
     obtain ⟨v,e2,r2⟩:=rw_.get hy
     refine ⟨ad,ws,v,rfl,rfl,e1,by rw [<- rw_.length]; exact e2,q ι _ _ g (S.set hr ⟨_,rfl,?_⟩) (r2.mono g)⟩
     have z:=(rw_.mono g).take (ys.length - 1)
     have e3 : ys.take (ys.length - 1) = ys.dropLast:=List.dropLast_eq_take.symm
     have e4 : ws.take (ys.length - 1) = ws.dropLast:=by rw [rw_.length]; exact List.dropLast_eq_take.symm
     rw [e3,e4] at z
     exact z
   ·exact q.elim
  ·exact q.elim
 ·exact q.elim
theorem zhP : ∃ r,MtR X "str.count" r /\ MtS T yeD r:=by
 refine ⟨_,zer,fun ι h H x xs u us E Q S rx rs q=>?_⟩
 unfold yeD at q
 split at q
 ·cases rs with
  | cons r r' =>
   cases r'
   obtain ⟨rfl,_⟩:=ybr rx
   obtain ⟨rfl,_⟩:=ybr r
   exact ⟨_,_,rfl,rfl,q.now S (.int _)⟩
 ·exact q.elim
end
end Sm
namespace Sm
open PySem PySem.Spec L2
theorem Out.bind_assoc {α β γ : Type} (o : Out α) (f : α -> AH -> Out β) (g : β -> AH -> Out γ) : (o.bind f).bind g = o.bind fun a h=>(f a h).bind g:=by cases o<;>rfl
section
variable {T : Tb} {E : St -> XK} {X : Cx} {pos p2 : Pos} {a b : Expr} {sa sb : SE}
def tO (T : Tb) (E : St -> XK) : Option SE -> TO
 | none=>ye4
 | some s=>yfZ (tE T E s)
abbrev POA (T : Tb) (E : St -> XK) (X : Cx) (e : Option Expr) (s : Option SE) : Prop:=PO X e (tO T E s)
theorem zaH : POA T E X none none:=ziw
theorem zaA (h : PEA T E X a sa) : POA T E X (some a) (some sa):=zix h
@[simp] def yeH (s : Option SE) : En -> AH -> Out (Option Int):=fun en h=>match s with
 | none=>.ok none h
 | some l=>(l en h).bind fun v h2=>match v with | .int i=>.ok (some i) h2 | _=>.bad
theorem zfv {s : Option SE} {σ : St} {H : Hp} {ι : Ix} {h : AH} {en : En} {γ δ : Type} {R' : Ix -> Hp -> γ -> δ -> Prop} {Q0 : δ -> Hp -> Prop} {f : Option Int -> AH -> Out γ} {Q : Option Int -> Hp -> Prop} (S : Sim T ι h H) (er : ER T ι H en σ) (q : Post T ι H (E σ) R' ((yeH s en h).bind f) Q0)
  (k : ∀ l h' ι' H',Grow ι H ι' H' -> Sim T ι' h' H' -> Post T ι' H' (E σ) R' (f l h') Q0 -> Q l H') : tO T E s σ H Q:=by
 cases s with
 | none=>exact k none h ι H S.refl S q
 | some l =>
  refine ⟨ι,h,en,S,er,?_⟩
  unfold yeH at q
  dsimp only at q
  rw [Out.bind_assoc] at q
  refine q.bind fun v h1 ι1 H1 u g1 S1 r1 q1=>?_
  split at q1
  ·rw [yaG r1]
   exact ⟨_,rfl,k _ _ ι1 H1 g1 S1 q1⟩
  ·exact q1.elim
@[simp] def ybd (x : AV) (l u : Option Int) (h : AH) : Out AV:=match x with
 | .fl xs=>.ok (.fl (cutA xs l u)) h
 | .str z=>.ok (.str (cutS z l u)) h
 | .tup xs=>if ¬ (HT.sIx xs.length 0 l = 0 /\ HT.sIx xs.length xs.length u = xs.length) then .ok (.tup (cutA xs l u)) h else .bad
 | .ref n=>match h[n]? with
  | some (.lst xs)=>.ok (.fl (cutA xs l u)) h
  | _=>.bad
 | _=>.bad
@[simp] def sCut (a : SE) (lo hi : Option SE) : SE:=fun en h=>(a en h).bind fun x h1=>(yeH lo en h1).bind fun l h2=>(yeH hi en h2).bind fun u h3=>ybd x l u h3
theorem RVs.cut {ι : Ix} {H : Hp} {xs : List AV} {us : List V} {lo hi : Option Int} (r : RVs T ι H xs us) : RVs T ι H (cutA xs lo hi) (cutV us lo hi):=by
 unfold cutA cutV
 rw [<- r.length]
 exact (r.drop _).take _
theorem yg8 {ι : Ix} {H : Hp} {z : Str} {l u : Option Int} (hz : z.length <= sizeLine) (hc : z.cps.all (· < 0x110000) = true) : RV T ι H (.str (cutS z l u)) (.str (cutS z l u)):=by
 refine .str ?_ ?_
 ·refine Nat.le_trans ?_ hz
  simp [cutS,Str.length]; omega
 ·simp only [cutS,List.all_toArray,List.all_eq_true]
  intro c h
  have hm : c ∈ z.cps.toList:=List.mem_of_mem_drop (List.mem_of_mem_take h)
  exact (Array.all_eq_true_iff_forall_mem.mp hc) c (by simpa using hm)
theorem zaC {lo hi : Option Expr} {sl sh : Option SE} (hK : X.K = T.K) (ha : PEA T E X a sa) (hl : POA T E X lo sl) (hh : POA T E X hi sh) : PEA T E X (.Subscript a (.Slice lo hi none p2) pos) (sCut sa sl sh):=by
 refine ya1 (zhs (ziA.or (sl_tup.or yg2)) ha hl hh) fun σ H Q ⟨ι,h,en,S,er,q⟩=>⟨ι,h,en,S,er,q.bind fun x h1 ι1 H1 u g1 S1 r1 q1=>?_⟩
 refine zfv (E:=E) S1 (er.mono g1) q1 fun l h2 ι2 H2 g2 S2 q2=>zfv (E:=E) S2 (er.mono (g1.trans g2)) q2 fun w h3 ι3 H3 g3 S3 q3=>?_
 have r3:=r1.mono (g2.trans g3)
 unfold ybd at q3
 split at q3
 ·obtain ⟨ad,us,rfl,sq,rs⟩:=ybR S3 r3 rfl
  exact .inl ⟨ad,us,rfl,hK ▸ sq,fun p n=>yeq S3 rs.cut n q3⟩
 ·obtain ⟨rfl,hz,hc⟩:=ybr r3
  exact .inr (.inr ⟨_,rfl,hz,q3.now S3 (yg8 hz hc)⟩)
 ·rename_i xs
  split at q3
  ·rename_i hz
   obtain ⟨ad,us,rfl,sq,rs⟩:=ydM r3
   exact .inr (.inl ⟨ad,us,rfl,hK ▸ sq,by rw [<- rs.length]; exact hz,fun p n=>zdf S3 rs.cut n q3⟩)
  ·exact q3.elim
 ·split at q3
  ·rename_i xs hn
   obtain ⟨ad,us,rfl,sq,rs⟩:=ybR (xs:=xs) S3 r3 (by simp [ydf,hn])
   exact .inl ⟨ad,us,rfl,hK ▸ sq,fun p n=>yeq S3 rs.cut n q3⟩
  ·exact q3.elim
 ·exact q3.elim
theorem r_gI {x : Str} {i : Int} {p : Pos} (hg : Gl X x) (hm : ∃ t,X.mg x = some (.int i t)) (hd : (x == ("__debug__" : Str)) = false:=by decide) : PEA T E X (.Name x p) (sLit (.int i)):=by
 obtain ⟨t,hm⟩:=hm
 exact ziO hg hm hd
end
def DG (K : PySem.W.Frag) (mg : Str -> Option Value) (x : Str) (st : Stmt) (ps : List Str) : Prop:=∃ f fd,mg x = some (.ref f) /\ PySem.W.keepIn K (.ref f) = true /\ Binds K fd ps [] /\ Fun K x x st f fd
end Sm
namespace Sm
open PySem PySem.Spec L2
def ye6 (N : List Str) (sc : Scope) (x₁ : Str) (jf : List (Nat × Str)) (scope : Scope) : Bool :=
 decide (x₁ :: jf.map (·.2)).Nodup && (scope.names.lookup x₁ == some .local) && jf.all (fun p=>N[p.1]? == some p.2) && jf.all (fun p=>scope.names.lookup p.2 == some .free) && (scope.kind == .function) &&
 scope.names.all (fun y=>y.2 != .cell) && scope.names.all (fun y=>y.2 != .free || sc.names.lookup y.1 == some .cell || sc.names.lookup y.1 == some .free) && scope.names.all (fun y=>y.2 != .local || scope.names.lookup y.1 == some .local)
theorem zb8 {X : Cx} {N : List Str} {sc scope : Scope} {x₁ : Str} {jf : List (Nat × Str)} (hN : X.N = N) (hk : ∀ x,X.env.kindOf x = sc.names.lookup x) (h : ye6 N sc x₁ jf scope = true) : CompOk X x₁ jf scope:=by
 unfold ye6 at h
 simp only [Bool.and_eq_true,decide_eq_true_eq,List.all_eq_true,beq_iff_eq,bne_iff_ne,Bool.or_eq_true] at h
 obtain ⟨⟨⟨⟨⟨⟨⟨h1,h2⟩,h3⟩,h4⟩,h5⟩,h6⟩,h7⟩,h8⟩:=h
 refine ⟨h1,h2,fun p hp=>by rw [hN]; exact h3 p hp,h4,h5,fun y hy=>h6 y hy,fun y hy e=>?_,fun y hy e=>?_⟩
 ·rw [hk]
  rcases h7 y hy with (z | z) | z
  ·exact absurd e z
  ·exact .inl z
  ·exact .inr z
 ·rcases h8 y hy with z | z
  ·exact absurd e z
  ·exact z
end Sm
namespace Sm
open PySem PySem.Spec L2
theorem zdj {T : Tb} {ι : Ix} {H : Hp} : ∀ ns : List Int,RVs T ι H (ns.map AV.int) (ns.map V.int)
 | []=>.nil
 | n :: ns=>.cons (.int n) (zdj ns)
theorem sim0 {T : Tb} {H : Hp} : Sim T ⟨[],[]⟩ [] H:=⟨rfl,List.nodup_nil,(fun _ z=>nomatch z),(fun i o a e=>by simp at e)⟩
def spL (K : PySem.W.Frag) : Sp:=fun vs H Q _=>∃ (a : Addr) (ns : List Int),vs = [.ref a] /\ SqL K H a (ns.map V.int) /\ ns.length <= 63 /\ ∀ H',Q (.bl true) H'
theorem zi1 {T : Tb} {F : Fn} (ht : ∀ ns : List Int,ns.length <= 63 -> ∃ h',F [.fl (ns.map AV.int)] [] = .ok (.bl true) h') : ∀ vs H Q E,spL T.K vs H Q E -> spA T F vs H Q E:=by
 rintro vs H Q E ⟨a,ns,rfl,hs,hl,q⟩
 obtain ⟨h',e⟩:=ht ns hl
 refine ⟨⟨[],[]⟩,[],[.fl (ns.map AV.int)],sim0,.cons ?_ .nil,?_⟩
 ·rcases hs with hs | hs
  ·exact .fl (by simp [Ix.all]) hs (zdj ns)
  ·exact .kfl hs (zdj ns)
 ·rw [e]
  intro ι' H' u g S r
  rw [ydh r]
  exact q H'
theorem zg2 {P : Program} {w : World} {outer : List Env} {H : Hp} {s s' : Shared} {e : Value} (h : CXE P w outer H s (fun _ _ _=>False) e s') : False:=by
 obtain ⟨_,_,_,_,_,_,_,_,_,_,_,_,_,_,q⟩:=h
 exact q
end Sm
namespace L2
open PySem PySem.Spec PyProof.Rows
end L2
namespace Sm
open PySem PySem.Spec L2
end Sm
namespace Sm
open PySem PySem.Spec L2
section
variable {T : Tb} {E : L2.St -> XK} {X : Cx} {pos p np : Pos} {a : Expr} {sa : SE}
theorem excK_of {K : PySem.W.Frag} {C : Addr} (g1 : PySem.W.findIn K (.ref C) "__getattribute__" = some (some (.builtin "BaseException.__getattribute__"))) (g2 : PySem.W.findIn K (.ref C) "__getattr__" = some none) (g3 : PySem.W.findIn K (.ref C) "__class__" = some (some (.builtin "object.__class__")))
  (g4 : PySem.W.mroIn K C (.type "object") = some true) (g5 : PySem.W.mroIn K C (.type "BaseException") = some true) (g6 : PySem.W.specialIn K (.builtin "object.__class__") "__get__" = some (some (.builtin "getset_descriptor.__get__"))) (g7 : PySem.W.takesIn K (.builtin "object.__class__") = some true) : ExcK K C:=by
 refine ⟨?_,g1,g2,g3,g6,g7,g4,g5⟩
 obtain ⟨cd,hc,_⟩:=Option.bind_eq_some_iff.mp g4
 rw [hc]
 rfl
theorem yfe {t : Str} {p2 : Pos} {pr : Nat -> Bool} (hK : X.K = T.K) (hg : Gl X "isinstance") (hm : X.mg "isinstance" = none) (ha : PEA T E X a sa) (hgt : Gl X t) (hp : ∃ C,X.mg t = some (.ref C) /\ ∀ c C',T.exc c = some C' -> ExcK T.K C' /\ PySem.W.kitOne T.K (.ref C') (.ref C) = some (pr c)) (hd : (t == ("__debug__" : Str)) = false:=by decide)
  (he : starEach [a,.Name t p2] X.env = (false,eval a X.env) :: starEach [.Name t p2] X.env:=by rfl) : PEA T E X (.Call (.Name "isinstance" p) [a,.Name t p2] [] pos) (sIsX pr sa):=by
 obtain ⟨C,h1,h2⟩:=hp
 exact yf6 hK hg hm ha (zfa (v:=.ref C) hgt h1 rfl hd) (ygW C) h2 he
theorem yg9 {t : Str} {id : String} {p2 : Pos} {pr : Nat -> Bool} (hK : X.K = T.K) (hg : Gl X "isinstance") (hm : X.mg "isinstance" = none) (ha : PEA T E X a sa) (hgt : Gl X t) (hmt : X.mg t = none) (hvt : bootBuiltins t = some (.type id)) (hp : ∀ c C',T.exc c = some C' -> ExcK T.K C' /\ PySem.W.kitOne T.K (.ref C') (.type id) = some (pr c)) (hnt : t ≠ "__name__" := by decide) (hd : (t == ("__debug__" : Str)) = false:=by decide)
  (he : starEach [a,.Name t p2] X.env = (false,eval a X.env) :: starEach [.Name t p2] X.env:=by rfl) : PEA T E X (.Call (.Name "isinstance" p) [a,.Name t p2] [] pos) (sIsX pr sa) :=
 yf6 hK hg hm ha (zfb (v:=.ty id) hgt hmt hvt rfl hnt hd) (ye8 id) hp he
theorem yha {xc n : Str} {i : Nat} {body suite : List Stmt} {b0 : Stmt} {hpos : Pos} {sb hd : SS} {outer : List Env} {catches : Nat -> Bool} (hK : X.K = T.K) (hN : X.N.Nodup) (hg : Gl X xc)
  (hcat : ∃ C,X.mg xc = some (.ref C) /\ ∀ c C',catches c = true -> T.exc c = some C' -> PySem.W.exmOne T.K (.ref C') (.ref C) = some true)
  (hb : ∀ pins xe Ex,CA T Ex (tryC X pins xe) -> ycN (tryC X pins xe) Ex -> PSsA T Ex (tryC X pins xe) body sb) (hh : ∀ a,CA T EN (hdlC X a) -> PSsA T EN (hdlC X a) (b0 :: suite) hd)
  (hex : X.ex = []:=by rfl) (hst : X.stack = X.env :: outer:=by rfl) (hf : X.env.frame = some X.env.locals:=by rfl) (hi : X.N[i]? = some n:=by rfl) (hl : X.env.scope.names.lookup n = some .local:=by rfl) (hdb : (xc == ("__debug__" : Str)) = false:=by decide) :
  PSA T E X (.Try body [.ExceptHandler (some (.Name xc np)) (some n) (b0 :: suite) hpos] [] [] pos) (sTry i catches sb hd):=by
 obtain ⟨C,h1,h2⟩:=hcat
 exact yie hK hN hg h1 h2 hb hh hex hst hf hi hl hdb
end
theorem yih : bootBuiltins "ValueError" = some (.type "ValueError"):=by decide +kernel
end Sm
namespace L2
open PySem PySem.Spec PyProof.Rows
section
variable {X : Cx} {pins : List (Addr × Obj)} {σ : L2.St} {H : Hp} {s : Shared}
end
end L2
namespace Sm
open PySem PySem.Spec L2
end Sm
namespace Sm
open PySem PySem.Spec L2
@[simp] def yd1 : List AV -> Option (List Int)
 | []=>some []
 | .int i :: r=>(yd1 r).map (i :: ·)
 | _=>none
@[simp] def fSum : Fn:=fun args h=>match args with
 | [.fl xs]=>match yd1 xs with
  | some ns=>.ok (.int ns.sum) h
  | none=>.bad
 | _=>.bad
@[simp] def yci (a b c : SE) : SI:=fun en h=>(a en h).bind fun v h1=>(b en h1).bind fun w h2=>(c en h2).bind fun z h3=>match v,w,z with
 | .int i,.int j,.int k=>if i.natAbs < 2 ^ 40 /\ j.natAbs < 2 ^ 40 /\ 0 < k /\ k < 2 ^ 20 then .ok ((List.range (if i < j then (j - i - 1) / k + 1 else 0 : Int).toNat).map (fun m : Nat=>.int (i + m * k)),none) h3 else .bad
 | _,_,_=>.bad
section
variable {T : Tb} {E : St -> XK} {X : Cx} {pos p : Pos} {e a b c : Expr} {sa sb sc : SE}
theorem zfw {ι : Ix} {H : Hp} : ∀ {xs : List AV} {us : List V} {bs : List Int},RVs T ι H xs us -> yd1 xs = some bs -> us = bs.map V.int
 | _,_,_,.nil,e=>by cases e; rfl
 | _,_,bs,.cons (x:=x) r rs,e=>by
  unfold yd1 at e
  split at e
  ·rename_i hh; cases hh
  ·rename_i b r' hh
   cases hh
   obtain ⟨bs',e1,rfl⟩:=Option.map_eq_some_iff.mp e
   rw [yaG r,zfw rs e1]; rfl
  ·cases e
theorem b_sum (hK : X.K = T.K) (hc : X.calm = true:=by rfl) : ∃ r,CallR X (.builtin "sum") r /\ ydA T fSum r:=by
 refine ⟨_,zhL hc,fun ι h H xs us E Q S r q=>?_⟩
 unfold fSum at q
 split at q
 ·split at q
  ·rename_i bs hb
   cases r with
   | cons r r' =>
    cases r'
    obtain ⟨a,us,rfl,sq,rs⟩:=ybR S r rfl
    rw [zfw rs hb] at sq
    exact ⟨a,bs,rfl,hK ▸ sq,q.now S (.int _)⟩
  ·exact q.elim
 ·exact q.elim
theorem zgn {ι : Ix} {H : Hp} {lo c : Int} {n : Nat} : ItR T (Itr3 lo c n) ι H ((List.range n).map (fun m : Nat=>AV.int (lo + m * c))) none:=by
 constructor
 ·intro i ι' h' H' y g S _ e
  rw [List.getElem?_map] at e
  obtain ⟨m,e1,rfl⟩:=Option.map_eq_some_iff.mp e
  have hi : i < n:=by
   have:=(List.getElem?_eq_some_iff.mp e1).1
   simpa using this
  rw [List.getElem?_range hi] at e1
  cases e1
  refine ⟨hi,?_⟩
  rintro u H2 ⟨rfl,rfl⟩
  exact ⟨S.refl,S,.int _⟩
 ·intro i ι' h' H' g S _ hl
  have hl' : n <= i:=by simpa using hl
  exact hl'
theorem zdR {tg : Expr} {p : Pos} (hg : Gl X "range") (hm : X.mg "range" = none) (ha : PEA T E X a sa) (hb : PEA T E X b sb) (hc : PEA T E X c sc) (hs : starEach [a,b,c] X.env = [(false,eval a X.env),(false,eval b X.env),(false,eval c X.env)]:=by rfl) (hs2 : starEach [b,c] X.env = [(false,eval b X.env),(false,eval c X.env)]:=by rfl) (hs3 : starEach [c] X.env = [(false,eval c X.env)]:=by rfl) :
  PIA T X tg (.Call (.Name "range" p) [a,b,c] [] pos) (yci sa sb sc) :=
 yeV (zgW hg hm (zaa ha (zaa hb (zaa hc yac hs3) (by rw [hs2,hs3])) (by rw [hs,hs2])) hs hs2) fun σ H R ⟨ι,h,en,S,er,q⟩=>by
  unfold yci at q
  refine ⟨ι,h,en,S,er,?_⟩
  unfold yaa
  cases e : sa en h with
  | bad=>rw [e] at q; exact q
  | ex c h1=>rw [e] at q; exact q.elim
  | ok v h1 =>
   rw [e] at q
   dsimp only [Out.bind] at q ⊢
   cases e' : sb en h1 with
   | bad=>rw [e'] at q; exact q
   | ex c h1=>rw [e'] at q; exact q.elim
   | ok v' h2 =>
    rw [e'] at q
    dsimp only at q ⊢
    cases e'' : sc en h2 with
    | bad=>rw [e''] at q; exact q
    | ex c h1=>rw [e''] at q; exact q.elim
    | ok v'' h3 =>
     rw [e''] at q
     dsimp only at q
     intro ι1 H1 u g1 S1 r1
     split at q
     ·rename_i hx
      split at hx
      ·split at hx
       ·rename_i hb
        cases hx
        cases r1 with
        | cons r r' =>
         cases r' with
         | cons r2 r3 =>
          cases r3 with
          | cons r4 r5 =>
           cases r5
           rw [yaG r,yaG r2,yaG r4]
           exact ⟨_,_,_,rfl,hb,q ι1 H1 _ g1 S1 zgn⟩
       ·cases hx
      ·cases hx
     ·exact q.elim
theorem yd2 {sts : List Stmt} {E : St -> XK} : PSsA T E X sts (fun _ _=>.bad):=fun pins s σ H D I ⟨ι,h,en,S,er,q⟩=>q.elim
theorem yiv {ι : Ix} {H : Hp} {z : Str} (hz : z.length <= sizeLine) (hc : z.cps.all (· < 0x110000) = true) : RV T ι H (.str (revS z)) (.str (revS z)):=by
 refine .str ?_ ?_
 ·refine Nat.le_trans ?_ hz
  simp [revS,Str.length]
 ·simp only [revS,List.all_toArray,List.all_eq_true,List.mem_reverse]
  intro c h
  exact (Array.all_eq_true_iff_forall_mem.mp hc) c (by simpa using h)
end
theorem el1 : ∀ {us : List Value},us.length = 1 -> ∃ a : Value,us = [a]
 | [a],_=>⟨a,rfl⟩
theorem el2 : ∀ {us : List Value},us.length = 2 -> ∃ a b : Value,us = [a,b]
 | [a,b],_=>⟨a,b,rfl⟩
theorem el3 : ∀ {us : List Value},us.length = 3 -> ∃ a b c : Value,us = [a,b,c]
 | [a,b,c],_=>⟨a,b,c,rfl⟩
theorem el4 : ∀ {us : List Value},us.length = 4 -> ∃ a b c d : Value,us = [a,b,c,d]
 | [a,b,c,d],_=>⟨a,b,c,d,rfl⟩
theorem yhb {T : Tb} {ι : Ix} {H : Hp} {z : Str} {n : Nat} (hl : z.length * n <= 1000000) (hc : z.cps.all (· < 0x110000) = true) : RV T ι H (.str (repS z n)) (.str (repS z n)):=by
 refine .str ?_ ?_
 ·refine Nat.le_trans ?_ (Nat.le_trans hl (by decide))
  simp [repS,Str.length,Nat.mul_comm]
 ·simp only [repS,List.all_toArray,List.all_eq_true,List.mem_flatten,List.mem_replicate]
  rintro c ⟨l,⟨_,rfl⟩,hm⟩
  exact (Array.all_eq_true_iff_forall_mem.mp hc) c (by simpa using hm)
def yaQ : Nat:=100000000
end Sm
namespace Sm
open PySem PySem.Spec L2
@[simp] def ycj : F2:=fun x y h=>match x,y with
 | .str z,.int n=>if n.natAbs < 2 ^ 40 /\ z.length * n.toNat <= 1000000 then .ok (.str (repS z n.toNat)) h else .bad
 | _,_=>.bad
theorem yd3 {T : Tb} {X : Cx} : Op T X (binaryOp .Mult) ycj:=by
 refine ⟨_,zgk,fun ι h H x y u w E Q S rx ry p=>?_⟩
 unfold ycj at p
 split at p
 ·split at p
  ·rename_i hz
   obtain ⟨rfl,_,hc⟩:=ybr rx
   rw [yaG ry]
   exact ⟨_,_,rfl,rfl,hz.1,hz.2,p.now S (yhb hz.2 hc)⟩
  ·exact p.elim
 ·exact p.elim
end Sm
namespace L2
open PySem PySem.Spec
theorem Room.m {j k : Nat} {A : Around} (hr : Room k A) (h : Nat.ble j k = true:=by rfl) : Room j A:=hr.mono (Nat.le_of_ble_eq_true h)
end L2
namespace Sm
open PySem PySem.Spec L2
def DK (K : PySem.W.Frag) (x : Str) (st : Stmt) : Prop:=∃ f fd,PySem.W.nsIn K mainGlobals x = some (some (.ref f)) /\ Fun K x x st f fd
def DN (K : PySem.W.Frag) (C : Addr) (m q : Str) (st : Stmt) : Prop:=∃ f fd,Meth K C m f /\ Fun K m q st f fd
def DMm (K : PySem.W.Frag) (cls : Nat -> Option Addr) (c : Nat) (m q : Str) (st : Stmt) (ps : List Str) : Prop:=∃ C f fd,cls c = some C /\ Cls K C /\ Meth K C m f /\ Binds K fd ps [] /\ Fun K m q st f fd
def DI (K : PySem.W.Frag) (cls : Nat -> Option Addr) (mg : Str -> Option Value) (c : Nat) (x q : Str) (st : Stmt) (ps : List Str) : Prop:=∃ C f fd,cls c = some C /\ mg x = some (.ref C) /\ Mk K C f /\ Binds K fd ps [] /\ Fun K "__init__" q st f fd
section
variable {P : Program} {w : World} {K : PySem.W.Frag} {mg : Str -> Option Value} {base h : Heap} {T : Tb} {x m q : Str} {st : Stmt} {f C : Addr} {N ps : List Str} {k c : Nat} {b : SS} {cls : Nat -> Option Addr}
section
variable {oc : Value} {od an : Option Addr} {osl : Array (Option Value)} {kV doc pm cdv ct : Value}
theorem dk (a : PySem.W.nsIn K mainGlobals x = some (some (.ref f))) (l : K.lookup f = some ⟨oc,od,.func (PySem.W.fnOf x x (ycM st) (yb3 st) (yah st) .none kV doc pm an cdv ct),osl⟩)
  (c : PySem.W.codeIn K cdv x = true) (k : PySem.W.keepIn K (.ref f) = true) : DK K x st:=⟨f,_,a,yfo l c k⟩
theorem dn (a : PySem.W.findIn K (.ref C) m = some (some (.ref f))) (i : PySem.W.isFn K (.ref f) = true) (l : K.lookup f = some ⟨oc,od,.func (PySem.W.fnOf m q (ycM st) (yb3 st) (yah st) .none kV doc pm an cdv ct),osl⟩)
  (c : PySem.W.codeIn K cdv q = true) (k : PySem.W.keepIn K (.ref f) = true) : DN K C m q st:=⟨f,_,⟨a,i,k⟩,yfo l c k⟩
end
abbrev BA (x q : Str) (st : Stmt) (us : List Value) (r : List (Str × Value)) : Prop:=∀ (kV doc pm : Value) (an : Option Addr) (cdv ct : Value),bindArgs (PySem.W.fnOf x q (ycM st) (yb3 st) (yah st) .none kV doc pm an cdv ct) ⟨us,[]⟩ = pure r
def BL (x q : Str) (st : Stmt) (ps : List Str) : Prop:=∀ (us : List Value),us.length = ps.length -> BA x q st us (ps.zip us)
theorem bl1 {p1 : Str} (h : ∀ a,BA x q st [a] [(p1,a)]:=by exact fun _ _ _ _ _ _ _=>rfl) : BL x q st [p1]:=fun us e=>by obtain ⟨_,rfl⟩:=el1 e; exact h _
theorem bl2 {p1 p2 : Str} (h : ∀ a b,BA x q st [a,b] [(p1,a),(p2,b)]:=by exact fun _ _ _ _ _ _ _ _=>rfl) : BL x q st [p1,p2]:=fun us e=>by obtain ⟨_,_,rfl⟩:=el2 e; exact h _ _
theorem bl3 {p1 p2 p3 : Str} (h : ∀ a b c,BA x q st [a,b,c] [(p1,a),(p2,b),(p3,c)]:=by exact fun _ _ _ _ _ _ _ _ _=>rfl) : BL x q st [p1,p2,p3]:=fun us e=>by obtain ⟨_,_,_,rfl⟩:=el3 e; exact h _ _ _
theorem bl4 {p1 p2 p3 p4 : Str} (h : ∀ a b c d,BA x q st [a,b,c,d] [(p1,a),(p2,b),(p3,c),(p4,d)]:=by exact fun _ _ _ _ _ _ _ _ _ _=>rfl) : BL x q st [p1,p2,p3,p4]:=fun us e=>by obtain ⟨_,_,_,_,rfl⟩:=el4 e; exact h _ _ _ _
theorem dg (X : K.In h) (G : h.Ns mainGlobals mg) (d : DK K x st) (hb : BL x x st ps) : DG K mg x st ps:=by
 obtain ⟨f,fd,a,F⟩:=d
 exact ⟨f,fd,PySem.W.mg_of X G a,F.kp,F.binds fun _ _ _ _ _ _ us hl=>hb us hl _ _ _ _ _ _,F⟩
theorem dm (hc : cls c = some C) (k : Cls K C) (d : DN K C m q st) (hb : BL m q st ps) : DMm K cls c m q st ps:=by
 obtain ⟨f,fd,M,F⟩:=d
 exact ⟨C,f,fd,hc,k,M,F.binds fun _ _ _ _ _ _ us hl=>hb us hl _ _ _ _ _ _,F⟩
theorem di (hc : cls c = some C) (hx : mg x = some (.ref C)) (mk : PySem.W.makesIn K C = true) (kc : PySem.W.keepIn K (.ref C) = true) (d : DN K C "__init__" q st) (hb : BL "__init__" q st ps) : DI K cls mg c x q st ps:=by
 obtain ⟨f,fd,M,F⟩:=d
 exact ⟨C,f,fd,hc,hx,⟨mk,M.at_,M.fn,kc⟩,F.binds fun _ _ _ _ _ _ us hl=>hb us hl _ _ _ _ _ _,F⟩
theorem dlaw {fa : Addr} {p : Str} (X : K.In h) (G : h.Ns mainGlobals mg) (hfa : mg x = some (.ref fa)) (d : DK K x st) (hb : BL x x st [p]) : ∃ fd : FuncData,(∀ (s : Shared) (v : Value),BindsTo s fd ⟨[v],[]⟩ [(p,v)]) /\ Fun K x x st fa fd:=by
 obtain ⟨f,fd,a,F⟩:=d
 have e:=hfa.symm.trans (PySem.W.mg_of X G a)
 cases e
 refine ⟨fd,fun s v=>?_,F⟩
 obtain ⟨oc,od,kV,doc,pm,an,cdv,ct,osl,rfl,lk,hcd⟩:=F.ex
 exact .of_eq (hb [v] rfl _ _ _ _ _ _)
theorem fsk {sc : Scope} (h1 : sc.kind = .function:=by rfl) (h2 : sc.isCoroutine = false:=by rfl) (h3 : sc.isGenerator = false:=by rfl) (h4 : N.Nodup:=by decide +kernel) (h5 : N.take ps.length = ps:=by rfl)
  (h6 : ∀ x ∈ ps,sc.names.lookup x = some .local \/ sc.names.lookup x = some .cell:=by decide +kernel) (h7 : ∀ y ∈ sc.names,y.2 ≠ .free:=by decide +kernel) : FnScope N ps sc:=⟨h1,h2,h3,h4,h5,h6,h7⟩
abbrev yeI (P : Program) (w : World) (mg : Str -> Option Value) (base : Heap) (T : Tb) (q : Str) (st : Stmt) (f : Addr) (N : List Str) (k : Nat) (b : SS) : Prop :=
 ∀ {cdv : Value} {A : Around} {outer : List Env} {s : Shared} {H : Hp} {E : XK},Room k (A.deeper (PyProof.Rows.envOfC q (yah st) s.heap.objs.size f cdv)) -> CA T (fun _=>E) (cxOf (CXE P w) P w T.K mg base N q (yah st) f cdv A outer s H E) ->
  (A.deeper (PyProof.Rows.envOfC q (yah st) s.heap.objs.size f cdv)).units + 64 < cLine -> N.Nodup -> PSsA T (fun _=>E) (cxOf (CXE P w) P w T.K mg base N q (yah st) f cdv A outer s H E) (yb3 st) b
theorem gf (d : DG T.K mg x st ps) (S : FnScope N ps (yah st)) (hb : ∀ {f},yeI P w mg base T x st f N k b) : GF P w T mg base (k + 1) x (mkFn ps.length N.length b):=by
 obtain ⟨f,fd,h1,h2,h3,h4⟩:=d
 exact ⟨f,fd,_,h1,h2,h3,okA h4 rfl S fun cdv A outer s H E hr C=>hb hr C (hu64 hr) S.nd⟩
theorem gm (d : DMm T.K T.cls c m q st ps) (S : FnScope N ps (yah st)) (no : m ∉ T.fields c) (hb : ∀ {f},yeI P w mg base T q st f N k b) : GM P w T mg base (k + 1) c m (mkFn ps.length N.length b):=by
 obtain ⟨C,f,fd,h0,hc,h1,h3,h4⟩:=d
 exact ⟨⟨C,f,fd,_,h0,hc,h1,h3,okA h4 rfl S fun cdv A outer s H E hr C=>hb hr C (hu64 hr) S.nd⟩,no⟩
theorem gk (d : DI T.K T.cls mg c x q st ps) (S : FnScope N ps (yah st)) (hb : ∀ {f},yeI P w mg base T q st f N k b) : GK P w T mg base (k + 1) c x (mkFn ps.length N.length b):=by
 obtain ⟨C,f,fd,h0,h1,h2,h3,h4⟩:=d
 exact ⟨C,f,fd,_,h0,h1,h2,h3,okA h4 rfl S fun cdv A outer s H E hr C=>hb hr C (hu64 hr) S.nd⟩
theorem gl {f : Addr} {fd : FuncData} (h4 : Fun T.K x x st f fd) (S : FnScope N ps (yah st)) (hb : yeI P w mg base T x st f N k b) : FnOk P w T.K mg base (CXE P w) (k + 1) f fd ps (spA T (mkFn ps.length N.length b)) :=
 okA h4 rfl S fun cdv A outer s H E hr C=>hb hr C (hu64 hr) S.nd
def XI (K : PySem.W.Frag) (X : Addr) : Prop:=PySem.W.excIn K X [.type "ValueError",.type "Exception",.type "BaseException",.type "object"] "ValueError.__new__" = true
theorem xi {X : Addr} (h : PySem.W.excIn K X [.type "ValueError",.type "Exception",.type "BaseException",.type "object"] "ValueError.__new__" = true) : XI K X:=h
theorem gx {X : Addr} {n : Nat} {g : Heap} (KB : K.In g) (KX : K.In h) (G : h.Ns mainGlobals mg) (hc : T.exc n = some X) (e : PySem.W.nsIn K mainGlobals x = some (some (.ref X))) (hx : XI K X) : GX T mg g n x:=⟨X,hc,zhK KB (PySem.W.mg_of KX G e) hx⟩
def KO (K : PySem.W.Frag) (a b : Addr) (v : Bool) : Prop:=PySem.W.kitOne K (.ref a) (.ref b) = some v
theorem ko {a d : Addr} {v : Bool} (h : PySem.W.kitOne K (.ref a) (.ref d) = some v) : KO K a d v:=h
def XO (K : PySem.W.Frag) (a b : Addr) : Prop:=PySem.W.exmOne K (.ref a) (.ref b) = some true
theorem xo {a d : Addr} (h : PySem.W.exmOne K (.ref a) (.ref d) = some true) : XO K a d:=h
def NA (K : PySem.W.Frag) (x : Str) (v : Option Value) : Prop:=PySem.W.nsIn K mainGlobals x = some v
theorem na {v : Option Value} (h : PySem.W.nsIn K mainGlobals x = some v) : NA K x v:=h
def FA (K : PySem.W.Frag) (C : Addr) (x : Str) : Prop:=PySem.W.findIn K (.ref C) x = some none
theorem fatt (h : PySem.W.findIn K (.ref C) x = some none) : FA K C x:=h
end
end Sm
namespace Sk
open PySem PySem.Spec L2 Sm
abbrev ygj : Nat:=0
abbrev yiu : Nat:=1
abbrev yii : Nat:=2
abbrev yfX : Nat:=3
abbrev yff : Nat:=4
abbrev yfg : Nat:=5
abbrev yij : Nat:=6
def ycA (c : Nat) : Bool:=[false,false,true,false,false,false,false].getD c false
def ycB (c : Nat) : Bool:=[false,false,false,false,false,false,true].getD c false
def ycC (c : Nat) : Bool:=[false,false,false,false,false,true,false].getD c false
def yb0 (c : Nat) : Bool:=[true,true,true,true,true,true,true].getD c false
def ybF (c : Nat) : Bool:=[true,true,true,true,true,true,true].getD c false
def ycZ : Fn:=mkFn 2 3
  (sSeq (sSet 2 (sOp2 fMod (sOp2 fMul (sOp2 fAdd (sOp2 fAdd (sOp2 fMod (sVar 0) (sLit (.int 1000000007))) (sOp2 fMul (sLit (.int 7919)) (sVar 1))) (sLit (.int 101))) (sLit (.int 48271))) (sLit (.int 2147483647))))
  (sRet (sOp2 fMod (sOp2 fMul (sOp2 fMod (sOp2 fMul (sVar 2) (sVar 2)) (sLit (.int 2147483629))) (sLit (.int 69621))) (sLit (.int 2147483647)))))
def ybD : SS :=
  (sSet 2 (sOp2 fAdd (sOp2 fMul (sVar 2) (sOp2 fMul (sOp2 fPow (sLit (.int 10)) (sLit (.int 60))) (sOp2 fPow (sLit (.int 10)) (sLit (.int 60))))) (sOp2 fMod (sOp2 fIx (sVar 0) (sVar 3)) (sOp2 fMul (sOp2 fPow (sLit (.int 10)) (sLit (.int 60))) (sOp2 fPow (sLit (.int 10)) (sLit (.int 60)))))))
def ybE : SS :=
  (sSet 4 (sOp2 fAdd (sOp2 fMul (sVar 4) (sLit (.int 2147483647))) (yag ycZ (yaa (sOp2 fAdd (sOp2 fAdd (sVar 2) (sOp2 fMul (sLit (.int 1009)) (sVar 1))) (yag fLen (yaa (sVar 0) sNil))) (yaa (sVar 3) sNil)))))
def ybG : Fn:=mkFn 2 5
  (sSeq (sSet 2 (sLit (.int 0)))
  (sSeq (sFor (yci (sVar 1) (yag fLen (yaa (sVar 0) sNil)) (sLit (.int 8))) (.nm 3) ybD)
  (sSeq (sIf (yaq (sOp2 fGe (sVar 2) (sOp2 fPow (sLit (.int 10)) (sLit (.int 18))))) (sRet (yco (yaa (sVar 2) sNil))) yaz)
  (sSeq (sSet 2 (sOp2 fAdd (sVar 2) (yag fSum (yaa (ycX [] (iVal (sVar 0)) sYes (sOp2 fMod (sVar 0) (sOp2 fPow (sLit (.int 10)) (sLit (.int 18))))) sNil))))
  (sSeq (sSet 4 (sLit (.int 0)))
  (sSeq (sFor (ycg (sLit (.int 16))) (.nm 3) ybE)
  (sRet (yco (yaa (sVar 4) sNil)))))))))
def ybS : Fn:=mkFn 1 1
  (sSeq (ych 0 0 (sVar 0) (yco sNil))
  (sSeq (ych 0 1 (sVar 0) (yf1 true))
  (sSeq (ych 0 2 (sVar 0) (yco (yaa (sLit (.int 0)) sNil)))
  (sSeq (ych 0 3 (sVar 0) (yco (yaa (sLit (.int 0)) sNil)))
  (sSeq (ych 0 4 (sVar 0) (yco (yaa (sLit (.int 0)) sNil)))
  (sSeq (ych 0 5 (sVar 0) (yco (yaa (sOp1 fNeg (sLit (.int 1))) sNil)))
  (sSeq (ych 0 6 (sVar 0) (yco (yaa (sLit (.int 0)) sNil)))
  (ych 0 7 (sVar 0) (yco (yaa (sLit (.int 0)) sNil))))))))))
def yck : Fn:=mkFn 1 1
  (sRet (ycW (sIsB "int" (sVar 0)) (yf2 (sIsB "bool" (sVar 0)))))
def yaK : Fn:=mkFn 2 2
  (sRet (ycW (yag yck (yaa (sVar 1) sNil)) (yd0 fLe fLe (sLit (.int 1)) (sVar 1) (yag fLen (yaa (Sm.sFld 0 0 (sVar 0)) sNil)))))
def yaN : Fn:=mkFn 2 2
  (sIf (sNot (ybW (yao 0 yaK (sVar 0) (yaa (sVar 1) sNil)))) (yb9 2 (yaa (sLit (.str "no piece of the shelf has this number")) sNil)) yaz)
def ya6 : Fn:=mkFn 3 4
  (sSeq (yaT (yao 0 yaN (sVar 0) (yaa (sVar 1) sNil)))
  (sSeq (yaT (yao 0 yaN (sVar 0) (yaa (sVar 2) sNil)))
  (sSeq (sSet 3 (sOp2 fAdd (sOp2 fIx (Sm.sFld 0 2 (sVar 0)) (sOp2 fIx (Sm.sFld 0 7 (sVar 0)) (sVar 1))) (sOp2 fIx (Sm.sFld 0 2 (sVar 0)) (sOp2 fIx (Sm.sFld 0 6 (sVar 0)) (sVar 2)))))
  (sSeq (sIf (yaq (sOp2 fLe (sVar 3) (sLit (.int 8)))) (yb9 3 (yaa (sLit (.str "the leaves where the parts meet have no more than eight signs together")) sNil)) yaz)
  (sSeq (sIf (yaq (sOp2 fGt (yag fAbs (yaa (sOp2 fSub (sOp2 fIx (Sm.sFld 0 5 (sVar 0)) (sVar 1)) (sOp2 fIx (Sm.sFld 0 5 (sVar 0)) (sVar 2))) sNil)) (sLit (.int 1)))) (yb9 4 (yaa (sLit (.str "the heights of the parts differ by more than one")) sNil)) yaz)
  (sIf (yaq (sOp2 fGt (sOp2 fAdd (sOp2 fIx (Sm.sFld 0 2 (sVar 0)) (sVar 1)) (sOp2 fIx (Sm.sFld 0 2 (sVar 0)) (sVar 2))) (sLit (.int 1000000000000000000)))) (yb9 5 (yaa (sLit (.str "the fork would have more than 10 ** 18 signs")) sNil)) yaz))))))
def ycn : Fn:=mkFn 2 3
  (sSeq (yaT (sBM yay yaA (Sm.sFld 0 0 (sVar 0)) (yaa (sVar 1) sNil)))
  (sSeq (sSet 2 (yag fLen (yaa (Sm.sFld 0 0 (sVar 0)) sNil)))
  (sSeq (yeo (Sm.sFld 0 1 (sVar 0)) (sVar 1) (sVar 2))
  (sRet (sVar 2)))))
def ybH : Fn:=mkFn 2 4
  (sSeq (yaT (yao 0 ycn (sVar 0) (yaa (sVar 1) sNil)))
  (sSeq (sSet 2 (sOp2 fIx (sVar 1) (sLit (.int 1))))
  (sSeq (sSet 3 (sOp2 fIx (sVar 1) (sLit (.int 2))))
  (sSeq (yaT (sBM yay yaA (Sm.sFld 0 2 (sVar 0)) (yaa (sOp2 fAdd (sOp2 fIx (Sm.sFld 0 2 (sVar 0)) (sVar 2)) (sOp2 fIx (Sm.sFld 0 2 (sVar 0)) (sVar 3))) sNil)))
  (sSeq (yaT (sBM yay yaA (Sm.sFld 0 3 (sVar 0)) (yaa (sOp2 fAdd (sOp2 fIx (Sm.sFld 0 3 (sVar 0)) (sVar 2)) (sOp2 fIx (Sm.sFld 0 3 (sVar 0)) (sVar 3))) sNil)))
  (sSeq (yaT (sBM yay yaA (Sm.sFld 0 4 (sVar 0)) (yaa (sOp2 fAdd (sOp2 fIx (Sm.sFld 0 4 (sVar 0)) (sVar 2)) (sOp2 fIx (Sm.sFld 0 4 (sVar 0)) (sVar 3))) sNil)))
  (sSeq (yaT (sBM yay yaA (Sm.sFld 0 5 (sVar 0)) (yaa (sOp2 fAdd (yag ybN (yaa (sOp2 fIx (Sm.sFld 0 5 (sVar 0)) (sVar 2)) (yaa (sOp2 fIx (Sm.sFld 0 5 (sVar 0)) (sVar 3)) sNil))) (sLit (.int 1))) sNil)))
  (sSeq (yaT (sBM yay yaA (Sm.sFld 0 6 (sVar 0)) (yaa (sOp2 fIx (Sm.sFld 0 6 (sVar 0)) (sVar 2)) sNil)))
  (yaT (sBM yay yaA (Sm.sFld 0 7 (sVar 0)) (yaa (sOp2 fIx (Sm.sFld 0 7 (sVar 0)) (sVar 3)) sNil)))))))))))
def yae : Fn:=mkFn 3 4
  (sSeq (yaT (yao 0 ya6 (sVar 0) (yaa (sVar 1) (yaa (sVar 2) sNil))))
  (sSeq (sSet 3 (sTup (yaa (sLit (.str "fork")) (yaa (sVar 1) (yaa (sVar 2) sNil)))))
  (sSeq (sIf (yaq (sOp2 yeT (sVar 3) (Sm.sFld 0 1 (sVar 0)))) (yaT (yao 0 ybH (sVar 0) (yaa (sVar 3) sNil))) yaz)
  (sRet (sOp2 fIx (Sm.sFld 0 1 (sVar 0)) (sVar 3))))))
def yec (G : Fn) : Fn:=mkFn 2 3
  (sSeq (sIf (yaq (sOp2 fEq (yag fLen (yaa (sVar 1) sNil)) (sLit (.int 1)))) (sRet (sOp2 fIx (sVar 1) (sLit (.int 0)))) yaz)
  (sSeq (sSet 2 (sOp2 fDiv (yag fLen (yaa (sVar 1) sNil)) (sLit (.int 2))))
  (sRet (yao 0 yae (sVar 0) (yaa (yag G (yaa (sVar 0) (yaa (sCut (sVar 1) none (some (sVar 2))) sNil))) (yaa (yag G (yaa (sVar 0) (yaa (sCut (sVar 1) (some (sVar 2)) none) sNil))) sNil))))))
def ybI : Nat -> Fn
 | 0=>mkFn 2 3 (fun _ _=>.bad)
 | d + 1=>yec (ybI d)
def ybP : Fn:=mkFn 1 1
  (sRet (sOrV (sOp2 fEq (sVar 0) (sLit (.str "\n"))) (yd0 fLe fLe (sLit (.str " ")) (sVar 0) (sLit (.str "~")))))
def ycD : Fn:=mkFn 1 1
  (sSeq (sIf (sNot (ybW (sIsB "str" (sVar 0)))) (sRet (sLit (.bl false))) yaz)
  (sRet (yag fAll (yaa (ycX [] (iVal (sVar 0)) sYes (yag ybP (yaa (sVar 0) sNil))) sNil))))
def ybY : Fn:=mkFn 1 1
  (sRet (ycW (yag ycD (yaa (sVar 0) sNil)) (yd0 fLe fLe (sLit (.int 1)) (yag fLen (yaa (sVar 0) sNil)) (sLit (.int 8)))))
def ydB : Fn:=mkFn 1 1
  (sRet (sBM ye9 yeD (sVar 0) (yaa (sLit (.str "\n")) sNil)))
def ybJ : Fn:=mkFn 2 4
  (sSeq (sSet 2 (yao 0 ycn (sVar 0) (yaa (sVar 1) sNil)))
  (sSeq (sSet 3 (sOp2 fIx (sVar 1) (sLit (.int 1))))
  (sSeq (yaT (sBM yay yaA (Sm.sFld 0 2 (sVar 0)) (yaa (yag fLen (yaa (sVar 3) sNil)) sNil)))
  (sSeq (yaT (sBM yay yaA (Sm.sFld 0 3 (sVar 0)) (yaa (yag ydB (yaa (sVar 3) sNil)) sNil)))
  (sSeq (yaT (sBM yay yaA (Sm.sFld 0 4 (sVar 0)) (yaa (sLit (.int 1)) sNil)))
  (sSeq (yaT (sBM yay yaA (Sm.sFld 0 5 (sVar 0)) (yaa (sLit (.int 0)) sNil)))
  (sSeq (yaT (sBM yay yaA (Sm.sFld 0 6 (sVar 0)) (yaa (sVar 2) sNil)))
  (yaT (sBM yay yaA (Sm.sFld 0 7 (sVar 0)) (yaa (sVar 2) sNil))))))))))
def ya2 : Fn:=mkFn 2 3
  (sSeq (sIf (sNot (ybW (yag ybY (yaa (sVar 1) sNil)))) (yb9 1 (yaa (sLit (.str "a leaf is a plain text of one to eight signs")) sNil)) yaz)
  (sSeq (sSet 2 (sTup (yaa (sLit (.str "leaf")) (yaa (sVar 1) sNil))))
  (sSeq (sIf (yaq (sOp2 yeT (sVar 2) (Sm.sFld 0 1 (sVar 0)))) (yaT (yao 0 ybJ (sVar 0) (yaa (sVar 2) sNil))) yaz)
  (sRet (sOp2 fIx (Sm.sFld 0 1 (sVar 0)) (sVar 2))))))
def ybM : Fn:=mkFn 2 3
  (sSeq (sIf (sNot (ybW (yag ycD (yaa (sVar 1) sNil)))) (yb9 1 (yaa (sLit (.str "a text is built of a plain text")) sNil)) yaz)
  (sSeq (sIf (yaq (sOp2 fGt (yag fLen (yaa (sVar 1) sNil)) (sLit (.int 10000)))) (yb9 5 (yaa (sLit (.str "a text is built of ten thousand signs at most")) sNil)) yaz)
  (sSeq (sIf (yaq (sOp2 fEq (sVar 1) (sLit (.str "")))) (sRet (sLit (.int 0))) yaz)
  (sSeq (sSet 2 (ycX [0,1] (yci (sLit (.int 0)) (yag fLen (yaa (sVar 1) sNil)) (sLit (.int 8))) sYes (yao 0 ya2 (sVar 1) (yaa (sCut (sVar 2) (some (sVar 0)) (some (sOp2 fAdd (sVar 0) (sLit (.int 8))))) sNil))))
  (sRet (yag (ybI 20) (yaa (sVar 0) (yaa (sVar 2) sNil))))))))
def yax : Fn:=mkFn 2 2
  (sIf (yaq (sOp2 fNe (sVar 1) (sLit (.int 0)))) (yaT (yao 0 yaN (sVar 0) (yaa (sVar 1) sNil))) yaz)
def yaS : Fn:=mkFn 2 2
  (sSeq (yaT (yao 0 yax (sVar 0) (yaa (sVar 1) sNil)))
  (sRet (sOp2 fIx (Sm.sFld 0 2 (sVar 0)) (sVar 1))))
def ybT : Fn:=mkFn 1 1
  (sIf (yaq (sOp2 fGt (sVar 0) (sLit (.int 1000000000000000000)))) (yb9 5 (yaa (sLit (.str "the text would have more than 10 ** 18 signs")) sNil)) yaz)
def ybC : Fn:=mkFn 2 2
  (sSeq (yaT (yao 0 yax (sVar 0) (yaa (sVar 1) sNil)))
  (sRet (sOp2 fIx (Sm.sFld 0 7 (sVar 0)) (sVar 1))))
def ybz : Fn:=mkFn 2 2
  (sSeq (yaT (yao 0 yax (sVar 0) (yaa (sVar 1) sNil)))
  (sRet (sOp2 fIx (Sm.sFld 0 6 (sVar 0)) (sVar 1))))
def yc0 : Fn:=mkFn 3 3
  (sRet (sOp2 fGt (sOp2 fAdd (yao 0 yaS (sVar 0) (yaa (yao 0 ybC (sVar 0) (yaa (sVar 1) sNil)) sNil)) (yao 0 yaS (sVar 0) (yaa (yao 0 ybz (sVar 0) (yaa (sVar 2) sNil)) sNil))) (sLit (.int 8))))
def yaH : Fn:=mkFn 2 2
  (sSeq (yaT (yao 0 yaN (sVar 0) (yaa (sVar 1) sNil)))
  (sRet (sOp2 fIx (Sm.sFld 0 0 (sVar 0)) (sOp2 fSub (sVar 1) (sLit (.int 1))))))
def ydD (G : Fn) : Fn:=mkFn 3 4
  (sSeq (sSet 3 (yao 0 yaH (sVar 0) (yaa (sVar 1) sNil)))
  (sSeq (sIf (yaq (sOp2 fEq (sOp2 fIx (sVar 3) (sLit (.int 0))) (sLit (.str "leaf")))) (sRet (sVar 2)) yaz)
  (sRet (yao 0 yae (sVar 0) (yaa (sOp2 fIx (sVar 3) (sLit (.int 1))) (yaa (yag G (yaa (sVar 0) (yaa (sOp2 fIx (sVar 3) (sLit (.int 2))) (yaa (sVar 2) sNil)))) sNil))))))
def ybg : Nat -> Fn
 | 0=>mkFn 3 4 (fun _ _=>.bad)
 | d + 1=>ydD (ybg d)
def yaX : Fn:=mkFn 2 2
  (sSeq (yaT (yao 0 yax (sVar 0) (yaa (sVar 1) sNil)))
  (sRet (sOp2 fIx (Sm.sFld 0 5 (sVar 0)) (sVar 1))))
def yaY : Fn:=mkFn 3 7
  (sSeq (sIf (yaq (sOp2 fLt (sOp2 fSub (yao 0 yaX (sVar 0) (yaa (sVar 2) sNil)) (yao 0 yaX (sVar 0) (yaa (sVar 1) sNil))) (sLit (.int 2)))) (sRet (yao 0 yae (sVar 0) (yaa (sVar 1) (yaa (sVar 2) sNil)))) yaz)
  (sSeq (sSet 3 (yao 0 yaH (sVar 0) (yaa (sVar 2) sNil)))
  (sSeq (sSet 4 (sOp2 fIx (sVar 3) (sLit (.int 1))))
  (sSeq (sSet 5 (sOp2 fIx (sVar 3) (sLit (.int 2))))
  (sSeq (sIf (yaq (sOp2 fLe (yao 0 yaX (sVar 0) (yaa (sVar 4) sNil)) (yao 0 yaX (sVar 0) (yaa (sVar 5) sNil)))) (sRet (yao 0 yae (sVar 0) (yaa (yao 0 yae (sVar 0) (yaa (sVar 1) (yaa (sVar 4) sNil))) (yaa (sVar 5) sNil)))) yaz)
  (sSeq (sSet 6 (yao 0 yaH (sVar 0) (yaa (sVar 4) sNil)))
  (sRet (yao 0 yae (sVar 0) (yaa (yao 0 yae (sVar 0) (yaa (sVar 1) (yaa (sOp2 fIx (sVar 6) (sLit (.int 1))) sNil))) (yaa (yao 0 yae (sVar 0) (yaa (sOp2 fIx (sVar 6) (sLit (.int 2))) (yaa (sVar 5) sNil))) sNil))))))))))
def yb6 (G : Fn) : Fn:=mkFn 2 4
  (sSeq (sSet 2 (yao 0 yaH (sVar 0) (yaa (sVar 1) sNil)))
  (sSeq (sIf (yaq (sOp2 fEq (sOp2 fIx (sVar 2) (sLit (.int 0))) (sLit (.str "leaf")))) (sRet (sLit (.int 0))) yaz)
  (sSeq (sSet 3 (yag G (yaa (sVar 0) (yaa (sOp2 fIx (sVar 2) (sLit (.int 1))) sNil))))
  (sSeq (sIf (yaq (sOp2 fEq (sVar 3) (sLit (.int 0)))) (sRet (sOp2 fIx (sVar 2) (sLit (.int 2)))) yaz)
  (sRet (yag yaY (yaa (sVar 0) (yaa (sVar 3) (yaa (sOp2 fIx (sVar 2) (sLit (.int 2))) sNil)))))))))
def yaE : Nat -> Fn
 | 0=>mkFn 2 4 (fun _ _=>.bad)
 | d + 1=>yb6 (yaE d)
def ya4 : Fn:=mkFn 3 7
  (sSeq (sIf (yaq (sOp2 fLt (sOp2 fSub (yao 0 yaX (sVar 0) (yaa (sVar 1) sNil)) (yao 0 yaX (sVar 0) (yaa (sVar 2) sNil))) (sLit (.int 2)))) (sRet (yao 0 yae (sVar 0) (yaa (sVar 1) (yaa (sVar 2) sNil)))) yaz)
  (sSeq (sSet 3 (yao 0 yaH (sVar 0) (yaa (sVar 1) sNil)))
  (sSeq (sSet 4 (sOp2 fIx (sVar 3) (sLit (.int 1))))
  (sSeq (sSet 5 (sOp2 fIx (sVar 3) (sLit (.int 2))))
  (sSeq (sIf (yaq (sOp2 fLe (yao 0 yaX (sVar 0) (yaa (sVar 5) sNil)) (yao 0 yaX (sVar 0) (yaa (sVar 4) sNil)))) (sRet (yao 0 yae (sVar 0) (yaa (sVar 4) (yaa (yao 0 yae (sVar 0) (yaa (sVar 5) (yaa (sVar 2) sNil))) sNil)))) yaz)
  (sSeq (sSet 6 (yao 0 yaH (sVar 0) (yaa (sVar 5) sNil)))
  (sRet (yao 0 yae (sVar 0) (yaa (yao 0 yae (sVar 0) (yaa (sVar 4) (yaa (sOp2 fIx (sVar 6) (sLit (.int 1))) sNil))) (yaa (yao 0 yae (sVar 0) (yaa (sOp2 fIx (sVar 6) (sLit (.int 2))) (yaa (sVar 2) sNil))) sNil))))))))))
def ydR (G : Fn) : Fn:=mkFn 3 5
  (sSeq (sSet 3 (sOp2 fSub (yao 0 yaX (sVar 0) (yaa (sVar 1) sNil)) (yao 0 yaX (sVar 0) (yaa (sVar 2) sNil))))
  (sSeq (sIf (yaq (sOp2 fGt (sVar 3) (sLit (.int 1)))) (sSeq (sSet 4 (yao 0 yaH (sVar 0) (yaa (sVar 1) sNil)))
  (sRet (yag yaY (yaa (sVar 0) (yaa (sOp2 fIx (sVar 4) (sLit (.int 1))) (yaa (yag G (yaa (sVar 0) (yaa (sOp2 fIx (sVar 4) (sLit (.int 2))) (yaa (sVar 2) sNil)))) sNil)))))) yaz)
  (sSeq (sIf (yaq (sOp2 fLt (sVar 3) (sOp1 fNeg (sLit (.int 1))))) (sSeq (sSet 4 (yao 0 yaH (sVar 0) (yaa (sVar 2) sNil)))
  (sRet (yag ya4 (yaa (sVar 0) (yaa (yag G (yaa (sVar 0) (yaa (sVar 1) (yaa (sOp2 fIx (sVar 4) (sLit (.int 1))) sNil)))) (yaa (sOp2 fIx (sVar 4) (sLit (.int 2))) sNil)))))) yaz)
  (sRet (yao 0 yae (sVar 0) (yaa (sVar 1) (yaa (sVar 2) sNil)))))))
def ybf : Nat -> Fn
 | 0=>mkFn 3 5 (fun _ _=>.bad)
 | d + 1=>ydR (ybf d)
def ycr : Fn:=mkFn 3 6
  (sSeq (sSet 3 (sOp2 fAdd (sOp2 fIx (yao 0 yaH (sVar 0) (yaa (yao 0 ybC (sVar 0) (yaa (sVar 1) sNil)) sNil)) (sLit (.int 1))) (sOp2 fIx (yao 0 yaH (sVar 0) (yaa (yao 0 ybz (sVar 0) (yaa (sVar 2) sNil)) sNil)) (sLit (.int 1)))))
  (sSeq (sSet 4 (yag (ybg 90) (yaa (sVar 0) (yaa (sVar 1) (yaa (yao 0 ya2 (sVar 0) (yaa (sVar 3) sNil)) sNil)))))
  (sSeq (sSet 5 (yag (yaE 90) (yaa (sVar 0) (yaa (sVar 2) sNil))))
  (sSeq (sIf (yaq (sOp2 fEq (sVar 5) (sLit (.int 0)))) (sRet (sVar 4)) yaz)
  (sRet (yag (ybf 90) (yaa (sVar 0) (yaa (sVar 4) (yaa (sVar 5) sNil)))))))))
def yaU : Fn:=mkFn 3 3
  (sSeq (yaT (yag ybT (yaa (sOp2 fAdd (yao 0 yaS (sVar 0) (yaa (sVar 1) sNil)) (yao 0 yaS (sVar 0) (yaa (sVar 2) sNil))) sNil)))
  (sSeq (sIf (yaq (sOp2 fEq (sVar 1) (sLit (.int 0)))) (sRet (sVar 2)) yaz)
  (sSeq (sIf (yaq (sOp2 fEq (sVar 2) (sLit (.int 0)))) (sRet (sVar 1)) yaz)
  (sSeq (sIf (ybW (yag yc0 (yaa (sVar 0) (yaa (sVar 1) (yaa (sVar 2) sNil))))) (sRet (yag (ybf 90) (yaa (sVar 0) (yaa (sVar 1) (yaa (sVar 2) sNil))))) yaz)
  (sRet (yag ycr (yaa (sVar 0) (yaa (sVar 1) (yaa (sVar 2) sNil)))))))))
def ydC (G : Fn) : Fn:=mkFn 3 5
  (sSeq (sIf (yaq (sOp2 fEq (sVar 2) (sLit (.int 0)))) (sRet (sLit (.int 0))) yaz)
  (sSeq (sSet 3 (yag G (yaa (sVar 0) (yaa (sVar 1) (yaa (sOp2 fDiv (sVar 2) (sLit (.int 2))) sNil)))))
  (sSeq (sSet 4 (yag yaU (yaa (sVar 0) (yaa (sVar 3) (yaa (sVar 3) sNil)))))
  (sSeq (sIf (yaq (sOp2 fEq (sOp2 fMod (sVar 2) (sLit (.int 2))) (sLit (.int 0)))) (sRet (sVar 4)) yaz)
  (sRet (yag yaU (yaa (sVar 0) (yaa (sVar 4) (yaa (sVar 1) sNil)))))))))
def ya7 : Nat -> Fn
 | 0=>mkFn 3 5 (fun _ _=>.bad)
 | d + 1=>ydC (ya7 d)
def ybn : Fn:=mkFn 3 4
  (sSeq (sSet 3 (yao 0 yaS (sVar 0) (yaa (sVar 1) sNil)))
  (sSeq (sIf (yaq (sOp2 fLt (sVar 2) (sLit (.int 0)))) (yb9 6 (yaa (sLit (.str "a text is repeated 0 times at least")) sNil)) yaz)
  (sSeq (yaT (yag ybT (yaa (sOp2 fMul (sVar 3) (sVar 2)) sNil)))
  (sSeq (sIf (yaq (sOp2 fEq (sVar 1) (sLit (.int 0)))) (sRet (sLit (.int 0))) yaz)
  (sRet (yag (ya7 64) (yaa (sVar 0) (yaa (sVar 1) (yaa (sVar 2) sNil)))))))))
def ycb : Fn:=mkFn 1 1
  (sRet (yag fLen (yaa (Sm.sFld 0 0 (sVar 0)) sNil)))
def ybi : Fn:=mkFn 2 3
  (sSeq (sSet 2 (sOp2 fMod (sOp2 fIx (sVar 0) (sLit (.int 0))) (sVar 1)))
  (sSeq (yeo (sVar 0) (sLit (.int 0)) (sOp2 fDiv (sOp2 fIx (sVar 0) (sLit (.int 0))) (sVar 1)))
  (sRet (sVar 2))))
def ybA : SS :=
  (sSet 3 (sOp2 fAdd (sVar 3) (sOp2 fIx (sVar 2) (yag ybi (yaa (sVar 0) (yaa (yag fLen (yaa (sVar 2) sNil)) sNil))))))
def yb4 : Fn:=mkFn 2 5
  (sSeq (sSet 2 (sOp2 fIx (sLst (yaa (sLit (.str "ab")) (yaa (sLit (.str "aaab")) (yaa (sLit (.str "a\n")) (yaa (sLit (.str "ab \n")) (yaa (sLit (.str "abcdefghijklmnopqrstuvwxyz 0123456789.,~\n")) sNil)))))) (yag ybi (yaa (sVar 0) (yaa (sLit (.int 5)) sNil)))))
  (sSeq (sSet 3 (sLit (.str "")))
  (sSeq (sFor (ycg (yag ybi (yaa (sVar 0) (yaa (sOp2 fAdd (sVar 1) (sLit (.int 1))) sNil)))) (.nm 4) ybA)
  (sRet (sVar 3)))))
def yaW : Fn:=mkFn 2 2
  (sSeq (yaT (yao 0 yax (sVar 0) (yaa (sVar 1) sNil)))
  (sRet (sIfE (yaq (sOp2 fEq (sVar 1) (sLit (.int 0)))) (sLst sNil) (yco (yaa (sVar 1) sNil)))))
def ybb : Fn:=mkFn 2 2
  (sSeq (sIf (ybW (sIsB "str" (sVar 1))) (sRet (yag fLen (yaa (sVar 1) sNil))) yaz)
  (sRet (yao 0 yaS (sVar 0) (yaa (sVar 1) sNil))))
def ya8 : Fn:=mkFn 3 4
  (sSeq (sIf (ybW (sIsB "str" (sVar 2))) (sRet (sLit (.bl false))) yaz)
  (sSeq (sSet 3 (yao 0 yaH (sVar 0) (yaa (sVar 2) sNil)))
  (sSeq (sIf (yaq (sOp2 fEq (sOp2 fIx (sVar 3) (sLit (.int 0))) (sLit (.str "leaf")))) (sRet (sLit (.bl false))) yaz)
  (sSeq (yaT (sBM yay yaA (sVar 1) (yaa (sOp2 fIx (sVar 3) (sLit (.int 2))) sNil)))
  (sSeq (yaT (sBM yay yaA (sVar 1) (yaa (sOp2 fIx (sVar 3) (sLit (.int 1))) sNil)))
  (sRet (sLit (.bl true))))))))
def yaR : SS :=
  (sSeq (sSet 2 (sBM0 yay mPop (sVar 1)))
  (sSeq (sIf (ybW (sIsB "str" (sVar 2))) (sRet (sVar 2)) yaz)
  (sIf (sNot (ybW (yag ya8 (yaa (sVar 0) (yaa (sVar 1) (yaa (sVar 2) sNil)))))) (sRet (sOp2 fIx (yao 0 yaH (sVar 0) (yaa (sVar 2) sNil)) (sLit (.int 1)))) yaz)))
def ybl : Fn:=mkFn 2 3
  (sSeq (yar (yaq (sOp2 fNe (sVar 1) (sLst sNil))) yaR yaQ)
  (sRet (sLit (.str ""))))
def ybQ : Fn:=mkFn 2 2
  (sIf (yaq (sOp2 fNe (sVar 1) (sLit (.str "")))) (yaT (sBM yay yaA (sVar 0) (yaa (sVar 1) sNil))) yaz)
def ybK : SS :=
  (sSet 5 (sOp2 fAdd (sVar 5) (sLit (.int 1))))
def ybU : Fn:=mkFn 3 6
  (sSeq (sSet 3 (yag ybl (yaa (sVar 0) (yaa (sVar 1) sNil))))
  (sSeq (sSet 4 (yag ybl (yaa (sVar 0) (yaa (sVar 2) sNil))))
  (sSeq (sSet 5 (sLit (.int 0)))
  (sSeq (yar (sAnd (yaq (sOp2 fLt (sVar 5) (yag ybO (yaa (yag fLen (yaa (sVar 3) sNil)) (yaa (yag fLen (yaa (sVar 4) sNil)) sNil))))) (yaq (sOp2 fEq (sOp2 fIx (sVar 3) (sVar 5)) (sOp2 fIx (sVar 4) (sVar 5))))) ybK yaQ)
  (sSeq (yaT (yag ybQ (yaa (sVar 1) (yaa (sCut (sVar 3) (some (sVar 5)) none) sNil))))
  (sSeq (yaT (yag ybQ (yaa (sVar 2) (yaa (sCut (sVar 4) (some (sVar 5)) none) sNil))))
  (sRet (sCut (sVar 3) none (some (sVar 5))))))))))
def ya5 : SS :=
  (sSeq (sSet 3 (sOp2 fLt (yag ybb (yaa (sVar 0) (yaa (sOp2 fIx (sVar 1) (sOp1 fNeg (sLit (.int 1)))) sNil))) (yag ybb (yaa (sVar 0) (yaa (sOp2 fIx (sVar 2) (sOp1 fNeg (sLit (.int 1)))) sNil)))))
  (sSeq (sSet 4 (sIfE (ybW (sVar 3)) (sVar 2) (sVar 1)))
  (sSeq (sSet 5 (sBM0 yay mPop (sVar 4)))
  (sIf (sNot (ybW (yag ya8 (yaa (sVar 0) (yaa (sVar 4) (yaa (sVar 5) sNil)))))) (sSeq (yaT (sBM yay yaA (sVar 4) (yaa (sVar 5) sNil)))
  (sRet (yag ybU (yaa (sVar 0) (yaa (sVar 1) (yaa (sVar 2) sNil)))))) yaz))))
def ya9 : Fn:=mkFn 3 6
  (sSeq (yar (yaq (sOp2 fNe (sOp2 fIx (sVar 1) (sOp1 fNeg (sLit (.int 1)))) (sOp2 fIx (sVar 2) (sOp1 fNeg (sLit (.int 1)))))) ya5 yaQ)
  (sSeq (yaT (sBM0 yay mPop (sVar 2)))
  (sRet (sBM0 yay mPop (sVar 1)))))
def yaD : SS :=
  (sSeq (sSet 4 (yag ya9 (yaa (sVar 0) (yaa (sVar 1) (yaa (sVar 2) sNil)))))
  (sSeq (sIf (yaq (sOp2 fEq (sVar 4) (sLit (.str "")))) yfw yaz)
  (yaT (sBM yay yaA (sVar 3) (yaa (sVar 4) sNil)))))
def ybx : Fn:=mkFn 3 5
  (sSeq (sSet 3 (yco sNil))
  (sSeq (yar (sAnd (yaq (sOp2 fNe (sVar 1) (sLst sNil))) (yaq (sOp2 fNe (sVar 2) (sLst sNil)))) yaD yaQ)
  (sRet (sVar 3))))
def ybh : Fn:=mkFn 2 2
  (sRet (sCut (yag ybl (yaa (sVar 0) (yaa (sVar 1) sNil))) none (some (sLit (.int 1)))))
def yaj : Fn:=mkFn 3 7
  (sSeq (sSet 3 (yag ybN (yaa (yao 0 yaS (sVar 0) (yaa (sVar 1) sNil)) (yaa (yao 0 yaS (sVar 0) (yaa (sVar 2) sNil)) sNil))))
  (sSeq (sIf (sAnd (yaq (sOp2 fNe (sVar 1) (sVar 2))) (yaq (sOp2 fGt (sVar 3) (sLit (.int 10000))))) (yb9 5 (yaa (sLit (.str "unlike texts of more than ten thousand signs are not held together")) sNil)) yaz)
  (sSeq (sSet 4 (yag yaW (yaa (sVar 0) (yaa (sVar 1) sNil))))
  (sSeq (sSet 5 (yag yaW (yaa (sVar 0) (yaa (sVar 2) sNil))))
  (sSeq (sSet 6 (yag ybx (yaa (sVar 0) (yaa (sVar 4) (yaa (sVar 5) sNil)))))
  (sSeq (sIf (sAnd (yaq (sOp2 fEq (sVar 4) (sLst sNil))) (yaq (sOp2 fEq (sVar 5) (sLst sNil)))) (sRet (sTup (yaa (sLit (.str "alike")) (yaa (sVar 6) sNil)))) yaz)
  (sRet (sTup (yaa (sLit (.str "apart")) (yaa (sVar 6) (yaa (yag ybh (yaa (sVar 0) (yaa (sVar 4) sNil))) (yaa (yag ybh (yaa (sVar 0) (yaa (sVar 5) sNil))) sNil))))))))))))
def yaF : SS :=
  (sSeq (sSet 3 (sBM0 yay mPop (sVar 1)))
  (sSeq (sIf (yaq (sOp2 fEq (sVar 3) (sVar 2))) (sRet (sLit (.bl true))) yaz)
  (sIf (sNot (ybW (yag ya8 (yaa (sVar 0) (yaa (sVar 1) (yaa (sVar 3) sNil)))))) (sRet (sLit (.bl false))) yaz)))
def ybo : Fn:=mkFn 3 4
  (sSeq (yar (yaq (sOp2 fNe (sVar 1) (sLst sNil))) yaF yaQ)
  (sRet (sLit (.bl false))))
def yaJ : SS :=
  (sSeq (sSet 4 (yag ybl (yaa (sVar 0) (yaa (sVar 1) sNil))))
  (sSeq (sSet 5 (yag ybO (yaa (yag fLen (yaa (sVar 4) sNil)) (yaa (yag fLen (yaa (sVar 3) sNil)) sNil))))
  (sSeq (sIf (sOr (yaq (sOp2 fEq (sVar 5) (sLit (.int 0)))) (yaq (sOp2 fNe (sCut (sVar 4) none (some (sVar 5))) (sCut (sVar 3) none (some (sVar 5)))))) (sRet (sLit (.bl false))) yaz)
  (sSeq (yaT (yag ybQ (yaa (sVar 1) (yaa (sCut (sVar 4) (some (sVar 5)) none) sNil))))
  (sSet 3 (sCut (sVar 3) (some (sVar 5)) none))))))
def ybu : Fn:=mkFn 3 6
  (sSeq (sSet 3 (sVar 2))
  (sSeq (yar (yaq (sOp2 fNe (sVar 3) (sLit (.str "")))) yaJ yaQ)
  (sRet (sLit (.bl true)))))
def yaZ : Fn:=mkFn 3 3
  (sSeq (sIf (ybW (yao 0 yaK (sVar 0) (yaa (sVar 2) sNil))) (sRet (yag ybo (yaa (sVar 0) (yaa (sVar 1) (yaa (sVar 2) sNil))))) yaz)
  (sRet (ycW (yag ybY (yaa (sVar 2) sNil)) (yag ybu (yaa (sVar 0) (yaa (sVar 1) (yaa (sVar 2) sNil)))))))
def yau : SS :=
  (sIf (sNot (ybW (yag yaZ (yaa (sVar 0) (yaa (sVar 3) (yaa (sVar 4) sNil)))))) (sRet (sLit .non)) yaz)
def yaM : Fn:=mkFn 3 5
  (sSeq (sSet 3 (yag yaW (yaa (sVar 0) (yaa (sVar 1) sNil))))
  (sSeq (sFor (iVal (sVar 2)) (.nm 4) yau)
  (sRet (sVar 3))))
def yal : Fn:=mkFn 4 7
  (sSeq (sSet 4 (yag yaM (yaa (sVar 0) (yaa (sVar 1) (yaa (sOp2 fIx (sVar 3) (sLit (.int 1))) sNil)))))
  (sSeq (sSet 5 (yag yaM (yaa (sVar 0) (yaa (sVar 2) (yaa (sOp2 fIx (sVar 3) (sLit (.int 1))) sNil)))))
  (sSeq (sIf (sOr (yaq (sOp2 fIsN (sVar 4) (sLit .non))) (yaq (sOp2 fIsN (sVar 5) (sLit .non)))) (sRet (sLit (.bl false))) yaz)
  (sSeq (sIf (yaq (sOp2 fEq (sOp2 fIx (sVar 3) (sLit (.int 0))) (sLit (.str "alike")))) (sRet (ycW (sOp2 fEq (yag fLen (yaa (sVar 3) sNil)) (sLit (.int 2))) (ycW (sOp2 fEq (sVar 4) (sLst sNil)) (sOp2 fEq (sVar 5) (sLst sNil))))) yaz)
  (sSeq (sSet 6 (sTup (yaa (yag ybh (yaa (sVar 0) (yaa (sVar 4) sNil))) (yaa (yag ybh (yaa (sVar 0) (yaa (sVar 5) sNil))) sNil))))
  (sRet (ycW (sOp2 fEq (sOp2 fIx (sVar 3) (sLit (.int 0))) (sLit (.str "apart"))) (ycW (sOp2 fEq (sCut (sVar 3) (some (sLit (.int 2))) none) (sVar 6)) (sOp2 fNe (sOp2 fIx (sVar 6) (sLit (.int 0))) (sOp2 fIx (sVar 6) (sLit (.int 1))))))))))))
def yas : Fn:=mkFn 4 6
  (sSeq (sSet 4 (sLst sNil))
  (sSeq (sTry 5 ybF (sIf (yaq (sOp2 fEq (sVar 3) (sLit (.int 0)))) (yaT (yag yaj (yaa (sVar 0) (yaa (sVar 1) (yaa (sVar 2) sNil))))) (sIf (yaq (sOp2 fEq (sVar 3) (sLit (.int 1)))) (yaT (yag yal (yaa (sVar 0) (yaa (sVar 1) (yaa (sVar 2) (yaa (sTup (yaa (sLit (.str "alike")) (yaa (sLst sNil) sNil))) sNil)))))) (yaT (yag yal (yaa (sVar 0) (yaa (sVar 1) (yaa (sVar 2) (yaa (sTup (yaa (sLit (.str "apart")) (yaa (sLst sNil) (yaa (sLit (.str "")) (yaa (sLit (.str "a")) sNil))))) sNil)))))))) (sSet 4 (sLst (yaa (sIsX ycA (sVar 5)) (yaa (sIsX ycC (sVar 5)) (yaa (sIsX yb0 (sVar 5)) (yaa (sIsX ycB (sVar 5)) sNil)))))))
  (sRet (sVar 4))))
def ycP : SS :=
  (sIf (yaq (sOp2 fNe (yag yas (yaa (sVar 2) (yaa (sOp2 fIx (sVar 13) (sLit (.int 0))) (yaa (sOp2 fIx (sVar 13) (sLit (.int 1))) (yaa (sVar 12) sNil))))) (sLst (yaa (sLit (.bl true)) (yaa (sLit (.bl false)) (yaa (sLit (.bl true)) (yaa (sLit (.bl false)) sNil))))))) (sRet (sLit (.bl false))) yaz)
def ydN : SS :=
  (sFor (iVal (sLst (yaa (sTup (yaa (sVar 11) (yaa (sVar 3) sNil))) (yaa (sTup (yaa (sVar 3) (yaa (sVar 11) sNil))) (yaa (sTup (yaa (sVar 11) (yaa (sLit (.int 0)) sNil))) (yaa (sTup (yaa (sLit (.int 0)) (yaa (sVar 11) sNil))) (yaa (sTup (yaa (sVar 11) (yaa (sVar 11) sNil))) (yaa (sTup (yaa (sVar 11) (yaa (sVar 8) sNil))) (yaa (sTup (yaa (sVar 7) (yaa (sVar 11) sNil))) sNil))))))))) (.nm 13) ycP)
def ycu : SS :=
  (sFor (ycg (sLit (.int 3))) (.nm 12) ydN)
def yd9 : SS :=
  (sIf (yaq (sOp2 fNe (yag yas (yaa (sVar 2) (yaa (sOp2 fIx (sVar 13) (sLit (.int 0))) (yaa (sOp2 fIx (sVar 13) (sLit (.int 1))) (yaa (sVar 12) sNil))))) (sLst sNil))) (sRet (sLit (.bl false))) yaz)
def ycv : SS :=
  (sSeq (sIf (yaq (sOp2 fNe (yag yas (yaa (sVar 2) (yaa (sOp2 fIx (sVar 13) (sLit (.int 0))) (yaa (sOp2 fIx (sVar 13) (sLit (.int 1))) (yaa (sLit (.int 0)) sNil))))) (sLst (yaa (sLit (.bl false)) (yaa (sLit (.bl true)) (yaa (sLit (.bl true)) (yaa (sLit (.bl false)) sNil))))))) (sRet (sLit (.bl false))) yaz)
  (sFor (iVal (sLst (yaa (sLit (.int 1)) (yaa (sLit (.int 2)) sNil)))) (.nm 12) yd9))
def ydO : SS :=
  (sIf (yaq (sOp2 fNe (yag yas (yaa (sVar 2) (yaa (sOp2 fIx (sVar 13) (sLit (.int 0))) (yaa (sOp2 fIx (sVar 13) (sLit (.int 1))) (yaa (sVar 12) sNil))))) (sLst sNil))) (sRet (sLit (.bl false))) yaz)
def ycQ : SS :=
  (sFor (ycg (sLit (.int 3))) (.nm 12) ydO)
def yfh : Fn:=mkFn 1 14
  (sSeq (sSet 1 (yag ybG (yaa (sVar 0) (yaa (sLit (.int 0)) sNil))))
  (sSeq (sSet 2 (yen 0 8 ybS sNil))
  (sSeq (sSet 3 (yag ybM (yaa (sVar 2) (yaa (sOp2 fAdd (sLit (.str "x")) (yag yb4 (yaa (sVar 1) (yaa (sLit (.int 30)) sNil)))) sNil))))
  (sSeq (sSet 4 (sOp2 fIx (sLit (.str "abc\n~ ")) (yag ybi (yaa (sVar 1) (yaa (sLit (.int 6)) sNil)))))
  (sSeq (sSet 5 (yag ybn (yaa (sVar 2) (yaa (yag ybM (yaa (sVar 2) (yaa (sOp2 ycj (sVar 4) (sLit (.int 10))) sNil))) (yaa (sLit (.int 1000)) sNil)))))
  (sSeq (sSet 6 (yag yaU (yaa (sVar 2) (yaa (yag ybM (yaa (sVar 2) (yaa (sOp2 ycj (sVar 4) (sLit (.int 3))) sNil))) (yaa (yag ybn (yaa (sVar 2) (yaa (yag ybM (yaa (sVar 2) (yaa (sOp2 ycj (sVar 4) (sLit (.int 7))) sNil))) (yaa (sLit (.int 999)) sNil)))) sNil)))))
  (sSeq (sSet 6 (yag yaU (yaa (sVar 2) (yaa (sVar 6) (yaa (yag ybM (yaa (sVar 2) (yaa (sOp2 ycj (sVar 4) (sLit (.int 3004))) sNil))) sNil)))))
  (sSeq (sSet 7 (yag yaU (yaa (sVar 2) (yaa (sVar 5) (yaa (yag ybM (yaa (sVar 2) (yaa (sLit (.str "z")) sNil))) sNil)))))
  (sSeq (sSet 8 (yag ybn (yaa (sVar 2) (yaa (yag ybM (yaa (sVar 2) (yaa (sOp2 ycj (sVar 4) (sLit (.int 10))) sNil))) (yaa (sOp2 fPow (sLit (.int 10)) (sLit (.int 17))) sNil)))))
  (sSeq (sSet 9 (yao 0 ycb (sVar 2) sNil))
  (sSeq (sSet 10 (sOp2 fMod (yag fSum (yaa (sVar 0) sNil)) (sOp2 fPow (sLit (.int 10)) (sLit (.int 28)))))
  (sSeq (sFor (iVal (sLst (yaa (sOp1 fNeg (sLit (.int 1))) (yaa (sOp2 fAdd (sVar 9) (sLit (.int 1))) (yaa (sOp2 fAdd (sOp2 fAdd (sVar 9) (sLit (.int 1))) (sVar 10)) (yaa (sOp2 fSub (sOp1 fNeg (sLit (.int 1))) (sVar 10)) sNil)))))) (.nm 11) ycu)
  (sSeq (sFor (iVal (sLst (yaa (sTup (yaa (sVar 7) (yaa (sVar 3) sNil))) (yaa (sTup (yaa (sVar 3) (yaa (sVar 7) sNil))) (yaa (sTup (yaa (sVar 8) (yaa (sVar 7) sNil))) (yaa (sTup (yaa (sVar 7) (yaa (sVar 5) sNil))) (yaa (sTup (yaa (sVar 8) (yaa (sLit (.int 0)) sNil))) (yaa (sTup (yaa (sLit (.int 0)) (yaa (sVar 7) sNil))) sNil)))))))) (.nm 13) ycv)
  (sSeq (sFor (iVal (sLst (yaa (sTup (yaa (sVar 7) (yaa (sVar 7) sNil))) (yaa (sTup (yaa (sVar 8) (yaa (sVar 8) sNil))) (yaa (sTup (yaa (sVar 5) (yaa (sVar 6) sNil))) (yaa (sTup (yaa (sVar 6) (yaa (sVar 5) sNil))) (yaa (sTup (yaa (sVar 5) (yaa (sVar 3) sNil))) (yaa (sTup (yaa (sLit (.int 0)) (yaa (sVar 5) sNil))) sNil)))))))) (.nm 13) ycQ)
  (sSeq (sIf (sOr (yaq (sOp2 fNe (sOp2 fIx (yag yaj (yaa (sVar 2) (yaa (sVar 8) (yaa (sVar 8) sNil)))) (sLit (.int 0))) (sLit (.str "alike")))) (yaq (sOp2 fNe (sOp2 fIx (yag yaj (yaa (sVar 2) (yaa (sVar 5) (yaa (sVar 6) sNil)))) (sLit (.int 0))) (sLit (.str "alike"))))) (sRet (sLit (.bl false))) yaz)
  (sRet (ycW (sOp2 fEq (yao 0 ycb (sVar 2) sNil) (sVar 9)) (sOp2 fEq (sOp2 fIx (yag yaj (yaa (sVar 2) (yaa (sVar 5) (yaa (sLit (.int 0)) sNil)))) (sLit (.int 0))) (sLit (.str "apart"))))))))))))))))))))
end Sk
set_option exponentiation.threshold 2000
namespace Sk
open PySem PySem.Spec L2 Sm
theorem zfx {w : Option Nat} {all : List AV} {t : Tg} {b : SS} (P : Nat -> En -> AH -> Prop) : ∀ (xs : List AV) (i : Nat) (en : En) (h : AH),P i en h ->
  (∀ i en h,P i en h -> ybX w all h = true) ->
  (∀ (j : Nat) (x : AV) (en : En) (h : AH),xs[j]? = some x -> P (i + j) en h -> ∃ e1 e2 h2,setT t x en = some e1 /\ (b e1 h = .nx e2 h2 \/ b e1 h = .ct e2 h2) /\ P (i + j + 1) e2 h2) ->
  ∃ e' h',ya3 w all t b xs en h = .nx e' h' /\ P (i + xs.length) e' h'
 | [],i,en,h,p,lv,_=>⟨en,h,by unfold ya3; rw [if_pos (lv _ _ _ p)],p⟩
 | x :: xs,i,en,h,p,lv,s=>by
  obtain ⟨e1,e2,h2,q1,q2,q3⟩:=s 0 x en h rfl p
  obtain ⟨e',h',r1,r2⟩:=zfx P xs (i + 1) e2 h2 q3 lv fun j y en h e q=>by
   have:=s (j + 1) y en h (by simpa using e) (by rw [show i + (j + 1) = i + 1 + j by lia]; exact q)
   rw [show i + (j + 1) + 1 = i + 1 + j + 1 by lia] at this
   exact this
  refine ⟨e',h',?_,by rw [List.length_cons,show i + (xs.length + 1) = i + 1 + xs.length by lia]; exact r2⟩
  unfold ya3
  rw [if_pos (lv _ _ _ p)]
  simp only [q1]
  rcases q2 with q2 | q2
  ·rw [q2]; exact r1
  ·rw [q2]; exact r1
theorem zb9 {α : Type} {js : List Nat} {en : En} {w : Option Nat} {all : List AV} {c : SB} {e : SE} {g f : α -> AV} {p : α -> Bool} {h : AH} (lv : ybX w all h = true) : ∀ (cs : List α) (ys : List AV),(∀ x ∈ cs,c (some (g x) :: js.map fun j=>(en[j]?).join) h = .ok (p x) h) -> (∀ x ∈ cs,p x = true -> e (some (g x) :: js.map fun j=>(en[j]?).join) h = .ok (f x) h) -> ys.length + cs.length <= sizeLine ->
  ybc js en w all c e (cs.map g) ys h = .ok (ys++(cs.filter p).map f) h
 | [],ys,_,_,_=>by rw [List.map_nil]; unfold ybc; rw [if_pos lv]; simp
 | x :: xs,ys,hc,he,hl=>by
  have hl' : ys.length < sizeLine:=by simp at hl; lia
  rw [List.map_cons]
  unfold ybc
  rw [if_pos ⟨lv,hl'⟩,hc x (by simp)]
  cases hp : p x with
  | false =>
   dsimp only
   rw [zb9 lv xs ys (fun y hy=>hc y (by simp [hy])) (fun y hy=>he y (by simp [hy])) (by simp at hl ⊢; lia)]
   simp [List.filter_cons,hp]
  | true =>
   dsimp only
   rw [he x (by simp) hp]
   dsimp only
   rw [zb9 lv xs (ys++[f x]) (fun y hy=>hc y (by simp [hy])) (fun y hy=>he y (by simp [hy])) (by simp at hl ⊢; lia)]
   simp [List.filter_cons,hp]
theorem zhQ {α : Type} {js : List Nat} {en : En} {w : Option Nat} {all : List AV} {e : SE} {g f : α -> AV} {h : AH} (lv : ybX w all h = true) (cs : List α) (ys : List AV) (he : ∀ x ∈ cs,e (some (g x) :: js.map fun j=>(en[j]?).join) h = .ok (f x) h) (hl : ys.length + cs.length <= sizeLine) :
  ybc js en w all sYes e (cs.map g) ys h = .ok (ys++cs.map f) h:=by
 rw [zb9 (p:=fun _=>true) lv cs ys (fun _ _=>rfl) (fun x hx _=>he x hx) hl,List.filter_eq_self.mpr (fun _ _=>rfl)]
theorem zdS {c : SB} {b : SS} (P : Nat -> En -> AH -> Prop) (Q : En -> AH -> Prop) : ∀ (fuel n : Nat) (en : En) (h : AH),P n en h -> n < fuel ->
  (∀ n en h,P n en h -> (∃ h1,c en h = .ok false h1 /\ Q en h1) \/ (∃ n' h1 e2 h2,n' < n /\ c en h = .ok true h1 /\ (b en h1 = .nx e2 h2 \/ b en h1 = .ct e2 h2) /\ P n' e2 h2)) ->
  ∃ e' h',yar c b fuel en h = .nx e' h' /\ Q e' h'
 | 0,n,en,h,_,l,_=>absurd l (Nat.not_lt_zero _)
 | fuel + 1,n,en,h,p,l,s=>by
  rcases s n en h p with ⟨h1,q1,q2⟩ | ⟨n',h1,e2,h2,q0,q1,q2,q3⟩
  ·refine ⟨en,h1,?_,q2⟩
   unfold yar; rw [q1]
  ·obtain ⟨e',h',r1,r2⟩:=zdS P Q fuel n' e2 h2 q3 (by lia) s
   refine ⟨e',h',?_,r2⟩
   unfold yar; rw [q1]
   rcases q2 with q2 | q2
   ·simp only [q2]; exact r1
   ·simp only [q2]; exact r1
@[simp] def thn (o : OutS) (Q : En -> AH -> Prop) : Prop:=match o with
 | .nx e h=>Q e h
 | .ct e h=>Q e h
 | _=>False
theorem yfG {o : OutS} {Q : En -> AH -> Prop} (t : thn o Q) : ∃ e h,(o = .nx e h \/ o = .ct e h) /\ Q e h:=by
 cases o with
 | nx e h=>exact ⟨e,h,.inl rfl,t⟩
 | ct e h=>exact ⟨e,h,.inr rfl,t⟩
 | _=>exact t.elim
@[simp] def yhc (o : Option En) (Q : En -> Prop) : Prop:=match o with
 | some e=>Q e
 | none=>False
theorem ydk {w : Option Nat} {all : List AV} {t : Tg} {b : SS} {xs : List AV} {en : En} {h : AH} (P : Nat -> En -> AH -> Prop) (p0 : P 0 en h) (lv : ∀ i en h,P i en h -> ybX w all h = true)
  (st : ∀ (j : Nat) (x : AV) (en : En) (h : AH),xs[j]? = some x -> P j en h -> yhc (setT t x en) fun e1=>thn (b e1 h) (P (j + 1))) :
  ∃ e' h',ya3 w all t b xs en h = .nx e' h' /\ P xs.length e' h' := by
 have:=zfx (w:=w) (all:=all) (t:=t) (b:=b) P xs 0 en h p0 lv fun j x en h hx hp=>by
  have q:=st j x en h hx (by simpa using hp)
  cases z : setT t x en with
  | none=>rw [z] at q; exact q.elim
  | some e1 =>
   rw [z] at q
   obtain ⟨e,h2,a,c⟩:=yfG q
   exact ⟨e1,e,h2,rfl,a,by simpa using c⟩
 simpa using this
theorem zfy {c : SB} {b : SS} {fuel n : Nat} {en : En} {h : AH} (P : Nat -> En -> AH -> Prop) (Q : En -> AH -> Prop) (p0 : P n en h) (hn : n < fuel)
  (st : ∀ n en h,P n en h -> match c en h with
   | .ok true h1=>thn (b en h1) fun e2 h2=>∃ n',n' < n /\ P n' e2 h2
   | .ok false h1=>Q en h1
   | _=>False) :
  ∃ e' h',yar c b fuel en h = .nx e' h' /\ Q e' h' := by
 refine zdS P Q fuel n en h p0 hn fun n en h p=>?_
 have q:=st n en h p
 cases z : c en h with
 | ok x h1 =>
  rw [z] at q
  cases x with
  | true =>
   obtain ⟨e,h2,a,n',l,c⟩:=yfG q
   exact .inr ⟨n',h1,e,h2,l,rfl,a,c⟩
  | false=>exact .inl ⟨h1,rfl,q⟩
 | ex _ _=>rw [z] at q; exact q.elim
 | bad=>rw [z] at q; exact q.elim
@[simp] def yik (o : Out AV) (Q : AV -> AH -> Prop) : Prop:=match o with
 | .ok v h=>Q v h
 | _=>False
theorem zfz {js : List Nat} {en : En} {all : List AV} {e : SE} (P : Nat -> List AV -> AH -> Prop) : ∀ (xs ys : List AV) (i : Nat) (h : AH),P i ys h ->
  (∀ j x ys h,xs[j]? = some x -> P (i + j) ys h -> ∃ v h2,e (some x :: js.map fun j=>(en[j]?).join) h = .ok v h2 /\ P (i + j + 1) (ys++[v]) h2) -> ys.length + xs.length <= sizeLine ->
  ∃ zs h',ybc js en none all sYes e xs ys h = .ok zs h' /\ P (i + xs.length) zs h'
 | [],ys,i,h,p,_,_=>⟨ys,h,by simp [ybc],p⟩
 | x :: xs,ys,i,h,p,s,hl=>by
  obtain ⟨v,h2,q1,q2⟩:=s 0 x ys h rfl p
  obtain ⟨zs,h',r1,r2⟩:=zfz P xs (ys++[v]) (i + 1) h2 q2 (fun j y ys h hy hp=>by
   have:=s (j + 1) y ys h (by simpa using hy) (by rw [show i + (j + 1) = i + 1 + j by lia]; exact hp)
   rw [show i + (j + 1) + 1 = i + 1 + j + 1 by lia] at this
   exact this) (by simp at hl ⊢; lia)
  refine ⟨zs,h',?_,by rw [List.length_cons,show i + (xs.length + 1) = i + 1 + xs.length by lia]; exact r2⟩
  unfold ybc
  rw [if_pos ⟨rfl,by simp at hl; lia⟩]
  simp only [sYes]
  rw [q1]
  exact r1
theorem yhd {js : List Nat} {en : En} {all : List AV} {e : SE} {xs : List AV} {h : AH} (P : Nat -> List AV -> AH -> Prop) (p0 : P 0 [] h)
  (st : ∀ j x ys h,xs[j]? = some x -> P j ys h -> yik (e (some x :: js.map fun j=>(en[j]?).join) h) fun v h2=>P (j + 1) (ys++[v]) h2) (hl : xs.length <= sizeLine) :
  ∃ zs h',ybc js en none all sYes e xs [] h = .ok zs h' /\ P xs.length zs h' := by
 have:=zfz (js:=js) (en:=en) (all:=all) (e:=e) P xs [] 0 h p0 (fun j x ys h hx p=>by
  have q:=st j x ys h hx (by simpa using p)
  cases z : e (some x :: js.map fun j=>(en[j]?).join) h with
  | ok v h2=>rw [z] at q; exact ⟨v,h2,rfl,by simpa using q⟩
  | ex _ _=>rw [z] at q; exact q.elim
  | bad=>rw [z] at q; exact q.elim) (by simpa using hl)
 simpa using this
theorem zdT : ∀ (n : Nat) (lo : Int) (i : Nat),(ybk lo n)[i]? = if i < n then some (.int (lo + i)) else none
 | 0,lo,i=>by simp [ybk]
 | n + 1,lo,0=>by simp [ybk]
 | n + 1,lo,i + 1=>by
  unfold ybk
  rw [List.getElem?_cons_succ,zdT n (lo + 1) i]
  by_cases q : i < n
  ·rw [if_pos q,if_pos (by lia)]; congr 2; lia
  ·rw [if_neg q,if_neg (by lia)]
theorem zbM : ∀ (n : Nat) (lo : Int),(ybk lo n).length = n
 | 0,_=>rfl
 | n + 1,lo=>by unfold ybk; rw [List.length_cons,zbM n]
theorem zbp {a : SE} {en : En} {h h1 : AH} {n : Nat} (e : a en h = .ok (.int n) h1) (hn : n <= 10000000) : ycg a en h = .ok (ybk 0 n,none) h1:=by
 have h1' : (n : Int).natAbs < 2 ^ 62:=by lia
 simp only [ycg,e,Out.bind]
 rw [if_pos h1']; rfl
theorem ybV {it : SI} {t : Tg} {b : SS} {en : En} {h h1 : AH} {xs : List AV} {w : Option Nat} (e : it en h = .ok (xs,w) h1) : sFor it t b en h = ya3 w xs t b xs en h1:=by simp only [sFor,e]
theorem yhe {i j : Int} {h : AH} (hi : i.natAbs < 2 ^ 64) : fMul (.int i) (.int j) h = .ok (.int (i * j)) h:=if_pos (.inl (.inl hi))
theorem yfH {i j : Int} {h : AH} (hj : j.natAbs < 2 ^ 64) : fMul (.int i) (.int j) h = .ok (.int (i * j)) h:=if_pos (.inl (.inr hj))
theorem zhR {α : Type} {f : α -> AV} {l : List α} {j : Nat} {q : α} (e : l[j]? = some q) : atI (l.map f) (j : Int) = some (f q):=zba (by simp [e])
end Sk
set_option exponentiation.threshold 5000
namespace Sk
open PySem PySem.Spec L2 Sm
def ydo (c : Nat) : Bool:=decide (c = 10) || (decide (32 <= c) && decide (c <= 126))
theorem lt1 (a b : Nat) : ([a] < [b]) ↔ a < b:=by
 simp [List.cons_lt_cons_iff]
theorem yfI : (Str.ofString "\n") = ⟨#[10]⟩:=by decide +kernel
theorem yhf : (Str.ofString " ") = ⟨#[32]⟩:=by decide +kernel
theorem yhg : (Str.ofString "~") = ⟨#[126]⟩:=by decide +kernel
theorem yhh (c : Nat) (h : AH) : ybP [.str ⟨#[c]⟩] h = .ok (.bl (ydo c)) h:=by
 simp [ybP,yfI,yhf,yhg,lt1,ydo]
 by_cases h1 : c = 10
 ·simp [h1]
 ·by_cases h2 : c < 32
  ·have : ¬ 32 <= c:=by lia
   simp [h1,h2,this]
  ·have h3 : 32 <= c:=by lia
   by_cases h4 : c <= 126
   ·have : ¬ 126 < c:=by lia
    simp [h1,h2,h3,h4,this]
   ·have : 126 < c:=by lia
    simp [h1,h2,h3,h4,this]
theorem zex {α : Type} {js : List Nat} {en : En} {all : List AV} {e : SE} {g f : α -> AV} {h : AH} : ∀ (cs : List α) (ys : List AV),(∀ c ∈ cs,e (some (g c) :: js.map fun j=>(en[j]?).join) h = .ok (f c) h) -> ys.length + cs.length <= sizeLine -> ybc js en none all sYes e (cs.map g) ys h = .ok (ys++cs.map f) h
 | [],ys,_,_=>by simp [ybc]
 | x :: xs,ys,he,hl=>by
  have hl' : ys.length < sizeLine:=by simp at hl; lia
  rw [List.map_cons]
  unfold ybc
  rw [if_pos ⟨rfl,hl'⟩]
  simp only [sYes]
  rw [he x (by simp)]
  dsimp only
  rw [zex xs (ys++[f x]) (fun y hy=>he y (by simp [hy])) (by simp at hl ⊢; lia)]
  simp
theorem zdU (f : Nat -> Bool) : ∀ cs : List Nat,ydL (cs.map fun c=>.bl (f c)) = some (cs.map f)
 | []=>rfl
 | c :: cs=>by simp [zdU f cs]
def yaC (x : Str) : Bool:=x.cps.toList.all ydo
theorem zfA (x : Str) (h : AH) (hl : x.length <= sizeLine) : ycD [.str x] h = .ok (.bl (yaC x)) h:=by
 have e:=zex (js:=[]) (en:=[some (.str x)]) (all:=x.cps.toList.map fun c=>AV.str ⟨#[c]⟩) (e:=yag ybP (yaa (sVar 0) sNil)) (g:=fun c=>AV.str ⟨#[c]⟩) (f:=fun c=>AV.bl (ydo c)) (h:=h) x.cps.toList [] (by
  intro c hc
  simp [yhh]) (by simp; exact hl)
 simp only [List.nil_append] at e
 simp [ycD]
 rw [e]
 simp [zdU,yaC]
def ybp (x : Str) : Bool:=yaC x && (decide (1 <= x.length) && decide (x.length <= 8))
theorem zcl (x : Str) (h : AH) (hl : x.length <= sizeLine) : ybY [.str x] h = .ok (.bl (ybp x)) h:=by
 simp [ybY,zfA x h hl,ybp]
 by_cases h1 : yaC x = true
 ·by_cases h2 : 1 <= x.length
  ·have : (1 : Int) <= x.length:=by lia
   by_cases h3 : x.length <= 8
   ·have : (x.length : Int) <= 8:=by lia
    simp [*]
   ·have : ¬ (x.length : Int) <= 8:=by lia
    simp [*]
  ·have : ¬ (1 : Int) <= x.length:=by lia
   simp [*]
 ·simp [h1]
def ydl (x : Str) : Nat:=(Builtin.Str.occurrences x ⟨#[10]⟩ 0 x.length (x.length + 1)).length
theorem yhi (x : Str) (h : AH) : ydB [.str x] h = .ok (.int (ydl x)) h:=by
 simp [ydB,yfI,ydl]
theorem zi2 (i : Int) (h : AH) : yck [.int i] h = .ok (.bl true) h:=by
 simp [yck]
inductive Pc where
 | leaf (x : Str)
 | fork (a b : Nat)
 deriving DecidableEq
def Pc.av : Pc -> AV
 | .leaf x=>.tup [.str "leaf",.str x]
 | .fork a b=>.tup [.str "fork",.int a,.int b]
theorem Pc.av_inj : ∀ {p q : Pc},p.av = q.av -> p = q
 | .leaf x,.leaf y,e=>by simp [Pc.av] at e; rw [e]
 | .leaf x,.fork a b,e=>by simp [Pc.av] at e
 | .fork a b,.leaf x,e=>by simp [Pc.av] at e
 | .fork a b,.fork c d,e=>by simp [Pc.av] at e; rw [Int.ofNat.inj e.1,Int.ofNat.inj e.2]
structure Ms where
 sg : Nat
 en : Nat
 lv : Nat
 ht : Int
 fl : Nat
 ll : Nat
def ms0 : Ms:=⟨0,0,0,-1,0,0⟩
def ycE (ms : List Ms) : Pc -> Ms
 | .leaf x=>⟨x.length,ydl x,1,0,ms.length,ms.length⟩
 | .fork a b=>⟨(ms.getD a ms0).sg + (ms.getD b ms0).sg,(ms.getD a ms0).en + (ms.getD b ms0).en,(ms.getD a ms0).lv + (ms.getD b ms0).lv,max (ms.getD a ms0).ht (ms.getD b ms0).ht + 1,(ms.getD a ms0).fl,(ms.getD b ms0).ll⟩
def meas (ps : List Pc) : List Ms:=ps.foldl (fun ms q=>ms++[ycE ms q]) [ms0]
theorem zca (ps : List Pc) (q : Pc) : meas (ps++[q]) = meas ps++[ycE (meas ps) q]:=by simp [meas]
theorem zao : ∀ ps : List Pc,(meas ps).length = ps.length + 1:=by
 have all : ∀ (ps : List Pc) (ms : List Ms),(ps.foldl (fun ms q=>ms++[ycE ms q]) ms).length = ms.length + ps.length:=by
  intro ps
  induction ps with
  | nil=>intro ms; rfl
  | cons q r ih=>intro ms; rw [List.foldl_cons,ih]; simp; lia
 intro ps
 rw [meas,all]; simp; lia
def yby (k : Nat) : List Pc -> List (AV × AV)
 | []=>[]
 | q :: r=>(q.av,.int k) :: yby (k + 1) r
def tab (ps : List Pc) : List (AV × AV):=yby 1 ps
theorem zaW (q : Pc) : ∀ (ps : List Pc) (k : Nat),yby k (ps++[q]) = yby k ps++[(q.av,.int ((k + ps.length : Nat) : Int))]
 | [],k=>by simp [yby]
 | p :: r,k=>by
  simp only [List.cons_append,yby,zaW q r (k + 1)]
  rw [show k + 1 + r.length = k + (p :: r).length by simp; lia]
theorem zfB : ∀ (ps : List Pc) (k : Nat),(yby k ps).length = ps.length
 | [],_=>rfl
 | p :: r,k=>by simp [yby,zfB r]
theorem zbN {q : Pc} : ∀ {ps : List Pc} {k : Nat},q ∉ ps -> valA (yby k ps) q.av = none
 | [],k,_=>rfl
 | p :: r,k,h=>by
  have h1 : ¬ p.av = q.av:=fun e=>h (by rw [Pc.av_inj e]; simp)
  have h2:=zbN (q:=q) (ps:=r) (k:=k + 1) fun z=>h (by simp [z])
  unfold valA at h2 ⊢
  simp only [yby,List.find?_cons,decide_eq_false h1]
  exact h2
theorem zcL {q : Pc} : ∀ {ps : List Pc} {k i : Nat},ps.Nodup -> ps[i]? = some q -> valA (yby k ps) q.av = some (.int ((k + i : Nat) : Int))
 | [],k,i,_,e=>by simp at e
 | p :: r,k,0,n,e=>by simp at e; subst e; simp [valA,yby]
 | p :: r,k,i + 1,n,e=>by
  simp at e
  have h1 : ¬ p.av = q.av:=fun z=>(List.nodup_cons.mp n).1 (by rw [Pc.av_inj z]; exact List.mem_of_getElem? e)
  have h2:=zcL (q:=q) (k:=k + 1) (List.nodup_cons.mp n).2 e
  unfold valA at h2 ⊢
  simp only [yby,List.find?_cons,decide_eq_false h1]
  rw [h2]
  congr 3
  lia
theorem zi3 {q : Pc} {ps : List Pc} (h : q ∉ ps) : putA (tab ps) q.av (.int ((ps.length + 1 : Nat) : Int)) = tab (ps++[q]):=by
 unfold putA
 rw [zfr,tab,zbN h,tab,zaW]
 simp [Nat.add_comm]
structure ShelfAt (h : AH) (p : Nat) (ps : List Pc) : Prop where
 ob : h[p]? = some (.ins 0 [some (.ref (p + 1)),some (.ref (p + 2)),some (.ref (p + 3)),some (.ref (p + 4)),some (.ref (p + 5)),some (.ref (p + 6)),some (.ref (p + 7)),some (.ref (p + 8))])
 h1 : h[p + 1]? = some (.lst (ps.map Pc.av))
 h2 : h[p + 2]? = some (.dct true (tab ps))
 h3 : h[p + 3]? = some (.lst ((meas ps).map fun m=>.int m.sg))
 h4 : h[p + 4]? = some (.lst ((meas ps).map fun m=>.int m.en))
 h5 : h[p + 5]? = some (.lst ((meas ps).map fun m=>.int m.lv))
 h6 : h[p + 6]? = some (.lst ((meas ps).map fun m=>.int m.ht))
 h7 : h[p + 7]? = some (.lst ((meas ps).map fun m=>.int m.fl))
 h8 : h[p + 8]? = some (.lst ((meas ps).map fun m=>.int m.ll))
def yb7 (h : AH) (p : Nat) (ps : List Pc) : AH :=
 (((((((h.set (p + 1) (.lst (ps.map Pc.av))).set (p + 2) (.dct true (tab ps))).set (p + 3) (.lst ((meas ps).map fun m=>.int m.sg))).set (p + 4) (.lst ((meas ps).map fun m=>.int m.en))).set (p + 5) (.lst ((meas ps).map fun m=>.int m.lv))).set
  (p + 6) (.lst ((meas ps).map fun m=>.int m.ht))).set (p + 7) (.lst ((meas ps).map fun m=>.int m.fl))).set (p + 8) (.lst ((meas ps).map fun m=>.int m.ll))
theorem yaL {h : AH} {i : Nat} {o : AO} (e : h[i]? = some o) : i < h.length:=(List.getElem?_eq_some_iff.mp e).1
theorem zdV (h : AH) (p : Nat) (ps : List Pc) : (yb7 h p ps).length = h.length:=by simp [yb7]
theorem zey {h : AH} {p q : Nat} {ps : List Pc} (hq : q <= p \/ p + 8 < q) : (yb7 h p ps)[q]? = h[q]? := by
 unfold yb7
 repeat rw [List.getElem?_set_ne (by lia)]
theorem zbO {h : AH} {p : Nat} {ps ps' : List Pc} (S : ShelfAt h p ps) : ShelfAt (yb7 h p ps') p ps' := by
 have b:=yaL S.h8
 have l1 : p + 1 < h.length:=Nat.lt_of_le_of_lt (Nat.add_le_add_left (by decide) p) b
 have l2 : p + 2 < h.length:=Nat.lt_of_le_of_lt (Nat.add_le_add_left (by decide) p) b
 have l3 : p + 3 < h.length:=Nat.lt_of_le_of_lt (Nat.add_le_add_left (by decide) p) b
 have l4 : p + 4 < h.length:=Nat.lt_of_le_of_lt (Nat.add_le_add_left (by decide) p) b
 have l5 : p + 5 < h.length:=Nat.lt_of_le_of_lt (Nat.add_le_add_left (by decide) p) b
 have l6 : p + 6 < h.length:=Nat.lt_of_le_of_lt (Nat.add_le_add_left (by decide) p) b
 have l7 : p + 7 < h.length:=Nat.lt_of_le_of_lt (Nat.add_le_add_left (by decide) p) b
 have ob:=S.ob
 constructor<;>simp [yb7,List.getElem?_set,l1,l2,l3,l4,l5,l6,l7,b,ob,-List.getElem?_eq_getElem]
theorem lenA {α : Type} (l : List α) (f : α -> AV) : (l.map f).length = l.length:=by simp
theorem yfJ {h : AH} {p : Nat} {ps : List Pc} (S : ShelfAt h p ps) : ycb [.ref p] h = .ok (.int ps.length) h:=by
 simp [ycb,S.ob,S.h1]
theorem yev {h : AH} {p : Nat} {ps : List Pc} {i : Int} (S : ShelfAt h p ps) : yaK [.ref p,.int i] h = .ok (.bl (decide (1 <= i /\ i <= ps.length))) h:=by
 simp [yaK,zi2,S.ob,S.h1]
 by_cases h1 : 1 <= i<;>simp [h1]
theorem zbP {h : AH} {p : Nat} {ps : List Pc} {i : Int} (S : ShelfAt h p ps) (hi : 1 <= i /\ i <= ps.length) : yaN [.ref p,.int i] h = .ok .non h:=by
 simp [yaN,yev S,S.ob,hi.1,hi.2]
theorem zah {α : Type} {f : α -> AV} {l : List α} {j : Nat} {q : α} (e : l[j]? = some q) : atI (l.map f) (j : Int) = some (f q):=zba (by simp [e])
theorem zi4 {h : AH} {p : Nat} {ps : List Pc} {j : Nat} {q : Pc} (S : ShelfAt h p ps) (e : ps[j]? = some q) : yaH [.ref p,.int ((j : Int) + 1)] h = .ok q.av h:=by
 have hj:=(List.getElem?_eq_some_iff.mp e).1
 have h1:=zbP S (i:=(j : Int) + 1) ⟨by lia,by lia⟩
 simp [yaH,h1,S.ob,S.h1,zah e]
theorem yf7 {h : AH} {p : Nat} {ps : List Pc} {q : Pc} (S : ShelfAt h p ps) (hq : q ∉ ps) (hl : ps.length < 16000000) :
  ycn [.ref p,q.av] h = .ok (.int ((ps.length + 1 : Nat) : Int)) ((h.set (p + 1) (.lst ((ps++[q]).map Pc.av))).set (p + 2) (.dct true (tab (ps++[q])))):=by
 have b:=yaL S.h8
 have hs : ps.length < sizeLine:=Nat.lt_trans hl (by decide)
 have ht : (tab ps).length < sizeLine:=by rw [tab,zfB]; exact hs
 have hk : ydg true q.av = true:=by cases q<;>simp [Pc.av]
 have e1 : (h.set (p + 1) (.lst (ps.map Pc.av++[q.av])))[p]? = h[p]? := List.getElem?_set_ne (by lia)
 have e2 : (h.set (p + 1) (.lst (ps.map Pc.av++[q.av])))[p + 1]? = some (.lst (ps.map Pc.av++[q.av])):=List.getElem?_set_self (by lia)
 have e3 : (h.set (p + 1) (.lst (ps.map Pc.av++[q.av])))[p + 2]? = h[p + 2]? := List.getElem?_set_ne (by lia)
 have tp:=zi3 hq
 simp [ycn,S.ob,S.h1,hs,e1,e2,e3,S.h2,hk,ht,-ydg]
 rw [show ((ps.length : Int) + 1) = ((ps.length + 1 : Nat) : Int) by simp,tp]
theorem zg3 {h : AH} {p : Nat} {ps : List Pc} {x : Str} (S : ShelfAt h p ps) (hq : Pc.leaf x ∉ ps) (hl : ps.length < 16000000) :
  ybJ [.ref p,(Pc.leaf x).av] h = .ok .non (yb7 h p (ps++[.leaf x])):=by
 have b:=yaL S.h8
 have hs : ps.length + 1 < sizeLine:=Nat.lt_of_lt_of_le (Nat.succ_lt_succ hl) (by decide)
 have hm : (meas ps).length < sizeLine:=by rw [zao]; exact hs
 have e:=yf7 S hq hl
 have b2 : ((meas ps).length : Int) = (ps.length : Int) + 1:=by rw [zao]; simp
 have e2 : fIx (Pc.leaf x).av (.int 1) = fun h=>Out.ok (.str x) h:=by funext h; rfl
 have l1 : p + 1 < h.length:=by lia
 have l2 : p + 2 < h.length:=by lia
 have l3 : p + 3 < h.length:=by lia
 have l4 : p + 4 < h.length:=by lia
 have l5 : p + 5 < h.length:=by lia
 have l6 : p + 6 < h.length:=by lia
 have l7 : p + 7 < h.length:=by lia
 simp [ybJ,e,S.ob,S.h3,S.h4,S.h5,S.h6,S.h7,S.h8,hm,yhi,List.getElem?_set,zca,ycE,yb7,e2,zao,hs,-fIx,-List.getElem?_eq_getElem]
theorem zfC {α : Type} {l : List α} {i : Nat} {d x : α} (e : l[i]? = some x) : l.getD i d = x:=by simp [List.getD,e]
theorem zg4 {h : AH} {p : Nat} {ps : List Pc} {a b : Nat} {ma mb : Ms} (S : ShelfAt h p ps) (hq : Pc.fork a b ∉ ps) (hl : ps.length < 16000000) (ha : (meas ps)[a]? = some ma) (hb : (meas ps)[b]? = some mb) :
  ybH [.ref p,(Pc.fork a b).av] h = .ok .non (yb7 h p (ps++[.fork a b])):=by
 have bb:=yaL S.h8
 have hs : ps.length + 1 < sizeLine:=Nat.lt_of_lt_of_le (Nat.succ_lt_succ hl) (by decide)
 have hm : (meas ps).length < sizeLine:=by rw [zao]; exact hs
 have e:=yf7 S hq hl
 have e2 : fIx (Pc.fork a b).av (.int 1) = fun h=>Out.ok (.int a) h:=by funext h; rfl
 have e3 : fIx (Pc.fork a b).av (.int 2) = fun h=>Out.ok (.int b) h:=by funext h; rfl
 have l1 : p + 1 < h.length:=by lia
 have l2 : p + 2 < h.length:=by lia
 have l3 : p + 3 < h.length:=by lia
 have l4 : p + 4 < h.length:=by lia
 have l5 : p + 5 < h.length:=by lia
 have l6 : p + 6 < h.length:=by lia
 have l7 : p + 7 < h.length:=by lia
 have fx : ∀ (n : Nat) (g : Ms -> AV) (h' : AH),h'[n]? = some (.lst ((meas ps).map g)) -> fIx (.ref n) (.int a) h' = .ok (g ma) h' /\ fIx (.ref n) (.int b) h' = .ok (g mb) h' := fun n g h' e=>by
  simp [fIx,e,zah ha,zah hb]
 have f3:=fun (h' : AH) (e : h'[p + 3]? = some (.lst ((meas ps).map fun m=>.int m.sg)))=>fx _ _ h' e
 have f4:=fun (h' : AH) (e : h'[p + 4]? = some (.lst ((meas ps).map fun m=>.int m.en)))=>fx _ _ h' e
 have f5:=fun (h' : AH) (e : h'[p + 5]? = some (.lst ((meas ps).map fun m=>.int m.lv)))=>fx _ _ h' e
 have f6:=fun (h' : AH) (e : h'[p + 6]? = some (.lst ((meas ps).map fun m=>.int m.ht)))=>fx _ _ h' e
 have f7:=fun (h' : AH) (e : h'[p + 7]? = some (.lst ((meas ps).map fun m=>.int m.fl)))=>fx _ _ h' e
 have f8:=fun (h' : AH) (e : h'[p + 8]? = some (.lst ((meas ps).map fun m=>.int m.ll)))=>fx _ _ h' e
 have hmax : ∀ i j : Int,(if j > i then j else i) = max i j:=fun i j=>by split<;>lia
 simp [ybH,e,S.ob,S.h3,S.h4,S.h5,S.h6,S.h7,S.h8,hm,List.getElem?_set,zca,ycE,yb7,e2,e3,zao,hs,zah ha,zah hb,zfC ha,zfC hb,-fIx,-List.getElem?_eq_getElem,-List.getD_eq_getElem?_getD,f3,f4,f5,f6,f7,f8,hmax]
theorem zbQ {h : AH} {p : Nat} {ps : List Pc} {x : Str} {i : Nat} (S : ShelfAt h p ps) (nd : ps.Nodup) (hx : ybp x = true) (hl : x.length <= sizeLine) (e : ps[i]? = some (.leaf x)) : ya2 [.ref p,.str x] h = .ok (.int ((i + 1 : Nat) : Int)) h:=by
 have t:=zcL (k:=1) nd e
 have t' : valA (tab ps) (.tup [.str "leaf",.str x]) = some (.int ((i + 1 : Nat) : Int)):=by rw [Nat.add_comm]; exact t
 simp [ya2,zcl x h hl,hx,S.ob,S.h2,t']
theorem zgo {h : AH} {p : Nat} {ps : List Pc} {x : Str} (S : ShelfAt h p ps) (hx : ybp x = true) (hl : x.length <= sizeLine) (hq : Pc.leaf x ∉ ps) (hz : ps.length < 16000000) : ya2 [.ref p,.str x] h = .ok (.int ((ps.length + 1 : Nat) : Int)) (yb7 h p (ps++[.leaf x])):=by
 have t : valA (tab ps) (.tup [.str "leaf",.str x]) = none:=zbN (q:=.leaf x) (k:=1) hq
 have S2:=zbO (ps' := ps++[.leaf x]) S
 have e:=zg3 S hq hz
 have t2 : valA (tab (ps++[.leaf x])) (.tup [.str "leaf",.str x]) = some (.int ((ps.length + 1 : Nat) : Int)):=by
  unfold tab
  rw [zaW]
  unfold valA at t ⊢
  rw [List.find?_append]
  have t3 : (yby 1 ps).find? (fun p=>decide (p.1 = .tup [.str "leaf",.str x])) = none:=by simpa [tab] using t
  rw [t3]
  simp [Pc.av,Nat.add_comm]
 have e' : ybJ [.ref p,.tup [.str "leaf",.str x]] h = .ok .non (yb7 h p (ps++[.leaf x])):=e
 simp [ya2,zcl x h hl,hx,S.ob,S.h2,t,e',S2.ob,S2.h2,t2]
theorem zhS {h : AH} {p : Nat} {ps : List Pc} {a b : Nat} {ma mb la fb : Ms} (S : ShelfAt h p ps) (ha : (meas ps)[a]? = some ma) (hb : (meas ps)[b]? = some mb) (pa : 1 <= a) (pb : 1 <= b) (hla : (meas ps)[ma.ll]? = some la) (hfb : (meas ps)[mb.fl]? = some fb) :
  ya6 [.ref p,.int a,.int b] h = if la.sg + fb.sg <= 8 then .ex yfX h else if 1 < (ma.ht - mb.ht).natAbs then .ex yff h else if 1000000000000000000 < ma.sg + mb.sg then .ex yfg h else .ok .non h:=by
 have la_:=(List.getElem?_eq_some_iff.mp ha).1
 have lb_:=(List.getElem?_eq_some_iff.mp hb).1
 rw [zao] at la_ lb_
 have c1:=zbP S (i:=(a : Int)) ⟨by lia,by lia⟩
 have c2:=zbP S (i:=(b : Int)) ⟨by lia,by lia⟩
 by_cases d1 : la.sg + fb.sg <= 8
 ·have d1' : ((la.sg : Int) + fb.sg) <= 8:=by lia
  simp [ya6,c1,c2,S.ob,S.h3,S.h5,S.h6,S.h7,S.h8,zah ha,zah hb,zah hla,zah hfb,d1,d1']
 ·have d1' : ¬ ((la.sg : Int) + fb.sg) <= 8:=by lia
  by_cases d2 : 1 < (ma.ht - mb.ht).natAbs
  ·have d2' : (1 : Int) < (if ma.ht - mb.ht < 0 then -(ma.ht - mb.ht) else ma.ht - mb.ht):=by split<;>lia
   simp [ya6,c1,c2,S.ob,S.h3,S.h5,S.h6,S.h7,S.h8,zah ha,zah hb,zah hla,zah hfb,d1,d1',d2,d2',-Int.neg_sub]
  ·have d2' : ¬ (1 : Int) < (if ma.ht - mb.ht < 0 then -(ma.ht - mb.ht) else ma.ht - mb.ht):=by split<;>lia
   by_cases d3 : 1000000000000000000 < ma.sg + mb.sg
   ·have d3' : (1000000000000000000 : Int) < (ma.sg : Int) + mb.sg:=by lia
    simp [ya6,c1,c2,S.ob,S.h3,S.h5,S.h6,S.h7,S.h8,zah ha,zah hb,zah hla,zah hfb,d1,d1',d2,d2',d3,d3',-Int.neg_sub]
   ·have d3' : ¬ (1000000000000000000 : Int) < (ma.sg : Int) + mb.sg:=by lia
    simp [ya6,c1,c2,S.ob,S.h3,S.h5,S.h6,S.h7,S.h8,zah ha,zah hb,zah hla,zah hfb,d1,d1',d2,d2',d3,d3',-Int.neg_sub]
structure ForkOk (ps : List Pc) (a b : Nat) : Prop where
 pa : 1 <= a
 pb : 1 <= b
 ex : ∃ ma mb la fb,(meas ps)[a]? = some ma /\ (meas ps)[b]? = some mb /\ (meas ps)[ma.ll]? = some la /\ (meas ps)[mb.fl]? = some fb /\ 8 < la.sg + fb.sg /\ (ma.ht - mb.ht).natAbs <= 1 /\ ma.sg + mb.sg <= 1000000000000000000
theorem zcD {h : AH} {p : Nat} {ps : List Pc} {a b : Nat} (S : ShelfAt h p ps) (F : ForkOk ps a b) : ya6 [.ref p,.int a,.int b] h = .ok .non h:=by
 obtain ⟨ma,mb,la,fb,h1,h2,h3,h4,h5,h6,h7⟩:=F.ex
 rw [zhS S h1 h2 F.pa F.pb h3 h4,if_neg (by lia),if_neg (by lia),if_neg (by lia)]
theorem zbR {h : AH} {p : Nat} {ps : List Pc} {a b i : Nat} (S : ShelfAt h p ps) (nd : ps.Nodup) (F : ForkOk ps a b) (e : ps[i]? = some (.fork a b)) : yae [.ref p,.int a,.int b] h = .ok (.int ((i + 1 : Nat) : Int)) h:=by
 have t:=zcL (k:=1) nd e
 have t' : valA (tab ps) (.tup [.str "fork",.int a,.int b]) = some (.int ((i + 1 : Nat) : Int)):=by rw [Nat.add_comm]; exact t
 simp [yae,zcD S F,S.ob,S.h2,t']
theorem zgp {h : AH} {p : Nat} {ps : List Pc} {a b : Nat} (S : ShelfAt h p ps) (F : ForkOk ps a b) (hq : Pc.fork a b ∉ ps) (hz : ps.length < 16000000) : yae [.ref p,.int a,.int b] h = .ok (.int ((ps.length + 1 : Nat) : Int)) (yb7 h p (ps++[.fork a b])):=by
 have t : valA (tab ps) (.tup [.str "fork",.int a,.int b]) = none:=zbN (q:=.fork a b) (k:=1) hq
 have S2:=zbO (ps' := ps++[.fork a b]) S
 obtain ⟨ma,mb,la,fb,h1,h2,_⟩:=F.ex
 have e:=zg4 S hq hz h1 h2
 have t2 : valA (tab (ps++[.fork a b])) (.tup [.str "fork",.int a,.int b]) = some (.int ((ps.length + 1 : Nat) : Int)):=by
  unfold tab
  rw [zaW]
  unfold valA at t ⊢
  rw [List.find?_append]
  have t3 : (yby 1 ps).find? (fun p=>decide (p.1 = .tup [.str "fork",.int a,.int b])) = none:=by simpa [tab] using t
  rw [t3]
  simp [Pc.av,Nat.add_comm]
 have e' : ybH [.ref p,.tup [.str "fork",.int a,.int b]] h = .ok .non (yb7 h p (ps++[.fork a b])):=e
 simp [yae,zcD S F,S.ob,S.h2,t,e',S2.ob,S2.h2,t2]
def ydS (n : Nat) : List AO:=[.ins 0 [some (.ref (n + 1)),some (.ref (n + 2)),some (.ref (n + 3)),some (.ref (n + 4)),some (.ref (n + 5)),some (.ref (n + 6)),some (.ref (n + 7)),some (.ref (n + 8))],.lst [],.dct true [],.lst [.int 0],.lst [.int 0],.lst [.int 0],.lst [.int (-1)],.lst [.int 0],.lst [.int 0]]
theorem zi5 {h : AH} {o o' : AO} {r : AH} : (h++o :: r).set h.length o' = h++o' :: r:=by
 induction h with
 | nil=>rfl
 | cons x t ih=>simp [ih]
theorem yhj (en : En) (h : AH) : yen 0 8 ybS sNil en h = .ok (.ref h.length) (h++ydS h.length):=by
 simp [ybS,ydS,List.getElem?_append,zi5]
theorem yfK {h r : AH} {k : Nat} : (h++r)[h.length + k]? = r[k]? := by
 rw [List.getElem?_append_right (by lia)]; simp
theorem yhk (h r : AH) : ShelfAt (h++(ydS h.length++r)) h.length []:=by
 refine ⟨?_,?_,?_,?_,?_,?_,?_,?_,?_⟩
 ·rw [show h.length = h.length + 0 from rfl,yfK]; rfl
 all_goals (rw [yfK]; rfl)
theorem zfD (x : Str) (c i : Nat) (hi : i < x.length) : Builtin.Str.subAt x ⟨#[c]⟩ i = decide (x.cps.toList[i]? = some c):=by
 have hi' : i < x.cps.size:=hi
 unfold Builtin.Str.subAt
 have e : x.cps.extract i (i + 1) = #[x.cps[i]]:=by
  apply Array.ext
  ·simp; lia
  ·intro j h1 h2
   have : j = 0:=by simp at h2; lia
   subst this
   simp
 show (x.cps.extract i (i + 1) == #[c]) = _
 rw [e]
 have : x.cps.toList[i]? = some x.cps[i]:=by simp [hi']
 rw [this]
 by_cases q : x.cps[i] = c
 ·simp [q]
 ·simp [q]
theorem yew (x : Str) (c : Nat) : ∀ (n i : Nat) (st : Array Nat × Nat),i + n = x.length + 1 -> st.2 <= i -> st.1.size <= i -> (forIn (List.range' i n) st (StrLaws.occBody x ⟨#[c]⟩ x.length (x.length + 1))).run.fst.size = st.1.size + (x.cps.toList.drop i).count c
 | 0,i,st,hn,_,_=>by
  rw [List.drop_of_length_le (by simp; simp only [Str.length] at hn; lia)]
  simp
 | n + 1,i,st,hn,h2,h3=>by
  rw [List.range'_succ,List.forIn_cons]
  unfold StrLaws.occBody
  by_cases hi : i < x.length
  ·have hi' : i < x.cps.size:=hi
   have hd : x.cps.toList.drop i = x.cps[i]'hi' :: x.cps.toList.drop (i + 1):=by
    rw [List.drop_eq_getElem_cons (show i < x.cps.toList.length by simpa using hi')]; simp
   have hg : x.cps.toList[i]? = some (x.cps[i]'hi'):=by
    simp [hi']
   by_cases q : x.cps[i]'hi' = c
   ·have hs : Builtin.Str.subAt x ⟨#[c]⟩ i = true:=by rw [zfD x c i hi,hg,q]; simp
    rw [if_pos ⟨⟨⟨by lia,h2⟩,hi⟩,hs⟩]
    show (forIn (List.range' (i + 1) n) (st.1.push i,i + 1) (StrLaws.occBody x ⟨#[c]⟩ x.length (x.length + 1))).run.fst.size = _
    rw [yew x c n (i + 1) _ (by lia) (Nat.le_refl _) (by simp; lia),hd,q]
    simp; lia
   ·have hs : Builtin.Str.subAt x ⟨#[c]⟩ i = false:=by rw [zfD x c i hi,hg]; simp [q]
    rw [if_neg (by simp [hs])]
    show (forIn (List.range' (i + 1) n) (st.1,st.2) (StrLaws.occBody x ⟨#[c]⟩ x.length (x.length + 1))).run.fst.size = _
    rw [yew x c n (i + 1) _ (by lia) (by show st.2 <= i + 1; lia) (by show st.1.size <= i + 1; lia),hd]
    simp [q]
  ·rw [if_neg (by rintro ⟨⟨_,z⟩,_⟩; exact hi z)]
   show (forIn (List.range' (i + 1) n) (st.1,st.2) (StrLaws.occBody x ⟨#[c]⟩ x.length (x.length + 1))).run.fst.size = _
   rw [yew x c n (i + 1) _ (by lia) (by show st.2 <= i + 1; lia) (by show st.1.size <= i + 1; lia)]
   rw [List.drop_of_length_le (by simp; simp only [Str.length] at hi; lia),List.drop_of_length_le (by simp; simp only [Str.length] at hi; lia)]
theorem zg5 (x : Str) (c : Nat) : (Builtin.Str.occurrences x ⟨#[c]⟩ 0 x.length (x.length + 1)).length = x.cps.toList.count c:=by
 rw [StrLaws.occ_eq,Array.length_toList]
 rw [show x.length + 1 - 0 = x.length + 1 from rfl,yew x c (x.length + 1) 0 _ (by lia) (Nat.le_refl _) (by simp)]
 simp
theorem zbS (x : Str) : ydl x = x.cps.toList.count 10:=zg5 x 10
theorem zal (x y : Str) : (x++y).cps.toList = x.cps.toList++y.cps.toList:=by
 show (x.cps++y.cps).toList = _
 simp
theorem zhT (x y : Str) : ydl (x++y) = ydl x + ydl y:=by
 rw [zbS,zbS,zbS,zal,List.count_append]
theorem zad (x : Str) : x.length = x.cps.toList.length:=by simp [Str.length]
theorem zaq (x y : Str) : (x++y).length = x.length + y.length:=by
 rw [zad,zad,zad,zal,List.length_append]
def ydT (rs : List Str) : Pc -> Str
 | .leaf x=>x
 | .fork a b=>rs.getD a "" ++ rs.getD b ""
def reads (ps : List Pc) : List Str:=ps.foldl (fun rs q=>rs++[ydT rs q]) [""]
theorem zgq (ps : List Pc) (q : Pc) : reads (ps++[q]) = reads ps++[ydT (reads ps) q]:=by simp [reads]
theorem zbf {α β : Type} (g : List β -> α -> β) : ∀ (qs : List α) (ms : List β),∃ r,qs.foldl (fun ms q=>ms++[g ms q]) ms = ms++r /\ r.length = qs.length
 | [],ms=>⟨[],by simp,rfl⟩
 | q :: qs,ms=>by
  obtain ⟨r,e,l⟩:=zbf g qs (ms++[g ms q])
  exact ⟨g ms q :: r,by rw [List.foldl_cons,e]; simp,by simp [l]⟩
theorem zbq (ps : List Pc) : (reads ps).length = ps.length + 1:=by
 obtain ⟨r,e,l⟩:=zbf ydT ps [""]
 rw [reads,e]; simp [l,Nat.add_comm]
theorem zhU (ps qs : List Pc) : ∃ r,meas (ps++qs) = meas ps++r:=by
 unfold meas
 rw [List.foldl_append]
 obtain ⟨r,e,_⟩:=zbf ycE qs (ps.foldl (fun ms q=>ms++[ycE ms q]) [ms0])
 exact ⟨r,e⟩
theorem zg6 (ps qs : List Pc) : ∃ r,reads (ps++qs) = reads ps++r:=by
 unfold reads
 rw [List.foldl_append]
 obtain ⟨r,e,_⟩:=zbf ydT qs (ps.foldl (fun ms q=>ms++[ydT ms q]) [""])
 exact ⟨r,e⟩
theorem zac {ps ps' : List Pc} (h : ps <+: ps') {n : Nat} {m : Ms} (e : (meas ps)[n]? = some m) : (meas ps')[n]? = some m:=by
 obtain ⟨qs,rfl⟩:=h
 obtain ⟨r,q⟩:=zhU ps qs
 rw [q,List.getElem?_append_left (List.getElem?_eq_some_iff.mp e).1]; exact e
theorem zbr {ps ps' : List Pc} (h : ps <+: ps') {n : Nat} {m : Str} (e : (reads ps)[n]? = some m) : (reads ps')[n]? = some m:=by
 obtain ⟨qs,rfl⟩:=h
 obtain ⟨r,q⟩:=zg6 ps qs
 rw [q,List.getElem?_append_left (List.getElem?_eq_some_iff.mp e).1]; exact e
theorem zbT (ps : List Pc) (i : Nat) : ps.take i <+: ps:=List.take_prefix i ps
theorem zcM {ps : List Pc} {i : Nat} {q : Pc} (e : ps[i]? = some q) : (ps.take i++[q]) <+: ps /\ (ps.take i).length = i:=by
 have hi:=(List.getElem?_eq_some_iff.mp e).1
 have : ps.take (i + 1) = ps.take i++[q]:=by
  rw [List.take_succ,e]; rfl
 exact ⟨this ▸ List.take_prefix _ _,by simp; lia⟩
theorem zfE {ps : List Pc} {i : Nat} {q : Pc} (e : ps[i]? = some q) : (meas ps)[i + 1]? = some (ycE (meas (ps.take i)) q):=by
 obtain ⟨h,l⟩:=zcM e
 refine zac h ?_
 rw [zca,List.getElem?_append_right (by rw [zao,l]; lia),zao,l]
 simp
theorem zez {ps : List Pc} {i : Nat} {q : Pc} (e : ps[i]? = some q) : (reads ps)[i + 1]? = some (ydT (reads (ps.take i)) q):=by
 obtain ⟨h,l⟩:=zcM e
 refine zbr h ?_
 rw [zgq,List.getElem?_append_right (by rw [zbq,l]; lia),zbq,l]
 simp
def PcOk (ps : List Pc) : Pc -> Prop
 | .leaf x=>ybp x = true
 | .fork a b=>ForkOk ps a b
inductive Good : List Pc -> Prop
 | nil : Good []
 | snoc {ps : List Pc} {q : Pc} : Good ps -> q ∉ ps -> PcOk ps q -> Good (ps++[q])
theorem Good.nodup {ps : List Pc} (g : Good ps) : ps.Nodup:=by
 induction g with
 | nil=>exact List.nodup_nil
 | snoc g n ok ih=>exact List.nodup_append.mpr ⟨ih,by simp,fun a ha b hb=>by simp at hb; subst hb; exact fun e=>n (e ▸ ha)⟩
theorem Good.get {ps : List Pc} (g : Good ps) : ∀ {i : Nat} {q : Pc},ps[i]? = some q -> PcOk (ps.take i) q:=by
 induction g with
 | nil=>intro i q e; simp at e
 | @snoc ps q' g n ok ih =>
  intro i q e
  by_cases hi : i < ps.length
  ·rw [List.getElem?_append_left hi] at e
   rw [List.take_append_of_le_length (by lia)]
   exact ih e
  ·have hi2 : i = ps.length:=by
    have:=(List.getElem?_eq_some_iff.mp e).1
    simp at this; lia
   subst hi2
   simp at e
   subst e
   simpa using ok
theorem ForkOk.pre {ps ps' : List Pc} {a b : Nat} (F : ForkOk ps a b) (h : ps <+: ps') : ForkOk ps' a b:=by
 obtain ⟨ma,mb,la,fb,h1,h2,h3,h4,h5⟩:=F.ex
 exact ⟨F.pa,F.pb,ma,mb,la,fb,zac h h1,zac h h2,zac h h3,zac h h4,h5⟩
structure Ky (ps : List Pc) (m : Ms) (x : Str) (f l : Ms) : Prop where
 fl : (meas ps)[m.fl]? = some f
 ll : (meas ps)[m.ll]? = some l
 sg : m.sg = x.length
 en : m.en = ydl x
 f1 : 1 <= f.sg
 f8 : f.sg <= 8
 l1 : 1 <= l.sg
 l8 : l.sg <= 8
 lv : 1 <= m.lv
 ht : 0 <= m.ht
 most : m.sg <= 1000000000000000000
 cnt : ∃ k,(m.lv = 2 * k + 1 /\ 9 * k + f.sg <= m.sg /\ 9 * k + l.sg <= m.sg) \/ (m.lv = 2 * k + 2 /\ 9 * k + 9 <= m.sg /\ 9 * k + f.sg + l.sg <= m.sg)
 pl : yaC x = true
structure Tx (ps : List Pc) (n : Nat) (m : Ms) (x : Str) (f l : Ms) : Prop where
 n1 : 1 <= n
 ms : (meas ps)[n]? = some m
 rd : (reads ps)[n]? = some x
 ky : Ky ps m x f l
theorem Ky.pre {ps ps' : List Pc} {m : Ms} {x : Str} {f l : Ms} (k : Ky ps m x f l) (h : ps <+: ps') : Ky ps' m x f l :=
 { k with fl:=zac h k.fl,ll:=zac h k.ll }
theorem Tx.pre {ps ps' : List Pc} {n : Nat} {m : Ms} {x : Str} {f l : Ms} (k : Tx ps n m x f l) (h : ps <+: ps') : Tx ps' n m x f l :=
 ⟨k.n1,zac h k.ms,zbr h k.rd,k.ky.pre h⟩
theorem Tx.le {ps : List Pc} {n : Nat} {m : Ms} {x : Str} {f l : Ms} (k : Tx ps n m x f l) : n <= ps.length:=by
 have:=(List.getElem?_eq_some_iff.mp k.ms).1
 rw [zao] at this; lia
def ycc (ma mb : Ms) : Ms:=⟨ma.sg + mb.sg,ma.en + mb.en,ma.lv + mb.lv,max ma.ht mb.ht + 1,ma.fl,mb.ll⟩
theorem zaU (x y : Str) : yaC (x++y) = (yaC x && yaC y):=by unfold yaC; rw [zal,List.all_append]
theorem kf1 {n n' s s' f l f' l' : Nat} (a : ∃ k,(n = 2 * k + 1 /\ 9 * k + f <= s /\ 9 * k + l <= s) \/ (n = 2 * k + 2 /\ 9 * k + 9 <= s /\ 9 * k + f + l <= s)) (b : ∃ k,(n' = 2 * k + 1 /\ 9 * k + f' <= s' /\ 9 * k + l' <= s') \/ (n' = 2 * k + 2 /\ 9 * k + 9 <= s' /\ 9 * k + f' + l' <= s')) (hs : 8 < l + f') :
  ∃ k,(n + n' = 2 * k + 1 /\ 9 * k + f <= s + s' /\ 9 * k + l' <= s + s') \/ (n + n' = 2 * k + 2 /\ 9 * k + 9 <= s + s' /\ 9 * k + f + l' <= s + s'):=by
 obtain ⟨k,⟨rfl,a1,a2⟩ | ⟨rfl,a1,a2⟩⟩:=a<;>obtain ⟨k',⟨rfl,b1,b2⟩ | ⟨rfl,b1,b2⟩⟩:=b
 ·exact ⟨k + k',.inr ⟨by lia,by lia,by lia⟩⟩
 ·exact ⟨k + k' + 1,.inl ⟨by lia,by lia,by lia⟩⟩
 ·exact ⟨k + k' + 1,.inl ⟨by lia,by lia,by lia⟩⟩
 ·exact ⟨k + k' + 1,.inr ⟨by lia,by lia,by lia⟩⟩
theorem Ky.sg1 {ps : List Pc} {m : Ms} {x : Str} {f l : Ms} (k : Ky ps m x f l) : 1 <= m.sg:=by
 have f1:=k.f1
 obtain ⟨k,⟨_,a,_⟩ | ⟨_,a,_⟩⟩:=k.cnt
 ·exact Nat.le_trans f1 (Nat.le_trans (Nat.le_add_left _ _) a)
 ·exact Nat.le_trans (Nat.le_add_left 1 (9 * k + 8)) a
theorem Ky.fork {ps : List Pc} {ma mb fa la fb lb : Ms} {x y : Str} (A : Ky ps ma x fa la) (B : Ky ps mb y fb lb) (hs : 8 < la.sg + fb.sg) (hm : ma.sg + mb.sg <= 1000000000000000000) : Ky ps (ycc ma mb) (x++y) fa lb:=by
 have k:=kf1 A.cnt B.cnt hs
 refine ⟨A.fl,B.ll,?_,?_,A.f1,A.f8,B.l1,B.l8,Nat.le_trans A.lv (Nat.le_add_right _ _),?_,hm,k,?_⟩
 ·show ma.sg + mb.sg = _; rw [zaq,A.sg,B.sg]
 ·show ma.en + mb.en = _; rw [zhT,A.en,B.en]
 ·have a4:=A.ht
  show 0 <= max ma.ht mb.ht + 1
  clear k hs hm; lia
 ·rw [zaU,A.pl,B.pl]; rfl
theorem zaw {x : Str} (h : ybp x = true) : 1 <= x.length /\ x.length <= 8 /\ yaC x = true:=by
 simp [ybp] at h; exact ⟨h.2.1,h.2.2,h.1⟩
theorem zaM {α : Type} {l : List α} {i : Nat} {d x : α} (e : l[i]? = some x) : l.getD i d = x:=by simp [List.getD,e]
def lfMs (x : Str) (n : Nat) : Ms:=⟨x.length,ydl x,1,0,n,n⟩
theorem zbC {ps : List Pc} (g : Good ps) {i : Nat} {x : Str} (e : ps[i]? = some (.leaf x)) : Tx ps (i + 1) (lfMs x (i + 1)) x (lfMs x (i + 1)) (lfMs x (i + 1)):=by
 have hi:=(List.getElem?_eq_some_iff.mp e).1
 have ok : ybp x = true:=g.get e
 obtain ⟨s1,s2,s3⟩:=zaw ok
 have li : (ps.take i).length = i:=by simp; lia
 have ml : (meas (ps.take i)).length = i + 1:=by rw [zao,li]
 have e1' : (meas ps)[i + 1]? = some (lfMs x (i + 1)):=by rw [zfE e]; simp only [ycE,lfMs]; rw [ml]
 exact ⟨by lia,e1',zez e,⟨e1',e1',rfl,rfl,s1,s2,s1,s2,Nat.le_refl 1,Int.le_refl 0,by show x.length <= _; lia,⟨0,.inl ⟨rfl,Nat.le_of_eq (Nat.zero_add _),Nat.le_of_eq (Nat.zero_add _)⟩⟩,s3⟩⟩
theorem zbD {ps : List Pc} (g : Good ps) {i a b : Nat} {ma mb fa la fb lb : Ms} {x y : Str} (e : ps[i]? = some (.fork a b)) (A : Tx ps a ma x fa la) (B : Tx ps b mb y fb lb) : Tx ps (i + 1) (ycc ma mb) (x++y) fa lb:=by
 have hi:=(List.getElem?_eq_some_iff.mp e).1
 have ok' : ForkOk (ps.take i) a b:=g.get e
 have li : (ps.take i).length = i:=by simp; lia
 have tp:=zbT ps i
 obtain ⟨ma',mb',la',fb',q1,q2,q3,q4,q5,q6,q7⟩:=ok'.ex
 have ba:=(List.getElem?_eq_some_iff.mp q1).1
 have bb:=(List.getElem?_eq_some_iff.mp q2).1
 rw [zao,li] at ba bb
 have z1:=A.ms.symm.trans (zac tp q1); cases z1
 have z2:=B.ms.symm.trans (zac tp q2); cases z2
 have z3:=A.ky.ll.symm.trans (zac tp q3); cases z3
 have z4:=B.ky.fl.symm.trans (zac tp q4); cases z4
 have r1 : (reads (ps.take i))[a]? = some x:=by
  obtain ⟨w,ew⟩ : ∃ w,(reads (ps.take i))[a]? = some w:=⟨(reads (ps.take i))[a]'(by rw [zbq,li]; lia),by simp⟩
  have:=(zbr tp ew).symm.trans A.rd; cases this; exact ew
 have r2 : (reads (ps.take i))[b]? = some y:=by
  obtain ⟨w,ew⟩ : ∃ w,(reads (ps.take i))[b]? = some w:=⟨(reads (ps.take i))[b]'(by rw [zbq,li]; lia),by simp⟩
  have:=(zbr tp ew).symm.trans B.rd; cases this; exact ew
 refine ⟨by lia,?_,?_,A.ky.fork B.ky q5 q7⟩
 ·rw [zfE e]; simp only [ycE,zaM q1,zaM q2]; rfl
 ·rw [zez e]; simp only [ydT,zaM r1,zaM r2]
theorem Good.tx {ps : List Pc} (g : Good ps) : ∀ n,1 <= n -> n <= ps.length -> ∃ m x f l,Tx ps n m x f l:=by
 intro n
 induction n using Nat.strongRecOn with
 | ind n ih =>
  intro h1 h2
  obtain ⟨i,rfl⟩ : ∃ i,n = i + 1:=⟨n - 1,(Nat.sub_add_cancel h1).symm⟩
  obtain ⟨q,eq⟩ : ∃ q,ps[i]? = some q:=⟨ps[i],by simp⟩
  have ok:=g.get eq
  have li : (ps.take i).length = i:=(zcM eq).2
  cases q with
  | leaf x=>exact ⟨_,_,_,_,zbC g eq⟩
  | fork a b =>
   have ok' : ForkOk (ps.take i) a b:=ok
   obtain ⟨ma,mb,la,fb,q1,q2,_⟩:=ok'.ex
   have ba:=(List.getElem?_eq_some_iff.mp q1).1
   have bb:=(List.getElem?_eq_some_iff.mp q2).1
   rw [zao,li] at ba bb
   obtain ⟨_,_,_,_,A⟩:=ih a ba ok'.pa (Nat.le_trans (Nat.le_of_lt ba) h2)
   obtain ⟨_,_,_,_,B⟩:=ih b bb ok'.pb (Nat.le_trans (Nat.le_of_lt bb) h2)
   exact ⟨_,_,_,_,zbD g eq A B⟩
structure Dd (p : Nat) (h h' : AH) (ps ps' : List Pc) (k : Nat) : Prop where
 sh : ShelfAt h' p ps'
 gd : Good ps'
 pre : ps <+: ps'
 len : ps'.length <= ps.length + k
 fr : ∀ i,i <= p \/ p + 8 < i -> h'[i]? = h[i]?
 hl : h'.length = h.length
theorem ShelfAt.keep {h h' : AH} {p : Nat} {ps : List Pc} (S : ShelfAt h p ps) (e : ∀ i,p <= i -> i <= p + 8 -> h'[i]? = h[i]?) : ShelfAt h' p ps:=by
 have k : ∀ j,j <= 8 -> h'[p + j]? = h[p + j]? := fun j hj=>e _ (Nat.le_add_right p j) (Nat.add_le_add_left hj p)
 exact ⟨(k 0 (by decide)).trans S.ob,(k 1 (by decide)).trans S.h1,(k 2 (by decide)).trans S.h2,(k 3 (by decide)).trans S.h3,(k 4 (by decide)).trans S.h4,(k 5 (by decide)).trans S.h5,(k 6 (by decide)).trans S.h6,(k 7 (by decide)).trans S.h7,(k 8 (by decide)).trans S.h8⟩
theorem ShelfAt.app {h : AH} {p : Nat} {ps : List Pc} (S : ShelfAt h p ps) (r : AH) : ShelfAt (h++r) p ps:=by
 have:=yaL S.h8
 exact S.keep fun i _ b=>List.getElem?_append_left (Nat.lt_of_le_of_lt b this)
structure Wk (p r : Nat) (h h' : AH) (ps ps' : List Pc) (k : Nat) : Prop where
 sh : ShelfAt h' p ps'
 gd : Good ps'
 pre : ps <+: ps'
 len : ps'.length <= ps.length + k
 row : ∃ N : Int,h'[r]? = some (.lst [.int N])
 fr : ∀ i,i <= p \/ p + 8 < i -> i ≠ r -> h'[i]? = h[i]?
 hl : h'.length = h.length
theorem Wk.refl {p r : Nat} {h : AH} {ps : List Pc} (S : ShelfAt h p ps) (g : Good ps) (e : ∃ N : Int,h[r]? = some (.lst [.int N])) : Wk p r h h ps ps 0 :=
 ⟨S,g,List.prefix_refl _,by lia,e,fun _ _ _=>rfl,rfl⟩
theorem zaN {h : AH} {p : Nat} {ps : List Pc} {i : Nat} (S : ShelfAt h p ps) (hi : i <= ps.length) : yax [.ref p,.int i] h = .ok .non h:=by
 by_cases z : i = 0
 ·subst z; simp [yax]
 ·have c:=zbP S (i:=(i : Int)) ⟨by lia,by lia⟩
  simp [yax,z,S.ob,c]
theorem zav {h : AH} {p : Nat} {ps : List Pc} {i : Nat} {m : Ms} (S : ShelfAt h p ps) (e : (meas ps)[i]? = some m) : yaS [.ref p,.int i] h = .ok (.int m.sg) h:=by
 have hi:=(List.getElem?_eq_some_iff.mp e).1
 rw [zao] at hi
 simp [yaS,zaN S (show i <= ps.length by lia),S.ob,S.h3,zah e]
theorem zaf {h : AH} {p : Nat} {ps : List Pc} {i : Nat} {m : Ms} (S : ShelfAt h p ps) (e : (meas ps)[i]? = some m) : yaX [.ref p,.int i] h = .ok (.int m.ht) h:=by
 have hi:=(List.getElem?_eq_some_iff.mp e).1
 rw [zao] at hi
 simp [yaX,zaN S (show i <= ps.length by lia),S.ob,S.h6,zah e]
theorem zfF {h : AH} {p : Nat} {ps : List Pc} {i : Nat} {m : Ms} (S : ShelfAt h p ps) (e : (meas ps)[i]? = some m) : ybz [.ref p,.int i] h = .ok (.int m.fl) h:=by
 have hi:=(List.getElem?_eq_some_iff.mp e).1
 rw [zao] at hi
 simp [ybz,zaN S (show i <= ps.length by lia),S.ob,S.h7,zah e]
theorem yfL {h : AH} {p : Nat} {ps : List Pc} {i : Nat} {m : Ms} (S : ShelfAt h p ps) (e : (meas ps)[i]? = some m) : ybC [.ref p,.int i] h = .ok (.int m.ll) h:=by
 have hi:=(List.getElem?_eq_some_iff.mp e).1
 rw [zao] at hi
 simp [ybC,zaN S (show i <= ps.length by lia),S.ob,S.h8,zah e]
def lp : Nat -> Nat × Nat
 | 0=>(1,2)
 | n + 1=>((lp n).2,(lp n).1 + (lp n).2)
def ll (n : Nat) : Nat:=(lp n).1
def ls (n : Nat) : Nat:=9 * (ll n / 2) + ll n % 2
theorem ll_2 (n : Nat) : ll (n + 2) = ll n + ll (n + 1):=rfl
theorem zeA : ∀ n,ll n <= ll (n + 1)
 | 0=>by decide
 | n + 1=>by rw [show n + 1 + 1 = n + 2 from rfl,ll_2]; lia
theorem zi6 {a b : Nat} (h : a <= b) : ll a <= ll b:=by
 induction h with
 | refl=>exact Nat.le_refl _
 | step h ih=>exact Nat.le_trans ih (zeA _)
theorem zi7 {a b : Nat} (h : a <= b) : ls a <= ls b:=by
 have:=zi6 h
 unfold ls; lia
theorem yhl {i j a b : Nat} (h1 : i <= j + 1) (h2 : j <= i + 1) (u1 : ll i <= a) (u2 : ll j <= b) : ll (max i j + 1) <= a + b:=by
 rcases Nat.lt_trichotomy i j with c | c | c
 ·have e' : j = i + 1:=Nat.le_antisymm h2 c
  subst e'
  rw [Nat.max_eq_right (Nat.le_succ i),ll_2]; exact Nat.add_le_add u1 u2
 ·subst c
  rw [Nat.max_self]
  refine Nat.le_trans ?_ (Nat.add_le_add u1 u2)
  cases i with
  | zero=>exact Nat.le_refl 2
  | succ k=>rw [show k + 1 + 1 = k + 2 from rfl,ll_2]; exact Nat.add_le_add_right (zeA k) _
 ·have e' : i = j + 1:=Nat.le_antisymm h1 c
  subst e'
  rw [Nat.max_eq_left (Nat.le_succ j),ll_2,Nat.add_comm]; exact Nat.add_le_add u1 u2
theorem yhm {x y : Int} {a b : Nat} (hx : 0 <= x) (hy : 0 <= y) (q : (x - y).natAbs <= 1) (u1 : ll x.toNat <= a) (u2 : ll y.toNat <= b) : ll (max x y + 1).toNat <= a + b:=by
 obtain ⟨i,rfl⟩:=Int.eq_ofNat_of_zero_le hx
 obtain ⟨j,rfl⟩:=Int.eq_ofNat_of_zero_le hy
 have e : (max (i : Int) j + 1).toNat = max i j + 1:=by clear u1 u2 q; lia
 rw [e]
 exact yhl (by clear u1 u2 e; lia) (by clear u1 u2 e; lia) u1 u2
theorem Good.lv {ps : List Pc} (g : Good ps) : ∀ n m x f l,Tx ps n m x f l -> ll m.ht.toNat <= m.lv:=by
 intro n
 induction n using Nat.strongRecOn with
 | ind n ih =>
  intro m x f l T
  have hn:=T.n1
  have hle:=T.le
  obtain ⟨i,rfl⟩ : ∃ i,n = i + 1:=⟨n - 1,by lia⟩
  obtain ⟨q,eq⟩ : ∃ q,ps[i]? = some q:=⟨ps[i],by simp⟩
  cases q with
  | leaf y =>
   have z:=(zbC g eq).ms.symm.trans T.ms; cases z
   exact Nat.le_refl 1
  | fork a b =>
   have ok' : ForkOk (ps.take i) a b:=g.get eq
   have li : (ps.take i).length = i:=by simp; lia
   obtain ⟨ma,mb,la,fb,q1,q2,q3,q4,q5,q6,q7⟩:=ok'.ex
   have ba:=(List.getElem?_eq_some_iff.mp q1).1
   have bb:=(List.getElem?_eq_some_iff.mp q2).1
   rw [zao,li] at ba bb
   obtain ⟨ma',x1,fa,la',A⟩:=g.tx a ok'.pa (by lia)
   obtain ⟨mb',y1,fb',lb,B⟩:=g.tx b ok'.pb (by lia)
   have tp:=zbT ps i
   have z1:=A.ms.symm.trans (zac tp q1); cases z1
   have z2:=B.ms.symm.trans (zac tp q2); cases z2
   have u1:=ih a (by lia) _ _ _ _ A
   have u2:=ih b (by lia) _ _ _ _ B
   have z:=(zbD g eq A B).ms.symm.trans T.ms; cases z
   exact yhm A.ky.ht B.ky.ht q6 u1 u2
theorem Tx.ls {ps : List Pc} (g : Good ps) {n : Nat} {m : Ms} {x : Str} {f l : Ms} (T : Tx ps n m x f l) : Sk.ls m.ht.toNat <= m.sg:=by
 have u:=g.lv _ _ _ _ _ T
 have f1:=T.ky.f1
 unfold Sk.ls
 obtain ⟨k,⟨e,a,_⟩ | ⟨e,a,_⟩⟩:=T.ky.cnt
 ·rw [e] at u; generalize ll m.ht.toNat = q at *; clear e; lia
 ·rw [e] at u; generalize ll m.ht.toNat = q at *; clear e; lia
theorem Good.kind {ps : List Pc} (g : Good ps) {n : Nat} {m : Ms} {x : Str} {f l : Ms} (T : Tx ps n m x f l) :
  (ps[n - 1]? = some (.leaf x) /\ m.ht = 0 /\ m = lfMs x n /\ 1 <= x.length /\ x.length <= 8) \/ ∃ a b ma mb y z fa la fb lb,ps[n - 1]? = some (.fork a b) /\ a < n /\ b < n /\ Tx ps a ma y fa la /\ Tx ps b mb z fb lb /\ x = y++z /\ m = ycc ma mb /\ (ma.ht - mb.ht).natAbs <= 1:=by
 have hn:=T.n1
 have hle:=T.le
 obtain ⟨i,rfl⟩ : ∃ i,n = i + 1:=⟨n - 1,by lia⟩
 obtain ⟨q,eq⟩ : ∃ q,ps[i]? = some q:=⟨ps[i],by simp⟩
 cases q with
 | leaf y =>
  have L:=zbC g eq
  have z:=L.ms.symm.trans T.ms; cases z
  have z2:=L.rd.symm.trans T.rd; cases z2
  have ok : ybp x = true:=g.get eq
  obtain ⟨s1,s2,s3⟩:=zaw ok
  exact .inl ⟨eq,rfl,rfl,s1,s2⟩
 | fork a b =>
  have ok' : ForkOk (ps.take i) a b:=g.get eq
  have li : (ps.take i).length = i:=by simp; lia
  obtain ⟨ma,mb,la,fb,q1,q2,q3,q4,q5,q6,q7⟩:=ok'.ex
  have ba:=(List.getElem?_eq_some_iff.mp q1).1
  have bb:=(List.getElem?_eq_some_iff.mp q2).1
  rw [zao,li] at ba bb
  obtain ⟨ma',y,fa,la',A⟩:=g.tx a ok'.pa (by lia)
  obtain ⟨mb',z,fb',lb,B⟩:=g.tx b ok'.pb (by lia)
  have tp:=zbT ps i
  have z1:=A.ms.symm.trans (zac tp q1); cases z1
  have z2:=B.ms.symm.trans (zac tp q2); cases z2
  have F:=zbD g eq A B
  have z3:=F.ms.symm.trans T.ms; cases z3
  have z4:=F.rd.symm.trans T.rd; cases z4
  exact .inr ⟨a,b,ma,mb,y,z,fa,la',fb',lb,eq,by lia,by lia,A,B,rfl,rfl,q6⟩
theorem zeB {h : AH} {p : Nat} {ps : List Pc} {n : Nat} {q : Pc} (S : ShelfAt h p ps) (n1 : 1 <= n) (e : ps[n - 1]? = some q) : yaH [.ref p,.int n] h = .ok q.av h:=by
 have:=zi4 S e
 rw [show ((n - 1 : Nat) : Int) + 1 = (n : Int) by lia] at this
 exact this
theorem hs1 {m a b : Int} (e : m = max a b + 1) (ha : 0 <= a) (hb : 0 <= b) : ∃ j : Nat,m.toNat = j + 1 /\ a.toNat <= j /\ b.toNat <= j /\ 0 < m:=by
 obtain ⟨x,rfl⟩:=Int.eq_ofNat_of_zero_le ha
 obtain ⟨y,rfl⟩:=Int.eq_ofNat_of_zero_le hb
 subst e
 exact ⟨max x y,by lia,Nat.le_max_left _ _,Nat.le_max_right _ _,by lia⟩
end Sk
namespace Sk
open PySem PySem.Spec L2 Sm
theorem zae {x y : Str} (e : x.cps.toList = y.cps.toList) : x = y:=by
 cases x; cases y
 simpa using e
theorem zai (x y z : Str) : (x++y)++z = x++(y++z):=zae (by simp only [zal,List.append_assoc])
theorem ls83 : 1000000000000000000 < ls 83:=by decide +kernel
theorem ht82 {ps : List Pc} (g : Good ps) {n : Nat} {m : Ms} {x : Str} {f l : Ms} (T : Tx ps n m x f l) : m.ht <= 82:=by
 have h1:=T.ls g
 have h2:=T.ky.most
 have h3:=T.ky.ht
 apply Classical.byContradiction
 intro h4
 have:=zi7 (show 83 <= m.ht.toNat by lia)
 have:=ls83
 lia
theorem Good.cut {ps : List Pc} (g : Good ps) {n : Nat} {m : Ms} {x : Str} {f l : Ms} (T : Tx ps n m x f l) (hh : 0 < m.ht) :
  ∃ a b ma mb y z la fb,ps[n - 1]? = some (.fork a b) /\ Tx ps a ma y f la /\ Tx ps b mb z fb l /\ x = y++z /\ m = ycc ma mb /\ -1 <= ma.ht - mb.ht /\ ma.ht - mb.ht <= 1 /\ 8 < la.sg + fb.sg:=by
 rcases g.kind T with ⟨_,e,_⟩ | ⟨a,b,ma,mb,y,z,fa,la,fb,lb,e1,e2,e3,A,B,e4,e5,e6⟩
 ·lia
 ·have ok : ForkOk (ps.take (n - 1)) a b:=g.get e1
  obtain ⟨ma',mb',la',fb',q1,q2,q3,q4,q5,_⟩:=(ok.pre (zbT ps _)).ex
  have z1:=A.ms.symm.trans q1; cases z1
  have z2:=B.ms.symm.trans q2; cases z2
  have z3:=A.ky.ll.symm.trans q3; cases z3
  have z4:=B.ky.fl.symm.trans q4; cases z4
  have f1:=T.ky.fl
  have l1:=T.ky.ll
  rw [e5] at f1 l1
  have z5:=f1.symm.trans A.ky.fl; cases z5
  have z6:=l1.symm.trans B.ky.ll; cases z6
  exact ⟨a,b,ma,mb,y,z,la,fb,e1,A,B,e4,e5,by lia,by lia,q5⟩
structure Dn (F : AH -> Out AV) (p : Nat) (h h' : AH) (ps ps' : List Pc) (k n : Nat) : Prop where
 ev : F h = .ok (.int n) h'
 dd : Dd p h h' ps ps' k
 re : ∀ h2 ps2,ShelfAt h2 p ps2 -> Good ps2 -> ps' <+: ps2 -> F h2 = .ok (.int n) h2
theorem Dd.trans {p : Nat} {h h' h'' : AH} {ps ps' ps'' : List Pc} {k k' k2 : Nat} (a : Dd p h h' ps ps' k) (b : Dd p h' h'' ps' ps'' k') (hk : k + k' <= k2) : Dd p h h'' ps ps'' k2 :=
 ⟨b.sh,b.gd,a.pre.trans b.pre,by have:=a.len; have:=b.len; lia,fun i hi=>(b.fr i hi).trans (a.fr i hi),b.hl.trans a.hl⟩
theorem Dd.refl {p : Nat} {h : AH} {ps : List Pc} (S : ShelfAt h p ps) (g : Good ps) : Dd p h h ps ps 0:=⟨S,g,List.prefix_refl _,by lia,fun _ _=>rfl,rfl⟩
theorem Dn.seq {F F1 : AH -> Out AV} {F2 : AV -> AH -> Out AV} {p : Nat} {h h1 h2 : AH} {ps ps1 ps2 : List Pc} {k1 k2 k n1 n2 : Nat} (S : ShelfAt h p ps) (g : Good ps) (d1 : Dn F1 p h h1 ps ps1 k1 n1) (d2 : Dn (F2 (.int n1)) p h1 h2 ps1 ps2 k2 n2)
  (eq : ∀ hh pp,ShelfAt hh p pp -> Good pp -> ps <+: pp -> F hh = (F1 hh).bind F2) (hk : k1 + k2 <= k) : Dn F p h h2 ps ps2 k n2:=by
 refine ⟨?_,d1.dd.trans d2.dd hk,fun h3 ps3 S3 g3 p3=>?_⟩
 ·rw [eq h ps S g (List.prefix_refl _),d1.ev]; exact d2.ev
 ·rw [eq h3 ps3 S3 g3 (d1.dd.pre.trans (d2.dd.pre.trans p3)),d1.re h3 ps3 S3 g3 (d2.dd.pre.trans p3)]
  exact d2.re h3 ps3 S3 g3 p3
theorem Dn.as {F F1 : AH -> Out AV} {p : Nat} {h h1 : AH} {ps ps1 : List Pc} {k1 k n1 : Nat} (S : ShelfAt h p ps) (g : Good ps) (d1 : Dn F1 p h h1 ps ps1 k1 n1) (eq : ∀ hh pp,ShelfAt hh p pp -> Good pp -> ps <+: pp -> F hh = F1 hh) (hk : k1 <= k) : Dn F p h h1 ps ps1 k n1:=by
 refine ⟨?_,{ d1.dd with len:=Nat.le_trans d1.dd.len (Nat.add_le_add_left hk _) },fun h3 ps3 S3 g3 p3=>?_⟩
 ·rw [eq h ps S g (List.prefix_refl _)]; exact d1.ev
 ·rw [eq h3 ps3 S3 g3 (d1.dd.pre.trans p3)]; exact d1.re h3 ps3 S3 g3 p3
theorem Dn.val {F : AH -> Out AV} {p n : Nat} {h : AH} {ps : List Pc} (S : ShelfAt h p ps) (g : Good ps) (eq : ∀ hh pp,ShelfAt hh p pp -> Good pp -> ps <+: pp -> F hh = .ok (.int n) hh) : Dn F p h h ps ps 0 n :=
 ⟨eq h ps S g (List.prefix_refl _),Dd.refl S g,fun h3 ps3 S3 g3 p3=>eq h3 ps3 S3 g3 p3⟩
theorem ybm {ps ps' : List Pc} (h : ps <+: ps') {i : Nat} {q : Pc} (e : ps[i]? = some q) : ps'[i]? = some q:=by
 obtain ⟨r,rfl⟩:=h
 rw [List.getElem?_append_left (List.getElem?_eq_some_iff.mp e).1]; exact e
theorem zfG {h : AH} {p : Nat} {ps : List Pc} {x : Str} (S : ShelfAt h p ps) (g : Good ps) (hx : ybp x = true) (hz : ps.length < 16000000) :
  ∃ (n : Nat) (ps' : List Pc) (h' : AH),Dn (ya2 [.ref p,.str x]) p h h' ps ps' 1 n /\ Tx ps' n (lfMs x n) x (lfMs x n) (lfMs x n):=by
 obtain ⟨s1,s2,s3⟩:=zaw hx
 have hs : x.length <= sizeLine:=Nat.le_trans s2 (by decide)
 by_cases hq : Pc.leaf x ∈ ps
 ·obtain ⟨i,hi,e⟩:=List.getElem_of_mem hq
  have e' : ps[i]? = some (.leaf x):=by rw [List.getElem?_eq_getElem hi,e]
  exact ⟨i + 1,ps,h,⟨zbQ S g.nodup hx hs e',⟨S,g,List.prefix_refl _,by lia,fun _ _=>rfl,rfl⟩,fun h2 ps2 S2 g2 p2=>zbQ S2 g2.nodup hx hs (ybm p2 e')⟩,zbC g e'⟩
 ·have g' : Good (ps++[.leaf x]):=.snoc g hq hx
  have e' : (ps++[Pc.leaf x])[ps.length]? = some (.leaf x):=by simp
  exact ⟨ps.length + 1,_,_,⟨zgo S hx hs hq hz,⟨zbO S,g',List.prefix_append _ _,by simp,fun i hi=>zey hi,zdV _ _ _⟩,fun h2 ps2 S2 g2 p2=>zbQ S2 g2.nodup hx hs (ybm p2 e')⟩,zbC g' e'⟩
theorem zay {h : AH} {p : Nat} {ps : List Pc} {a b : Nat} {ma mb fa la fb lb : Ms} {x y : Str} (S : ShelfAt h p ps) (g : Good ps) (A : Tx ps a ma x fa la) (B : Tx ps b mb y fb lb) (hc : 8 < la.sg + fb.sg) (v1 : -1 <= ma.ht - mb.ht) (v2 : ma.ht - mb.ht <= 1) (hm : ma.sg + mb.sg <= 1000000000000000000) (hz : ps.length < 16000000) :
  ∃ (n : Nat) (ps' : List Pc) (h' : AH),Dn (yae [.ref p,.int a,.int b]) p h h' ps ps' 1 n /\ Tx ps' n (ycc ma mb) (x++y) fa lb:=by
 have F : ForkOk ps a b:=⟨A.n1,B.n1,ma,mb,la,fb,A.ms,B.ms,A.ky.ll,B.ky.fl,hc,by lia,hm⟩
 by_cases hq : Pc.fork a b ∈ ps
 ·obtain ⟨i,hi,e⟩:=List.getElem_of_mem hq
  have e' : ps[i]? = some (.fork a b):=by rw [List.getElem?_eq_getElem hi,e]
  exact ⟨i + 1,ps,h,⟨zbR S g.nodup F e',⟨S,g,List.prefix_refl _,by lia,fun _ _=>rfl,rfl⟩,fun h2 ps2 S2 g2 p2=>zbR S2 g2.nodup (F.pre p2) (ybm p2 e')⟩,zbD g e' A B⟩
 ·have g' : Good (ps++[.fork a b]):=.snoc g hq F
  have e' : (ps++[Pc.fork a b])[ps.length]? = some (.fork a b):=by simp
  have pr : ps <+: ps++[Pc.fork a b]:=List.prefix_append _ _
  exact ⟨ps.length + 1,_,_,⟨zgp S F hq hz,⟨zbO S,g',pr,by simp,fun i hi=>zey hi,zdV _ _ _⟩,fun h2 ps2 S2 g2 p2=>zbR S2 g2.nodup (F.pre (pr.trans p2)) (ybm p2 e')⟩,zbD g' e' (A.pre pr) (B.pre pr)⟩
theorem fmS (ma mb : Ms) : (ycc ma mb).sg = ma.sg + mb.sg:=rfl
theorem fmH (ma mb : Ms) : (ycc ma mb).ht = max ma.ht mb.ht + 1:=rfl
theorem i1 (s : Str) (a b : Int) (h : AH) : fIx (.tup [.str s,.int a,.int b]) (.int 1) h = .ok (.int a) h:=rfl
theorem i2 (s : Str) (a b : Int) (h : AH) : fIx (.tup [.str s,.int a,.int b]) (.int 2) h = .ok (.int b) h:=rfl
theorem zaD {h : AH} {p : Nat} {ps : List Pc} {n a b : Nat} (S : ShelfAt h p ps) (n1 : 1 <= n) (e : ps[n - 1]? = some (.fork a b)) : yaH [.ref p,.int n] h = .ok (.tup [.str "fork",.int a,.int b]) h:=zeB S n1 e
theorem tl_1 {h : AH} {p : Nat} {ps : List Pc} {a b : Nat} {ma mb : Ms} (S : ShelfAt h p ps) (ea : (meas ps)[a]? = some ma) (eb : (meas ps)[b]? = some mb) (hd : mb.ht - ma.ht < 2) :
  yaY [.ref p,.int a,.int b] h = yae [.ref p,.int a,.int b] h:=by
 have f1:=zaf S ea
 have f2:=zaf S eb
 generalize hF : yae [.ref p,.int a,.int b] h = R
 simp [yaY,S.ob,f1,f2,hd,hF]
 cases R<;>rfl
theorem tl_2 {h : AH} {p : Nat} {ps : List Pc} {a b c d : Nat} {ma mb mc md : Ms} (S : ShelfAt h p ps) (b1 : 1 <= b) (ea : (meas ps)[a]? = some ma) (eb : (meas ps)[b]? = some mb) (e : ps[b - 1]? = some (.fork c d)) (ec : (meas ps)[c]? = some mc) (ed : (meas ps)[d]? = some md) (hd : ¬ mb.ht - ma.ht < 2) (hh : mc.ht <= md.ht) :
  yaY [.ref p,.int a,.int b] h = (yae [.ref p,.int a,.int c] h).bind fun v h1=>yae [.ref p,v,.int d] h1:=by
 have f1:=zaf S ea
 have f2:=zaf S eb
 have f3:=zaD S b1 e
 have f4:=zaf S ec
 have f5:=zaf S ed
 generalize hF : yae [.ref p,.int a,.int c] h = R
 simp [yaY,S.ob,f1,f2,hd,f3,i1,i2,f4,f5,hh,hF,-fIx]
 cases R with
 | ok v h1=>dsimp only; cases yae [.ref p,v,.int d] h1<;>rfl
 | ex c h1=>rfl
 | bad=>rfl
def onSh (p : Nat) (F : AH -> Out AV) (h : AH) : Out AV:=match h[p]? with
 | some (.ins c' _)=>if c' = 0 then F h else .bad
 | _=>.bad
theorem zfH {h : AH} {p : Nat} {ps : List Pc} (S : ShelfAt h p ps) (F : AH -> Out AV) : onSh p F h = F h:=by simp [onSh,S.ob]
theorem tl_3 {h : AH} {p : Nat} {ps : List Pc} {a b c d i j : Nat} {ma mb mc md : Ms} (S : ShelfAt h p ps) (b1 : 1 <= b) (c1 : 1 <= c) (ea : (meas ps)[a]? = some ma) (eb : (meas ps)[b]? = some mb) (e : ps[b - 1]? = some (.fork c d)) (ec : (meas ps)[c]? = some mc) (ed : (meas ps)[d]? = some md) (e2 : ps[c - 1]? = some (.fork i j)) (hd : ¬ mb.ht - ma.ht < 2) (hh : ¬ mc.ht <= md.ht) :
  yaY [.ref p,.int a,.int b] h = (yae [.ref p,.int a,.int i] h).bind fun v h1=>(onSh p (yae [.ref p,.int j,.int d]) h1).bind fun w h2=>yae [.ref p,v,w] h2:=by
 have f1:=zaf S ea
 have f2:=zaf S eb
 have f3:=zaD S b1 e
 have f4:=zaf S ec
 have f5:=zaf S ed
 have f6:=zaD S c1 e2
 generalize hF : yae [.ref p,.int a,.int i] h = R
 simp [yaY,S.ob,f1,f2,hd,f3,i1,i2,f4,f5,hh,f6,hF,-fIx]
 cases R with
 | ok v h1 =>
  unfold onSh
  dsimp only
  cases hx : h1[p]? with
  | none=>rfl
  | some o =>
   cases o with
   | lst l=>rfl
   | dct q l=>rfl
   | ins c' l =>
    dsimp only
    by_cases z : c' = 0
    ·rw [if_pos z]
     cases yae [.ref p,.int j,.int d] h1 with
     | ok w h2=>dsimp only; cases yae [.ref p,v,w] h2<;>rfl
     | ex c h2=>rfl
     | bad=>rfl
    ·rw [if_neg z]
 | ex c h1=>rfl
 | bad=>rfl
theorem tlh1 {a b m : Int} (h1 : -1 <= b - a) (h2 : b - a < 2) (e : m = max a b + 1) : max a b <= m /\ m <= max a b + 1 /\ (b - a <= 1 -> m = max a b + 1):=by lia
theorem zfI {h : AH} {p : Nat} {ps : List Pc} {a b : Nat} {ma mb fa la fb lb : Ms} {x y : Str} (S : ShelfAt h p ps) (g : Good ps) (A : Tx ps a ma x fa la) (B : Tx ps b mb y fb lb) (hc : 8 < la.sg + fb.sg) (v1 : -1 <= mb.ht - ma.ht) (v2 : mb.ht - ma.ht <= 2) (hm : ma.sg + mb.sg <= 1000000000000000000) (hz : ps.length + 3 < 16000000) :
  ∃ (n : Nat) (ps' : List Pc) (h' : AH) (m : Ms),Dn (yaY [.ref p,.int a,.int b]) p h h' ps ps' 3 n /\ Tx ps' n m (x++y) fa lb /\ max ma.ht mb.ht <= m.ht /\ m.ht <= max ma.ht mb.ht + 1 /\ (mb.ht - ma.ht <= 1 -> m.ht = max ma.ht mb.ht + 1):=by
 by_cases q : mb.ht - ma.ht < 2
 ·obtain ⟨n,ps',h',d,T⟩:=zay S g A B hc (by lia) (by lia) hm (by lia)
  exact ⟨n,ps',h',_,d.as S g (fun hh pp S' _ pr=>tl_1 S' (zac pr A.ms) (zac pr B.ms) q) (by lia),T,tlh1 v1 q (fmH ma mb)⟩
 ·obtain ⟨c,d,mc,md,y1,y2,lc,fd,e,C,D,rfl,em,w1,w2,w3⟩:=g.cut B (by have:=A.ky.ht; lia)
  have sg:=congrArg Ms.sg em
  have ht:=congrArg Ms.ht em
  rw [fmS] at sg
  rw [fmH] at ht
  by_cases r : mc.ht <= md.ht
  ·obtain ⟨n1,ps1,h1,d1,T1⟩:=zay S g A C hc (by lia) (by lia) (by lia) (by lia)
   obtain ⟨n2,ps2,h2,d2,T2⟩:=zay d1.dd.sh d1.dd.gd T1 (D.pre d1.dd.pre) w3 (by rw [fmH]; lia) (by rw [fmH]; lia) (by rw [fmS]; lia) (by have:=d1.dd.len; lia)
   rw [zai] at T2
   refine ⟨n2,ps2,h2,_,Dn.seq S g d1 d2 (fun hh pp S' _ pr=>tl_2 S' B.n1 (zac pr A.ms) (zac pr B.ms) (ybm pr e) (zac pr C.ms) (zac pr D.ms) q r) (by lia),T2,?_⟩
   rw [fmH,fmH]; lia
  ·obtain ⟨i,j,mi,mj,z1,z2,li,fj,e2,I,J,rfl,em2,u1,u2,u3⟩:=g.cut C (by have:=D.ky.ht; lia)
   have sg2:=congrArg Ms.sg em2
   have ht2:=congrArg Ms.ht em2
   rw [fmS] at sg2
   rw [fmH] at ht2
   obtain ⟨n1,ps1,h1,d1,T1⟩:=zay S g A I hc (by lia) (by lia) (by lia) (by lia)
   obtain ⟨n2,ps2,h2,d2,T2⟩:=zay d1.dd.sh d1.dd.gd (J.pre d1.dd.pre) (D.pre d1.dd.pre) w3 (by lia) (by lia) (by lia) (by have:=d1.dd.len; lia)
   obtain ⟨n3,ps3,h3,d3,T3⟩:=zay d2.dd.sh d2.dd.gd (T1.pre d2.dd.pre) T2 u3 (by rw [fmH,fmH]; lia) (by rw [fmH,fmH]; lia) (by rw [fmS,fmS]; lia) (by have:=d1.dd.len; have:=d2.dd.len; lia)
   have d2' : Dn (onSh p (yae [.ref p,.int j,.int d])) p h1 h2 ps1 ps2 1 n2:=d2.as d1.dd.sh d1.dd.gd (fun hh pp S' _ _=>zfH S' _) (Nat.le_refl _)
   have d23:=Dn.seq (F:=fun h1=>(onSh p (yae [.ref p,.int j,.int d]) h1).bind fun w h2=>yae [.ref p,.int n1,w] h2) (F2:=fun w h2=>yae [.ref p,.int n1,w] h2) d1.dd.sh d1.dd.gd d2' d3 (fun _ _ _ _ _=>rfl) (k:=2) (by lia)
   have ea : (x++z1)++(z2++y2) = x++(z1++z2++y2):=by rw [zai,zai]
   rw [ea] at T3
   refine ⟨n3,ps3,h3,_,Dn.seq (F2:=fun v h1=>(onSh p (yae [.ref p,.int j,.int d]) h1).bind fun w h2=>yae [.ref p,v,w] h2) S g d1 d23 (fun hh pp S' _ pr=>tl_3 S' B.n1 C.n1 (zac pr A.ms) (zac pr B.ms) (ybm pr e) (zac pr C.ms) (zac pr D.ms) (ybm pr e2) q r) (by lia),T3,?_⟩
   rw [fmH,fmH,fmH]; lia
theorem tr_1 {h : AH} {p : Nat} {ps : List Pc} {a b : Nat} {ma mb : Ms} (S : ShelfAt h p ps) (ea : (meas ps)[a]? = some ma) (eb : (meas ps)[b]? = some mb) (hd : ma.ht - mb.ht < 2) :
  ya4 [.ref p,.int a,.int b] h = yae [.ref p,.int a,.int b] h:=by
 have f1:=zaf S ea
 have f2:=zaf S eb
 generalize hF : yae [.ref p,.int a,.int b] h = R
 simp [ya4,S.ob,f1,f2,hd,hF]
 cases R<;>rfl
theorem tr_2 {h : AH} {p : Nat} {ps : List Pc} {a b c d : Nat} {ma mb mc md : Ms} (S : ShelfAt h p ps) (a1 : 1 <= a) (ea : (meas ps)[a]? = some ma) (eb : (meas ps)[b]? = some mb) (e : ps[a - 1]? = some (.fork c d)) (ec : (meas ps)[c]? = some mc) (ed : (meas ps)[d]? = some md) (hd : ¬ ma.ht - mb.ht < 2) (hh : md.ht <= mc.ht) :
  ya4 [.ref p,.int a,.int b] h = (yae [.ref p,.int d,.int b] h).bind fun v h1=>yae [.ref p,.int c,v] h1:=by
 have f1:=zaf S ea
 have f2:=zaf S eb
 have f3:=zaD S a1 e
 have f4:=zaf S ec
 have f5:=zaf S ed
 generalize hF : yae [.ref p,.int d,.int b] h = R
 simp [ya4,S.ob,f1,f2,hd,f3,i1,i2,f4,f5,hh,hF,-fIx]
 cases R with
 | ok v h1=>dsimp only; cases yae [.ref p,.int c,v] h1<;>rfl
 | ex c h1=>rfl
 | bad=>rfl
theorem tr_3 {h : AH} {p : Nat} {ps : List Pc} {a b c d i j : Nat} {ma mb mc md : Ms} (S : ShelfAt h p ps) (a1 : 1 <= a) (d1 : 1 <= d) (ea : (meas ps)[a]? = some ma) (eb : (meas ps)[b]? = some mb) (e : ps[a - 1]? = some (.fork c d)) (ec : (meas ps)[c]? = some mc) (ed : (meas ps)[d]? = some md) (e2 : ps[d - 1]? = some (.fork i j)) (hd : ¬ ma.ht - mb.ht < 2) (hh : ¬ md.ht <= mc.ht) :
  ya4 [.ref p,.int a,.int b] h = (yae [.ref p,.int c,.int i] h).bind fun v h1=>(onSh p (yae [.ref p,.int j,.int b]) h1).bind fun w h2=>yae [.ref p,v,w] h2:=by
 have f1:=zaf S ea
 have f2:=zaf S eb
 have f3:=zaD S a1 e
 have f4:=zaf S ec
 have f5:=zaf S ed
 have f6:=zaD S d1 e2
 generalize hF : yae [.ref p,.int c,.int i] h = R
 simp [ya4,S.ob,f1,f2,hd,f3,i1,i2,f4,f5,hh,f6,hF,-fIx]
 cases R with
 | ok v h1 =>
  unfold onSh
  dsimp only
  cases hx : h1[p]? with
  | none=>rfl
  | some o =>
   cases o with
   | lst l=>rfl
   | dct q l=>rfl
   | ins c' l =>
    dsimp only
    by_cases z : c' = 0
    ·rw [if_pos z]
     cases yae [.ref p,.int j,.int b] h1 with
     | ok w h2=>dsimp only; cases yae [.ref p,v,w] h2<;>rfl
     | ex c h2=>rfl
     | bad=>rfl
    ·rw [if_neg z]
 | ex c h1=>rfl
 | bad=>rfl
theorem zhV {h : AH} {p : Nat} {ps : List Pc} {a b : Nat} {ma mb fa la fb lb : Ms} {x y : Str} (S : ShelfAt h p ps) (g : Good ps) (A : Tx ps a ma x fa la) (B : Tx ps b mb y fb lb) (hc : 8 < la.sg + fb.sg) (v1 : -1 <= ma.ht - mb.ht) (v2 : ma.ht - mb.ht <= 2) (hm : ma.sg + mb.sg <= 1000000000000000000) (hz : ps.length + 3 < 16000000) :
  ∃ (n : Nat) (ps' : List Pc) (h' : AH) (m : Ms),Dn (ya4 [.ref p,.int a,.int b]) p h h' ps ps' 3 n /\ Tx ps' n m (x++y) fa lb /\ max ma.ht mb.ht <= m.ht /\ m.ht <= max ma.ht mb.ht + 1 /\ (ma.ht - mb.ht <= 1 -> m.ht = max ma.ht mb.ht + 1):=by
 by_cases q : ma.ht - mb.ht < 2
 ·obtain ⟨n,ps',h',d,T⟩:=zay S g A B hc (by lia) (by lia) hm (by lia)
  refine ⟨n,ps',h',_,d.as S g (fun hh pp S' _ pr=>tr_1 S' (zac pr A.ms) (zac pr B.ms) q) (by lia),T,?_⟩
  rw [fmH]; lia
 ·obtain ⟨c,d,mc,md,y1,y2,lc,fd,e,C,D,rfl,em,w1,w2,w3⟩:=g.cut A (by have:=B.ky.ht; lia)
  have sg:=congrArg Ms.sg em
  have ht:=congrArg Ms.ht em
  rw [fmS] at sg
  rw [fmH] at ht
  by_cases r : md.ht <= mc.ht
  ·obtain ⟨n1,ps1,h1,d1,T1⟩:=zay S g D B hc (by lia) (by lia) (by lia) (by lia)
   obtain ⟨n2,ps2,h2,d2,T2⟩:=zay d1.dd.sh d1.dd.gd (C.pre d1.dd.pre) T1 w3 (by rw [fmH]; lia) (by rw [fmH]; lia) (by rw [fmS]; lia) (by have:=d1.dd.len; lia)
   rw [<- zai] at T2
   refine ⟨n2,ps2,h2,_,Dn.seq (F2:=fun v h1=>yae [.ref p,.int c,v] h1) S g d1 d2 (fun hh pp S' _ pr=>tr_2 S' A.n1 (zac pr A.ms) (zac pr B.ms) (ybm pr e) (zac pr C.ms) (zac pr D.ms) q r) (by lia),T2,?_⟩
   rw [fmH,fmH]; lia
  ·obtain ⟨i,j,mi,mj,z1,z2,li,fj,e2,I,J,rfl,em2,u1,u2,u3⟩:=g.cut D (by have:=C.ky.ht; lia)
   have sg2:=congrArg Ms.sg em2
   have ht2:=congrArg Ms.ht em2
   rw [fmS] at sg2
   rw [fmH] at ht2
   obtain ⟨n1,ps1,h1,d1,T1⟩:=zay S g C I w3 (by lia) (by lia) (by lia) (by lia)
   obtain ⟨n2,ps2,h2,d2,T2⟩:=zay d1.dd.sh d1.dd.gd (J.pre d1.dd.pre) (B.pre d1.dd.pre) hc (by lia) (by lia) (by lia) (by have:=d1.dd.len; lia)
   obtain ⟨n3,ps3,h3,d3,T3⟩:=zay d2.dd.sh d2.dd.gd (T1.pre d2.dd.pre) T2 u3 (by rw [fmH,fmH]; lia) (by rw [fmH,fmH]; lia) (by rw [fmS,fmS]; lia) (by have:=d1.dd.len; have:=d2.dd.len; lia)
   have d2' : Dn (onSh p (yae [.ref p,.int j,.int b])) p h1 h2 ps1 ps2 1 n2:=d2.as d1.dd.sh d1.dd.gd (fun hh pp S' _ _=>zfH S' _) (Nat.le_refl _)
   have d23:=Dn.seq (F:=fun h1=>(onSh p (yae [.ref p,.int j,.int b]) h1).bind fun w h2=>yae [.ref p,.int n1,w] h2) (F2:=fun w h2=>yae [.ref p,.int n1,w] h2) d1.dd.sh d1.dd.gd d2' d3 (fun _ _ _ _ _=>rfl) (k:=2) (by lia)
   have ea : (y1++z1)++(z2++y) = y1++(z1++z2)++y:=by rw [zai,zai,zai]
   rw [ea] at T3
   refine ⟨n3,ps3,h3,_,Dn.seq (F2:=fun v h1=>(onSh p (yae [.ref p,.int j,.int b]) h1).bind fun w h2=>yae [.ref p,v,w] h2) S g d1 d23 (fun hh pp S' _ pr=>tr_3 S' A.n1 D.n1 (zac pr A.ms) (zac pr B.ms) (ybm pr e) (zac pr C.ms) (zac pr D.ms) (ybm pr e2) q r) (by lia),T3,?_⟩
   rw [fmH,fmH,fmH]; lia
end Sk
namespace Sk
open PySem PySem.Spec L2 Sm
theorem Dn.seq' {F F1 F2 : AH -> Out AV} {p : Nat} {h h1 h2 : AH} {ps ps1 ps2 : List Pc} {k1 k2 k n1 n2 : Nat} (S : ShelfAt h p ps) (g : Good ps) (d1 : Dn F1 p h h1 ps ps1 k1 n1) (d2 : Dn F2 p h1 h2 ps1 ps2 k2 n2)
  (eq : ∀ hh hh1 pp,ShelfAt hh p pp -> Good pp -> ps <+: pp -> F1 hh = .ok (.int n1) hh1 -> F hh = F2 hh1) (hk : k1 + k2 <= k) : Dn F p h h2 ps ps2 k n2:=by
 refine ⟨?_,d1.dd.trans d2.dd hk,fun h3 ps3 S3 g3 p3=>?_⟩
 ·rw [eq h h1 ps S g (List.prefix_refl _) d1.ev]; exact d2.ev
 ·rw [eq h3 h3 ps3 S3 g3 (d1.dd.pre.trans (d2.dd.pre.trans p3)) (d1.re h3 ps3 S3 g3 (d2.dd.pre.trans p3))]
  exact d2.re h3 ps3 S3 g3 p3
theorem lk_1 {h : AH} {p : Nat} {ps : List Pc} {a b d : Nat} {ma mb : Ms} (S : ShelfAt h p ps) (ea : (meas ps)[a]? = some ma) (eb : (meas ps)[b]? = some mb) (h1 : ma.ht - mb.ht <= 1) (h2 : -1 <= ma.ht - mb.ht) :
  ybf (d + 1) [.ref p,.int a,.int b] h = yae [.ref p,.int a,.int b] h:=by
 have f1:=zaf S ea
 have f2:=zaf S eb
 have c1 : ¬ 1 < ma.ht - mb.ht:=by lia
 have c2 : ¬ ma.ht - mb.ht < -1:=by lia
 generalize hF : yae [.ref p,.int a,.int b] h = R
 simp [ybf,ydR,S.ob,f1,f2,c1,c2,hF]
 cases R<;>rfl
theorem lk_2 {h h1 : AH} {p : Nat} {ps : List Pc} {a b c e d : Nat} {v : Int} {ma mb : Ms} (S : ShelfAt h p ps) (a1 : 1 <= a) (ea : (meas ps)[a]? = some ma) (eb : (meas ps)[b]? = some mb) (ep : ps[a - 1]? = some (.fork c e)) (hd : 1 < ma.ht - mb.ht) (ev : ybf d [.ref p,.int e,.int b] h = .ok (.int v) h1) :
  ybf (d + 1) [.ref p,.int a,.int b] h = yaY [.ref p,.int c,.int v] h1:=by
 have f1:=zaf S ea
 have f2:=zaf S eb
 have f3:=zaD S a1 ep
 generalize hF : yaY [.ref p,.int c,.int v] h1 = R
 simp [ybf,ydR,S.ob,f1,f2,hd,f3,i1,i2,ev,hF,-fIx]
 cases R<;>rfl
theorem lk_3 {h h1 : AH} {p : Nat} {ps : List Pc} {a b c e d : Nat} {v : Int} {ma mb : Ms} (S : ShelfAt h p ps) (b1 : 1 <= b) (ea : (meas ps)[a]? = some ma) (eb : (meas ps)[b]? = some mb) (ep : ps[b - 1]? = some (.fork c e)) (hd : ma.ht - mb.ht < -1) (ev : ybf d [.ref p,.int a,.int c] h = .ok (.int v) h1) :
  ybf (d + 1) [.ref p,.int a,.int b] h = ya4 [.ref p,.int v,.int e] h1:=by
 have f1:=zaf S ea
 have f2:=zaf S eb
 have f3:=zaD S b1 ep
 have c1 : ¬ 1 < ma.ht - mb.ht:=by lia
 generalize hF : ya4 [.ref p,.int v,.int e] h1 = R
 simp [ybf,ydR,S.ob,f1,f2,c1,hd,f3,i1,i2,ev,hF,-fIx]
 cases R<;>rfl
theorem zbU {p : Nat} : ∀ (d t : Nat) {h : AH} {ps : List Pc} {a b : Nat} {ma mb fa la fb lb : Ms} {x y : Str} (S : ShelfAt h p ps) (g : Good ps) (A : Tx ps a ma x fa la) (B : Tx ps b mb y fb lb) (hc : 8 < la.sg + fb.sg) (hm : ma.sg + mb.sg <= 1000000000000000000)
  (ht : (ma.ht - mb.ht).natAbs <= t) (hd : t < d) (hz : ps.length + 3 * t + 4 < 16000000),
  ∃ (n : Nat) (ps' : List Pc) (h' : AH) (m : Ms),Dn (ybf d [.ref p,.int a,.int b]) p h h' ps ps' (3 * t + 1) n /\ Tx ps' n m (x++y) fa lb /\ max ma.ht mb.ht <= m.ht /\ m.ht <= max ma.ht mb.ht + 1
 | 0,t,h,ps,a,b,ma,mb,fa,la,fb,lb,x,y,S,g,A,B,hc,hm,ht,hd,hz=>absurd hd (Nat.not_lt_zero t)
 | d + 1,t,h,ps,a,b,ma,mb,fa,la,fb,lb,x,y,S,g,A,B,hc,hm,ht,hd,hz=>by
  by_cases q1 : 1 < ma.ht - mb.ht
  ·obtain ⟨c,e,mc,me,y1,y2,lc,fe,ep,C,E,rfl,em,w1,w2,w3⟩:=g.cut A (by have:=B.ky.ht; lia)
   have sg:=congrArg Ms.sg em
   have hh:=congrArg Ms.ht em
   rw [fmS] at sg
   rw [fmH] at hh
   obtain ⟨n1,ps1,h1,m1,d1,T1,u1,u2⟩:=zbU d (t - 1) S g E B hc (by lia) (by lia) (by lia) (by lia)
   have s1 : m1.sg = me.sg + mb.sg:=by rw [T1.ky.sg,zaq,<- E.ky.sg,<- B.ky.sg]
   obtain ⟨n2,ps2,h2,m2,d2,T2,u3,u4,u5⟩:=zfI d1.dd.sh d1.dd.gd (C.pre d1.dd.pre) T1 w3 (by lia) (by lia) (by lia) (by have:=d1.dd.len; lia)
   rw [<- zai] at T2
   exact ⟨n2,ps2,h2,m2,Dn.seq' S g d1 d2 (fun hh hh1 pp S' _ pr ev=>lk_2 S' A.n1 (zac pr A.ms) (zac pr B.ms) (ybm pr ep) q1 ev) (by lia),T2,by lia,by lia⟩
  ·by_cases q2 : ma.ht - mb.ht < -1
   ·obtain ⟨c,e,mc,me,y1,y2,lc,fe,ep,C,E,rfl,em,w1,w2,w3⟩:=g.cut B (by have:=A.ky.ht; lia)
    have sg:=congrArg Ms.sg em
    have hh:=congrArg Ms.ht em
    rw [fmS] at sg
    rw [fmH] at hh
    obtain ⟨n1,ps1,h1,m1,d1,T1,u1,u2⟩:=zbU d (t - 1) S g A C hc (by lia) (by lia) (by lia) (by lia)
    have s1 : m1.sg = ma.sg + mc.sg:=by rw [T1.ky.sg,zaq,<- A.ky.sg,<- C.ky.sg]
    obtain ⟨n2,ps2,h2,m2,d2,T2,u3,u4,u5⟩:=zhV d1.dd.sh d1.dd.gd T1 (E.pre d1.dd.pre) w3 (by lia) (by lia) (by lia) (by have:=d1.dd.len; lia)
    rw [zai] at T2
    exact ⟨n2,ps2,h2,m2,Dn.seq' S g d1 d2 (fun hh hh1 pp S' _ pr ev=>lk_3 S' B.n1 (zac pr A.ms) (zac pr B.ms) (ybm pr ep) q2 ev) (by lia),T2,by lia,by lia⟩
   ·obtain ⟨n,ps',h',dn,T⟩:=zay S g A B hc (by lia) (by lia) hm (by lia)
    exact ⟨n,ps',h',_,dn.as S g (fun hh pp S' _ pr=>lk_1 S' (zac pr A.ms) (zac pr B.ms) (by lia) (by lia)) (by lia),T,by rw [fmH]; lia,by rw [fmH]; lia⟩
theorem zbc {h : AH} {p : Nat} {ps : List Pc} {n : Nat} {x : Str} (S : ShelfAt h p ps) (n1 : 1 <= n) (e : ps[n - 1]? = some (.leaf x)) : yaH [.ref p,.int n] h = .ok (.tup [.str "leaf",.str x]) h:=zeB S n1 e
theorem i0L (x : Str) (h : AH) : fIx (.tup [.str "leaf",.str x]) (.int 0) h = .ok (.str "leaf") h:=rfl
theorem i0F (a b : Int) (h : AH) : fIx (.tup [.str "fork",.int a,.int b]) (.int 0) h = .ok (.str "fork") h:=rfl
theorem i1L (x : Str) (h : AH) : fIx (.tup [.str "leaf",.str x]) (.int 1) h = .ok (.str x) h:=rfl
theorem eqL (h : AH) : fEq (.str "leaf") (.str "leaf") h = .ok (.bl true) h:=by simp
theorem eqF (h : AH) : fEq (.str "fork") (.str "leaf") h = .ok (.bl false) h:=by
 have : ¬ (Str.ofString "fork" = Str.ofString "leaf"):=by decide +kernel
 simp [this]
theorem wl_1 {h : AH} {p : Nat} {ps : List Pc} {a d : Nat} {L : Int} {x : Str} (S : ShelfAt h p ps) (a1 : 1 <= a) (ep : ps[a - 1]? = some (.leaf x)) : ybg (d + 1) [.ref p,.int a,.int L] h = .ok (.int L) h:=by
 simp [ybg,ydD,S.ob,zbc S a1 ep,i0L,eqL,-fIx,-fEq]
theorem wl_2 {h h1 : AH} {p : Nat} {ps : List Pc} {a d c e : Nat} {L v : Int} (S : ShelfAt h p ps) (a1 : 1 <= a) (ep : ps[a - 1]? = some (.fork c e)) (ev : ybg d [.ref p,.int e,.int L] h = .ok (.int v) h1) :
  ybg (d + 1) [.ref p,.int a,.int L] h = yae [.ref p,.int c,.int v] h1:=by
 generalize hF : yae [.ref p,.int c,.int v] h1 = R
 simp [ybg,ydD,S.ob,zaD S a1 ep,i0F,i1,i2,eqF,ev,hF,-fIx,-fEq]
 cases R<;>rfl
theorem zcm {ps : List Pc} {n : Nat} {m : Ms} {x : Str} {f l : Ms} (T : Tx ps n m x f l) (e : m = lfMs x n) : f = m /\ l = m:=by
 have h1:=T.ky.fl
 have h2:=T.ky.ll
 have h3:=T.ms
 rw [e] at h1 h2
 exact ⟨Option.some.inj (h1.symm.trans h3),Option.some.inj (h2.symm.trans h3)⟩
theorem zfJ {p : Nat} : ∀ (d : Nat) {h : AH} {ps : List Pc} {a L : Nat} {m f l : Ms} {x w : Str} (S : ShelfAt h p ps) (g : Good ps) (T : Tx ps a m x f l) (N : Tx ps L (lfMs w L) w (lfMs w L) (lfMs w L)) (hw : l.sg <= w.length) (hm : m.sg + w.length <= 1000000000000000000 + l.sg) (hd : m.ht.toNat < d) (hz : ps.length + m.ht.toNat < 16000000),
  ∃ (n : Nat) (ps' : List Pc) (h' : AH) (m' f' : Ms) (u v : Str),Dn (ybg d [.ref p,.int a,.int L]) p h h' ps ps' m.ht.toNat n /\ x = u++v /\ v.length = l.sg /\ Tx ps' n m' (u++w) f' (lfMs w L) /\ m'.ht = m.ht /\ f.sg <= f'.sg
 | 0,h,ps,a,L,m,f,l,x,w,S,g,T,N,hw,hm,hd,hz=>absurd hd (Nat.not_lt_zero _)
 | d + 1,h,ps,a,L,m,f,l,x,w,S,g,T,N,hw,hm,hd,hz=>by
  by_cases q : 0 < m.ht
  ·obtain ⟨c,e,mc,me,y1,y2,lc,fe,ep,C,E,rfl,em,w1,w2,w3⟩:=g.cut T q
   have sg:=congrArg Ms.sg em
   have hh:=congrArg Ms.ht em
   rw [fmS] at sg
   rw [fmH] at hh
   have c0:=C.ky.ht
   have e0:=E.ky.ht
   obtain ⟨n1,ps1,h1,m1,f1,u,v,d1,rfl,lv,T1,k1,k2⟩:=zfJ d S g E N hw (by lia) (by lia) (by lia)
   have s1 : m1.sg + l.sg = me.sg + w.length:=by rw [T1.ky.sg,E.ky.sg,zaq,zaq]; lia
   obtain ⟨n2,ps2,h2,d2,T2⟩:=zay d1.dd.sh d1.dd.gd (C.pre d1.dd.pre) T1 (by lia) (by lia) (by lia) (by lia) (by have:=d1.dd.len; lia)
   rw [<- zai] at T2
   exact ⟨n2,ps2,h2,_,f,y1++u,v,Dn.seq' S g d1 d2 (fun hh hh1 pp S' _ pr ev=>wl_2 S' T.n1 (ybm pr ep) ev) (by lia),by rw [zai],lv,T2,by rw [fmH,k1,hh],Nat.le_refl _⟩
  ·rcases g.kind T with ⟨e1,e2,e3,e4,e5⟩ | ⟨c,e,mc,me,y1,y2,fc,lc,fe,le,e1,e2,e3,C,E,e4,e5,e6⟩
   ·obtain ⟨z1,z2⟩:=zcm T e3
    subst z1 z2
    have em : ("" : Str)++x = x:=zae (by rw [zal]; rfl)
    have em2 : ("" : Str)++w = w:=zae (by rw [zal]; rfl)
    have dv : Dn (ybg (d + 1) [.ref p,.int a,.int L]) p h h ps ps 0 L:=Dn.val S g fun hh pp S' _ pr=>wl_1 S' T.n1 (ybm pr e1)
    refine ⟨L,ps,h,_,_, "",x,dv.as S g (fun _ _ _ _ _=>rfl) (Nat.zero_le _),em.symm,T.ky.sg.symm,by rw [em2]; exact N,e2.symm,hw⟩
   ·have:=congrArg Ms.ht e5
    rw [fmH] at this
    have c0:=C.ky.ht
    lia
theorem wf_1 {h : AH} {p : Nat} {ps : List Pc} {a d : Nat} {x : Str} (S : ShelfAt h p ps) (a1 : 1 <= a) (ep : ps[a - 1]? = some (.leaf x)) : yaE (d + 1) [.ref p,.int a] h = .ok (.int (0 : Nat)) h:=by
 simp [yaE,yb6,S.ob,zbc S a1 ep,i0L,eqL,-fIx,-fEq]
theorem wf_2 {h h1 : AH} {p : Nat} {ps : List Pc} {a d c e : Nat} (S : ShelfAt h p ps) (a1 : 1 <= a) (ep : ps[a - 1]? = some (.fork c e)) (ev : yaE d [.ref p,.int c] h = .ok (.int (0 : Nat)) h1) :
  yaE (d + 1) [.ref p,.int a] h = .ok (.int e) h1:=by
 have z : fEq (.int 0) (.int 0) h1 = .ok (.bl true) h1:=by simp
 simp [yaE,yb6,S.ob,zaD S a1 ep,i0F,i1,i2,eqF,ev,z,-fIx,-fEq]
theorem wf_3 {h h1 : AH} {p : Nat} {ps : List Pc} {a d c e v : Nat} (S : ShelfAt h p ps) (a1 : 1 <= a) (ep : ps[a - 1]? = some (.fork c e)) (v1 : 1 <= v) (ev : yaE d [.ref p,.int c] h = .ok (.int v) h1) :
  yaE (d + 1) [.ref p,.int a] h = yaY [.ref p,.int v,.int e] h1:=by
 have z : fEq (.int (v : Int)) (.int 0) h1 = .ok (.bl false) h1:=by
  have : ¬ (v = 0):=by lia
  simp [this]
 generalize hF : yaY [.ref p,.int v,.int e] h1 = R
 simp [yaE,yb6,S.ob,zaD S a1 ep,i0F,i1,i2,eqF,ev,z,hF,-fIx,-fEq]
 cases R<;>rfl
end Sk
namespace Sk
open PySem PySem.Spec L2 Sm
theorem zeC {p : Nat} : ∀ (d : Nat) {h : AH} {ps : List Pc} {a : Nat} {m f l : Ms} {x : Str} (S : ShelfAt h p ps) (g : Good ps) (T : Tx ps a m x f l) (hd : m.ht.toNat < d) (hz : ps.length + 3 * m.ht.toNat < 16000000),
  (m.ht = 0 /\ f.sg = x.length /\ Dn (yaE d [.ref p,.int a]) p h h ps ps 0 0) \/
  (0 < m.ht /\ ∃ (n : Nat) (ps' : List Pc) (h' : AH) (m' f2 : Ms) (u v : Str),Dn (yaE d [.ref p,.int a]) p h h' ps ps' (3 * m.ht.toNat) n /\ x = u++v /\ u.length = f.sg /\ Tx ps' n m' v f2 l /\ m.ht - 1 <= m'.ht /\ m'.ht <= m.ht /\ 8 < f.sg + f2.sg)
 | 0,h,ps,a,m,f,l,x,S,g,T,hd,hz=>absurd hd (Nat.not_lt_zero _)
 | d + 1,h,ps,a,m,f,l,x,S,g,T,hd,hz=>by
  by_cases q : 0 < m.ht
  ·obtain ⟨c,e,mc,me,y1,y2,lc,fe,ep,C,E,rfl,em,w1,w2,w3⟩:=g.cut T q
   have sg:=congrArg Ms.sg em
   have hh:=congrArg Ms.ht em
   rw [fmS] at sg
   rw [fmH] at hh
   have c0:=C.ky.ht
   have e0:=E.ky.ht
   have most:=T.ky.most
   refine .inr ⟨q,?_⟩
   rcases zeC d S g C (by lia) (by lia) with ⟨k1,k2,d1⟩ | ⟨k1,n1,ps1,h1,m1,f2,u,v,d1,rfl,lu,T1,r1,r2,r3⟩
   ·rcases g.kind C with ⟨e1,e2,e3,e4,e5⟩ | ⟨_,_,mx,my,_,_,_,_,_,_,_,_,_,X,Y,_,e5,_⟩
    ·obtain ⟨z1,z2⟩:=zcm C e3
     have dv : Dn (yaE (d + 1) [.ref p,.int a]) p h h ps ps 0 e:=by
      refine ⟨wf_2 S T.n1 ep d1.ev,Dd.refl S g,fun h3 ps3 S3 g3 p3=>wf_2 S3 T.n1 (ybm p3 ep) (d1.re h3 ps3 S3 g3 p3)⟩
     exact ⟨e,ps,h,me,fe,y1,y2,dv.as S g (fun _ _ _ _ _=>rfl) (Nat.zero_le _),rfl,k2.symm,E,by lia,by lia,by rw [z1]; rw [z2] at w3; exact w3⟩
    ·have:=congrArg Ms.ht e5
     rw [fmH] at this
     have:=X.ky.ht
     lia
   ·have s1 : m1.sg + f.sg = mc.sg:=by rw [T1.ky.sg,C.ky.sg,zaq]; lia
    obtain ⟨n2,ps2,h2,m2,d2,T2,u3,u4,u5⟩:=zfI d1.dd.sh d1.dd.gd T1 (E.pre d1.dd.pre) w3 (by lia) (by lia) (by lia) (by have:=d1.dd.len; lia)
    refine ⟨n2,ps2,h2,m2,f2,u,v++y2,Dn.seq' S g d1 d2 (fun hh hh1 pp S' _ pr ev=>wf_3 S' T.n1 (ybm pr ep) T1.n1 ev) (by lia),by rw [zai],lu,T2,?_,?_,r3⟩
    ·lia
    ·lia
  ·rcases g.kind T with ⟨e1,e2,e3,e4,e5⟩ | ⟨_,_,mx,my,_,_,_,_,_,_,_,_,_,X,Y,_,e5,_⟩
   ·obtain ⟨z1,z2⟩:=zcm T e3
    exact .inl ⟨e2,by rw [z1]; exact T.ky.sg,Dn.val S g fun hh pp S' _ pr=>wf_1 S' T.n1 (ybm pr e1)⟩
   ·have:=congrArg Ms.ht e5
    rw [fmH] at this
    have:=X.ky.ht
    lia
theorem Good.ends {ps : List Pc} (g : Good ps) : ∀ (k n : Nat) {m f l : Ms} {x : Str},n <= k -> Tx ps n m x f l ->
  (∃ w u : Str,1 <= m.fl /\ ps[m.fl - 1]? = some (.leaf w) /\ x = w++u /\ w.length = f.sg) /\ (∃ w u : Str,1 <= m.ll /\ ps[m.ll - 1]? = some (.leaf w) /\ x = u++w /\ w.length = l.sg)
 | 0,n,m,f,l,x,hn,T=>absurd T.n1 (by lia)
 | k + 1,n,m,f,l,x,hn,T=>by
  rcases g.kind T with ⟨e1,e2,e3,e4,e5⟩ | ⟨a,b,ma,mb,y,z,fa,la,fb,lb,e1,e2,e3,A,B,rfl,e5,e6⟩
  ·obtain ⟨z1,z2⟩:=zcm T e3
   have em : ("" : Str)++x = x:=zae (by rw [zal]; rfl)
   have em2 : x++("" : Str) = x:=zae (by rw [zal]; simp; rfl)
   have hf : m.fl = n:=by rw [e3]; rfl
   have hl : m.ll = n:=by rw [e3]; rfl
   have hx:=T.ky.sg
   refine ⟨⟨x, "",by rw [hf]; exact T.n1,by rw [hf]; exact e1,em2.symm,by rw [z1]; exact hx.symm⟩,⟨x, "",by rw [hl]; exact T.n1,by rw [hl]; exact e1,em.symm,by rw [z2]; exact hx.symm⟩⟩
  ·have q1:=g.ends k a (by lia) A
   have q2:=g.ends k b (by lia) B
   obtain ⟨⟨w,u,a1,a2,rfl,a4⟩,_⟩:=q1
   obtain ⟨_,⟨w2,u2,b1,b2,rfl,b4⟩⟩:=q2
   have f1:=T.ky.fl
   have l1:=T.ky.ll
   have hf : m.fl = ma.fl:=by rw [e5]; rfl
   have hl : m.ll = mb.ll:=by rw [e5]; rfl
   rw [hf] at f1
   rw [hl] at l1
   have z5:=f1.symm.trans A.ky.fl; cases z5
   have z6:=l1.symm.trans B.ky.ll; cases z6
   rw [hf,hl]
   exact ⟨⟨w,u++(u2++w2),a1,a2,by rw [zai],a4⟩,⟨w2,w++u++u2,b1,b2,by rw [zai (w++u)],b4⟩⟩
theorem zfK {a b c d : Str} (e : a++b = c++d) (h : a.length = c.length) : a = c /\ b = d:=by
 have:=congrArg (fun z : Str=>z.cps.toList) e
 simp only [zal] at this
 obtain ⟨h1,h2⟩:=List.append_inj this (by rw [<- zad,<- zad]; exact h)
 exact ⟨zae h1,zae h2⟩
theorem zhW {a b c d : Str} (e : a++b = c++d) (h : b.length = d.length) : a = c /\ b = d:=by
 refine zfK e ?_
 have:=congrArg Str.length e
 rw [zaq,zaq] at this
 lia
theorem zi8 {h : AH} {p : Nat} {ps : List Pc} {a b : Nat} {ma mb la fb : Ms} (S : ShelfAt h p ps) (ea : (meas ps)[a]? = some ma) (eb : (meas ps)[b]? = some mb) (el : (meas ps)[ma.ll]? = some la) (ef : (meas ps)[mb.fl]? = some fb) :
  yc0 [.ref p,.int a,.int b] h = .ok (.bl (decide (8 < la.sg + fb.sg))) h:=by
 have e1:=yfL S ea
 have e2:=zfF S eb
 have e3:=zav S el
 have e4:=zav S ef
 have : decide ((8 : Int) < (la.sg : Int) + fb.sg) = decide (8 < la.sg + fb.sg):=by apply decide_eq_decide.mpr; lia
 simp [yc0,S.ob,e1,e2,e3,e4,this]
theorem zhX {w v : Str} (hw : w.length + v.length <= 100) (h : AH) : fAdd (.str w) (.str v) h = .ok (.str (w++v)) h:=by
 have : w.length + v.length <= sizeLine:=Nat.le_trans hw (by decide)
 simp [fAdd,this]
theorem wd_1 {h h1 h2 h3 : AH} {p : Nat} {ps : List Pc} {a b : Nat} {L n k : Int} {ma mb : Ms} {w v : Str} (S : ShelfAt h p ps) (ea : (meas ps)[a]? = some ma) (eb : (meas ps)[b]? = some mb) (l1 : 1 <= ma.ll) (f1 : 1 <= mb.fl) (el : ps[ma.ll - 1]? = some (.leaf w)) (ef : ps[mb.fl - 1]? = some (.leaf v)) (hw : w.length + v.length <= 100)
  (e1 : ya2 [.ref p,.str (w++v)] h = .ok (.int L) h1) (e2 : ybg 90 [.ref p,.int a,.int L] h1 = .ok (.int n) h2) (e3 : yaE 90 [.ref p,.int b] h2 = .ok (.int k) h3) :
  ycr [.ref p,.int a,.int b] h = if k = 0 then .ok (.int n) h3 else ybf 90 [.ref p,.int n,.int k] h3:=by
 have q1:=yfL S ea
 have q2:=zfF S eb
 have q3:=zbc S l1 el
 have q4:=zbc S f1 ef
 have ad:=zhX hw h
 unfold ycr
 generalize ybg 90 = WL at *
 generalize yaE 90 = WF at *
 generalize hF : ybf 90 = LK at *
 by_cases z : k = 0
 ·subst z
  have zz : fEq (.int 0) (.int 0) h3 = .ok (.bl true) h3:=by simp
  simp [S.ob,q1,q2,q3,q4,i1L,ad,e1,e2,e3,zz,-fIx,-fEq,-fAdd]
 ·have zz : fEq (.int k) (.int 0) h3 = .ok (.bl false) h3:=by simp [z]
  rw [if_neg z]
  generalize hR : LK [.ref p,.int n,.int k] h3 = R
  simp [S.ob,q1,q2,q3,q4,i1L,ad,e1,e2,e3,zz,hR,-fIx,-fEq,-fAdd]
  cases R<;>rfl
end Sk
namespace Sk
open PySem PySem.Spec L2 Sm
theorem zg7 {w v : Str} (h1 : 1 <= w.length) (h2 : w.length + v.length <= 8) (pw : yaC w = true) (pv : yaC v = true) : ybp (w++v) = true:=by
 unfold ybp
 rw [zaU,zaq,pw,pv]
 simp; lia
theorem zhY {h : AH} {p : Nat} {ps : List Pc} {a b : Nat} {ma mb fa la fb lb : Ms} {x y : Str} (S : ShelfAt h p ps) (g : Good ps) (A : Tx ps a ma x fa la) (B : Tx ps b mb y fb lb) (hc : ¬ 8 < la.sg + fb.sg) (hm : ma.sg + mb.sg <= 1000000000000000000) (hz : ps.length < 15000000) :
  ∃ (n : Nat) (ps' : List Pc) (h' : AH) (m f l : Ms),Dn (ycr [.ref p,.int a,.int b]) p h h' ps ps' (7 * (max ma.ht mb.ht).toNat + 2) n /\ Tx ps' n m (x++y) f l /\ m.ht <= max ma.ht mb.ht + 1:=by
 obtain ⟨_,w,u,l1,el,ex,lw⟩:=g.ends a a (Nat.le_refl _) A
 obtain ⟨⟨v,t,f1,ef,ey,lv⟩,_⟩:=g.ends b b (Nat.le_refl _) B
 have a0:=A.ky.ht
 have b0:=B.ky.ht
 have ha:=ht82 g A
 have hb:=ht82 g B
 have px : yaC x = true:=A.ky.pl
 have py : yaC y = true:=B.ky.pl
 have pw : yaC w = true:=by rw [ex,zaU,Bool.and_eq_true] at px; exact px.2
 have pv : yaC v = true:=by rw [ey,zaU,Bool.and_eq_true] at py; exact py.1
 have la1:=A.ky.l1
 have fb1:=B.ky.f1
 have sx:=A.ky.sg
 have sy:=B.ky.sg
 have lx : x.length = u.length + w.length:=by rw [ex,zaq]
 have ly : y.length = v.length + t.length:=by rw [ey,zaq]
 have lwv : (w++v).length = w.length + v.length:=zaq w v
 obtain ⟨L,ps1,h1,d1,N⟩:=zfG S g (zg7 (w:=w) (v:=v) (by lia) (by lia) pw pv) (by lia)
 have z1:=d1.dd.len
 obtain ⟨n2,ps2,h2,m2,f2,u2,v2,d2,ex2,lv2,T2,k1,k2⟩:=zfJ 90 d1.dd.sh d1.dd.gd (A.pre d1.dd.pre) N (by lia) (by lia) (by lia) (by lia)
 have z2:=d2.dd.len
 obtain ⟨rfl,rfl⟩ : u = u2 /\ w = v2:=zhW (ex.symm.trans ex2) (by lia)
 have s2 : m2.sg = u.length + (w.length + v.length):=by rw [T2.ky.sg,zaq,zaq]
 have p12:=d1.dd.pre.trans d2.dd.pre
 have lm : (lfMs (w++v) L).sg = w.length + v.length:=zaq w v
 have tb : ∀ q : Int,0 <= q -> q <= max ma.ht mb.ht -> q.toNat <= (max ma.ht mb.ht).toNat:=fun q _ _=>by lia
 rcases zeC 90 d2.dd.sh d2.dd.gd (B.pre p12) (by lia) (by lia) with ⟨r1,r2,d3⟩ | ⟨r1,n3,ps3,h3,m3,f3,u3,v3,d3,ey3,lu3,T3,r2,r3,r4⟩
 ·have t0 : t.length = 0:=by lia
  have te : t = "" := zae (by rw [zad] at t0; rw [List.length_eq_zero_iff.mp t0]; rfl)
  have rd : u++(w++v) = x++y:=by
   rw [ex,ey,te,zai]
   congr 2
  rw [rd] at T2
  refine ⟨n2,ps2,h2,m2,f2,_,⟨?_,d1.dd.trans d2.dd (by lia),fun h4 ps4 S4 g4 p4=>?_⟩,T2,by lia⟩
  ·rw [wd_1 S A.ms B.ms l1 f1 el ef (by lia) d1.ev d2.ev d3.ev]; rfl
  ·have q1:=d1.re h4 ps4 S4 g4 (d2.dd.pre.trans p4)
   have q2:=d2.re h4 ps4 S4 g4 p4
   have q3:=d3.re h4 ps4 S4 g4 p4
   rw [wd_1 S4 (zac (p12.trans p4) A.ms) (zac (p12.trans p4) B.ms) l1 f1 (ybm (p12.trans p4) el) (ybm (p12.trans p4) ef) (by lia) q1 q2 q3]; rfl
 ·obtain ⟨rfl,rfl⟩ : v = u3 /\ t = v3:=zfK (ey.symm.trans ey3) (by lia)
  have z3:=d3.dd.len
  have s3 : m3.sg = t.length:=T3.ky.sg
  have m30:=T3.ky.ht
  obtain ⟨n4,ps4,h4,m4,d4,T4,r5,r6⟩:=zbU 90 (max ma.ht mb.ht).toNat d3.dd.sh d3.dd.gd (T2.pre d3.dd.pre) T3 (by lia) (by lia) (by lia) (by lia) (by lia)
  have rd : (u++(w++v))++t = x++y:=by rw [ex,ey,zai,zai,zai]
  rw [rd] at T4
  have n3z : ¬ (n3 : Int) = 0:=by have:=T3.n1; lia
  have p123:=p12.trans d3.dd.pre
  refine ⟨n4,ps4,h4,m4,f2,lb,⟨?_,((d1.dd.trans d2.dd (Nat.le_refl _)).trans d3.dd (Nat.le_refl _)).trans d4.dd (by lia),fun h5 ps5 S5 g5 p5=>?_⟩,T4,by lia⟩
  ·rw [wd_1 S A.ms B.ms l1 f1 el ef (by lia) d1.ev d2.ev d3.ev,if_neg n3z]; exact d4.ev
  ·have p45:=d4.dd.pre.trans p5
   have q1:=d1.re h5 ps5 S5 g5 (d2.dd.pre.trans (d3.dd.pre.trans p45))
   have q2:=d2.re h5 ps5 S5 g5 (d3.dd.pre.trans p45)
   have q3:=d3.re h5 ps5 S5 g5 p45
   have q4:=d4.re h5 ps5 S5 g5 p5
   have pa:=p123.trans p45
   rw [wd_1 S5 (zac pa A.ms) (zac pa B.ms) l1 f1 (ybm pa el) (ybm pa ef) (by lia) q1 q2 q3,if_neg n3z]; exact q4
def TxZ (ps : List Pc) (n : Nat) (y : Str) : Prop:=(n = 0 /\ y = "") \/ ∃ m f l,Tx ps n m y f l
theorem TxZ.pre {ps ps' : List Pc} {n : Nat} {y : Str} (t : TxZ ps n y) (h : ps <+: ps') : TxZ ps' n y:=by
 rcases t with t | ⟨m,f,l,t⟩
 ·exact .inl t
 ·exact .inr ⟨m,f,l,t.pre h⟩
theorem zbs (ps : List Pc) : (meas ps)[0]? = some ms0:=by
 obtain ⟨r,e,_⟩:=zbf ycE ps [ms0]
 rw [meas,e]; rfl
def htOf (ps : List Pc) (n : Nat) : Int:=((meas ps).getD n ms0).ht
theorem yeJ {ps : List Pc} {n : Nat} {m : Ms} (e : (meas ps)[n]? = some m) : htOf ps n = m.ht:=by unfold htOf; rw [zaM e]
theorem zi9 (ps : List Pc) : htOf ps 0 = -1:=yeJ (zbs ps)
theorem za8 {i : Int} (hi : i <= 1000000000000000000) (h : AH) : ybT [.int i] h = .ok .non h:=by
 have : ¬ (1000000000000000000 : Int) < i:=by lia
 simp [ybT,this]
theorem jn_0 {h : AH} {p : Nat} {ps : List Pc} {b : Nat} {mb : Ms} (S : ShelfAt h p ps) (eb : (meas ps)[b]? = some mb) (hm : mb.sg <= 1000000000000000000) : yaU [.ref p,.int (0 : Nat),.int b] h = .ok (.int b) h:=by
 have e1:=zav S (zbs ps)
 have e2:=zav S eb
 have z : ms0.sg = 0:=rfl
 rw [z] at e1
 have e1' : yaS [.ref p,.int 0] h = .ok (.int 0) h:=e1
 have ck:=za8 (i:=(0 : Int) + mb.sg) (by lia) h
 have zz : fEq (.int 0) (.int 0) h = .ok (.bl true) h:=by simp
 have ad : fAdd (.int 0) (.int mb.sg) h = .ok (.int (0 + mb.sg)) h:=rfl
 simp [yaU,S.ob,e1',e2,ad,ck,zz,-fEq,-fAdd,-Int.zero_add]
theorem jn_1 {h : AH} {p : Nat} {ps : List Pc} {a : Nat} {ma : Ms} (S : ShelfAt h p ps) (a1 : 1 <= a) (ea : (meas ps)[a]? = some ma) (hm : ma.sg <= 1000000000000000000) : yaU [.ref p,.int a,.int (0 : Nat)] h = .ok (.int a) h:=by
 have e1:=zav S (zbs ps)
 have e2:=zav S ea
 have z : ms0.sg = 0:=rfl
 rw [z] at e1
 have e1' : yaS [.ref p,.int 0] h = .ok (.int 0) h:=e1
 have ck:=za8 (i:=(ma.sg : Int) + 0) (by lia) h
 have zz : fEq (.int 0) (.int 0) h = .ok (.bl true) h:=by simp
 have z2 : fEq (.int a) (.int 0) h = .ok (.bl false) h:=by
  have : ¬ a = 0:=by lia
  simp [this]
 have ad : fAdd (.int ma.sg) (.int 0) h = .ok (.int (ma.sg + 0)) h:=rfl
 simp [yaU,S.ob,e1',e2,ad,ck,zz,z2,-fEq,-fAdd,-Int.add_zero]
theorem jn_2 {h : AH} {p : Nat} {ps : List Pc} {a b : Nat} {ma mb la fb : Ms} (S : ShelfAt h p ps) (a1 : 1 <= a) (b1 : 1 <= b) (ea : (meas ps)[a]? = some ma) (eb : (meas ps)[b]? = some mb) (el : (meas ps)[ma.ll]? = some la) (ef : (meas ps)[mb.fl]? = some fb) (hm : ma.sg + mb.sg <= 1000000000000000000) :
  yaU [.ref p,.int a,.int b] h = if 8 < la.sg + fb.sg then ybf 90 [.ref p,.int a,.int b] h else ycr [.ref p,.int a,.int b] h:=by
 have e1:=zav S ea
 have e2:=zav S eb
 have cl:=zi8 S ea eb el ef
 have ck:=za8 (i:=(ma.sg : Int) + mb.sg) (by lia) h
 have z1 : fEq (.int a) (.int 0) h = .ok (.bl false) h:=by
  have : ¬ a = 0:=by lia
  simp [this]
 have z2 : fEq (.int b) (.int 0) h = .ok (.bl false) h:=by
  have : ¬ b = 0:=by lia
  simp [this]
 have ad : fAdd (.int ma.sg) (.int mb.sg) h = .ok (.int (ma.sg + mb.sg)) h:=rfl
 unfold yaU
 generalize ybf 90 = LK at *
 by_cases q : 8 < la.sg + fb.sg
 ·rw [if_pos q]
  generalize hR : LK [.ref p,.int a,.int b] h = R
  simp [S.ob,e1,e2,ad,ck,z1,z2,cl,q,hR,-fEq,-fAdd]
  cases R<;>rfl
 ·rw [if_neg q]
  generalize hR : ycr [.ref p,.int a,.int b] h = R
  simp [S.ob,e1,e2,ad,ck,z1,z2,cl,q,hR,-fEq,-fAdd]
  cases R<;>rfl
theorem TxZ.meas {ps : List Pc} {n : Nat} {y : Str} (t : TxZ ps n y) : ∃ m,(meas ps)[n]? = some m /\ m.sg = y.length:=by
 rcases t with ⟨rfl,rfl⟩ | ⟨m,f,l,T⟩
 ·exact ⟨ms0,zbs ps,rfl⟩
 ·exact ⟨m,T.ms,T.ky.sg⟩
theorem zbg {h : AH} {p : Nat} {ps : List Pc} {a b : Nat} {x y : Str} (S : ShelfAt h p ps) (g : Good ps) (A : TxZ ps a x) (B : TxZ ps b y) (hm : x.length + y.length <= 1000000000000000000) (hz : ps.length < 15000000) :
  ∃ (n : Nat) (ps' : List Pc) (h' : AH),Dn (yaU [.ref p,.int a,.int b]) p h h' ps ps' (16 * (max (htOf ps a) (htOf ps b) + 1).toNat) n /\ TxZ ps' n (x++y):=by
 rcases A with ⟨rfl,rfl⟩ | ⟨ma,fa,la,A⟩
 ·obtain ⟨mb,eb,sb⟩:=B.meas
  have em : ("" : Str)++y = y:=zae (by rw [zal]; rfl)
  have dv : Dn (yaU [.ref p,.int (0 : Nat),.int b]) p h h ps ps 0 b:=Dn.val S g fun hh pp S' _ pr=>jn_0 S' (zac pr eb) (by rw [sb]; lia)
  exact ⟨b,ps,h,dv.as S g (fun _ _ _ _ _=>rfl) (Nat.zero_le _),by rw [em]; exact B⟩
 ·rcases B with ⟨rfl,rfl⟩ | ⟨mb,fb,lb,B⟩
  ·have em : x++("" : Str) = x:=zae (by rw [zal]; simp; rfl)
   have dv : Dn (yaU [.ref p,.int a,.int (0 : Nat)]) p h h ps ps 0 a:=Dn.val S g fun hh pp S' _ pr=>jn_1 S' A.n1 (zac pr A.ms) A.ky.most
   exact ⟨a,ps,h,dv.as S g (fun _ _ _ _ _=>rfl) (Nat.zero_le _),by rw [em]; exact .inr ⟨_,_,_,A⟩⟩
  ·have sa:=A.ky.sg
   have sb:=B.ky.sg
   have a0:=A.ky.ht
   have b0:=B.ky.ht
   have ha:=ht82 g A
   have hb:=ht82 g B
   rw [yeJ A.ms,yeJ B.ms]
   by_cases q : 8 < la.sg + fb.sg
   ·obtain ⟨n,ps',h',m,d,T,_⟩:=zbU 90 (max ma.ht mb.ht).toNat S g A B q (by lia) (by lia) (by lia) (by lia)
    exact ⟨n,ps',h',d.as S g (fun hh pp S' _ pr=>by rw [jn_2 S' A.n1 B.n1 (zac pr A.ms) (zac pr B.ms) (zac pr A.ky.ll) (zac pr B.ky.fl) (by lia),if_pos q]) (by lia),.inr ⟨_,_,_,T⟩⟩
   ·obtain ⟨n,ps',h',m,f,l,d,T,_⟩:=zhY S g A B q (by lia) hz
    exact ⟨n,ps',h',d.as S g (fun hh pp S' _ pr=>by rw [jn_2 S' A.n1 B.n1 (zac pr A.ms) (zac pr B.ms) (zac pr A.ky.ll) (zac pr B.ky.fl) (by lia),if_neg q]) (by lia),.inr ⟨_,_,_,T⟩⟩
end Sk
namespace Sk
open PySem PySem.Spec L2 Sm
theorem zja {b e : Nat} {y : Str} (be : b <= e) : (cutS y (some (b : Int)) (some (e : Int))).cps.toList = (y.cps.toList.drop b).take (e - b):=by
 unfold cutS
 rw [HT.sIx_nat,HT.sIx_nat]
 generalize y.cps.toList = l
 show (l.drop (min b l.length)).take (min e l.length - min b l.length) = _
 apply List.ext_getElem?
 intro i
 rw [List.getElem?_take,List.getElem?_take,List.getElem?_drop,List.getElem?_drop]
 by_cases q : b <= l.length
 ·rw [Nat.min_eq_left q]
  by_cases c1 : i < e - b
  ·rw [if_pos c1]
   by_cases c2 : i < min e l.length - b
   ·rw [if_pos c2]
   ·rw [if_neg c2,List.getElem?_eq_none (by lia)]
  ·rw [if_neg c1,if_neg (by lia)]
 ·rw [if_neg (by lia),List.getElem?_eq_none (l:=l) (i:=b + i) (by lia)]
  split<;>rfl
def cat : List Str -> Str
 | [] => ""
 | w :: ws=>w++cat ws
theorem zdk : ∀ as bs : List Str,cat (as++bs) = cat as++cat bs
 | [],bs=>(zae (by rw [zal]; rfl) : cat bs = ("" : Str)++cat bs)
 | w :: as,bs=>by
  show w++cat (as++bs) = (w++cat as)++cat bs
  rw [zdk as bs,zai]
theorem zfL (w : Str) : cat [w] = w:=zae (by show (w++("" : Str)).cps.toList = _; rw [zal]; simp; rfl)
def LS (ps : List Pc) (ns : List Nat) (ws : List Str) : Prop:=ns.length = ws.length /\ ∀ (i n : Nat) (w : Str),ns[i]? = some n -> ws[i]? = some w -> Tx ps n (lfMs w n) w (lfMs w n) (lfMs w n)
theorem LS.pre {ps ps' : List Pc} {ns : List Nat} {ws : List Str} (s : LS ps ns ws) (h : ps <+: ps') : LS ps' ns ws:=⟨s.1,fun i n w a b=>(s.2 i n w a b).pre h⟩
theorem LS.take {ps : List Pc} {ns : List Nat} {ws : List Str} (s : LS ps ns ws) (k : Nat) : LS ps (ns.take k) (ws.take k):=by
 refine ⟨by simp [s.1],fun i n w a b=>?_⟩
 rw [List.getElem?_take] at a b
 by_cases q : i < k
 ·rw [if_pos q] at a b; exact s.2 i n w a b
 ·rw [if_neg q] at a; cases a
theorem LS.drop {ps : List Pc} {ns : List Nat} {ws : List Str} (s : LS ps ns ws) (k : Nat) : LS ps (ns.drop k) (ws.drop k):=by
 refine ⟨by simp [s.1],fun i n w a b=>?_⟩
 rw [List.getElem?_drop] at a b
 exact s.2 _ n w a b
abbrev ivs (ns : List Nat) : List AV:=ns.map fun n : Nat=>AV.int (n : Int)
theorem hv_1 {h : AH} {p d n : Nat} : ybI (d + 1) [.ref p,.fl (ivs [n])] h = .ok (.int n) h:=by
 have ix : fIx (.fl [.int (n : Int)]) (.int 0) h = .ok (.int n) h:=rfl
 simp [ybI,yec,ix,-fIx]
theorem zg8 {α : Type} (l : List α) {k : Nat} (hk : k <= l.length) : cutA l none (some (k : Int)) = l.take k:=by
 unfold cutA
 rw [HT.sIx_nat,HT.sIx_none,Nat.min_eq_left hk]; simp
theorem zg9 {α : Type} (l : List α) {k : Nat} (hk : k <= l.length) : cutA l (some (k : Int)) none = l.drop k:=by
 unfold cutA
 rw [HT.sIx_nat,HT.sIx_none,Nat.min_eq_left hk,List.take_of_length_le (by simp)]
theorem hv_2 {h h1 h2 : AH} {p d : Nat} {ps : List Pc} {ns : List Nat} {v1 v2 : Int} (S : ShelfAt h p ps) (hl : 2 <= ns.length) (e1 : ybI d [.ref p,.fl (ivs (ns.take (ns.length / 2)))] h = .ok (.int v1) h1) (e2 : ybI d [.ref p,.fl (ivs (ns.drop (ns.length / 2)))] h1 = .ok (.int v2) h2) :
  ybI (d + 1) [.ref p,.fl (ivs ns)] h = yae [.ref p,.int v1,.int v2] h2:=by
 have hh : ns.length / 2 <= ns.length:=Nat.div_le_self _ _
 have ln : fLen [.fl (ivs ns)] h = .ok (.int ns.length) h:=by simp [fLen]
 have q : fEq (.int ns.length) (.int 1) h = .ok (.bl false) h:=by
  have : ¬ (ns.length : Int) = 1:=by lia
  simp [this]
 have dv : fDiv (.int ns.length) (.int 2) h = .ok (.int (ns.length / 2 : Nat)) h:=rfl
 have c1 : ybd (.fl (ivs ns)) none (some (ns.length / 2 : Nat)) h = .ok (.fl (ivs (ns.take (ns.length / 2)))) h:=by
  have:=zg8 (ivs ns) (k:=ns.length / 2) (by simpa using hh)
  simp only [ybd,this,ivs,List.map_take]
 have c2 : ∀ h,ybd (.fl (ivs ns)) (some (ns.length / 2 : Nat)) none h = .ok (.fl (ivs (ns.drop (ns.length / 2)))) h:=fun h=>by
  have:=zg9 (ivs ns) (k:=ns.length / 2) (by simpa using hh)
  simp only [ybd,this,ivs,List.map_drop]
 generalize hF : yae [.ref p,.int v1,.int v2] h2 = R
 unfold ybI yec
 generalize ivs ns = Z at *
 generalize ivs (ns.take (ns.length / 2)) = Z1 at *
 generalize ivs (ns.drop (ns.length / 2)) = Z2 at *
 generalize ((ns.length / 2 : Nat) : Int) = M at *
 generalize (ns.length : Int) = K at *
 simp [S.ob,ln,q,dv,c1,c2,e1,e2,hF,-fLen,-fEq,-fDiv,-ybd]
 cases R<;>rfl
theorem pw1 {a b ha hb : Nat} (ab : b <= a + 1) (h1 : a <= 2 ^ ha) (h2 : hb = 0 \/ 2 ^ (hb - 1) < b) : hb <= ha + 1:=by
 rcases h2 with h2 | h2
 ·lia
 ·have : 2 ^ (hb - 1) <= 2 ^ ha:=by lia
  have:=(Nat.pow_le_pow_iff_right (a:=2) (by decide)).mp this
  lia
theorem pw2 {a b ha hb : Nat} (ab : a <= b) (h1 : b <= 2 ^ hb) (h2 : ha = 0 \/ 2 ^ (ha - 1) < a) : ha <= hb:=by
 rcases h2 with h2 | h2
 ·lia
 ·have : 2 ^ (ha - 1) < 2 ^ hb:=by lia
  have:=(Nat.pow_lt_pow_iff_right (a:=2) (by decide)).mp this
  lia
theorem pw3 {k b hb : Nat} (h1 : k <= 2 * b) (h2 : 2 * b <= k + 1) (h3 : 2 <= k) (h4 : b <= 2 ^ hb) (h5 : hb = 0 \/ 2 ^ (hb - 1) < b) : k <= 2 ^ (hb + 1) /\ 2 ^ (hb + 1 - 1) < k:=by
 rw [Nat.pow_succ,Nat.add_sub_cancel]
 refine ⟨by lia,?_⟩
 rcases h5 with h5 | h5
 ·subst h5; simp; lia
 ·cases hb with
  | zero=>simp; lia
  | succ n =>
   rw [Nat.add_sub_cancel] at h5
   rw [Nat.pow_succ]; lia
theorem pw4 {k e : Nat} (h : k <= 2 ^ (e + 1)) : k / 2 <= 2 ^ e /\ k - k / 2 <= 2 ^ e:=by rw [Nat.pow_succ] at h; lia
theorem zcN {p : Nat} : ∀ (d e : Nat) {h : AH} {ps : List Pc} {ns : List Nat} {ws : List Str},ShelfAt h p ps -> Good ps -> LS ps ns ws -> 1 <= ns.length -> ns.length <= 2 ^ e -> e < d -> (∀ (i : Nat) (w : Str),ws[i]? = some w -> i + 1 < ws.length -> w.length = 8) -> ps.length + ns.length < 16000000 -> ns.length <= 10000 ->
  ∃ (n : Nat) (ps' : List Pc) (h' : AH) (m f l : Ms) (H : Nat),ybI d [.ref p,.fl (ivs ns)] h = .ok (.int n) h' /\ Dd p h h' ps ps' (ns.length - 1) /\ Tx ps' n m (cat ws) f l /\ m.ht = H /\ ns.length <= 2 ^ H /\ (H = 0 \/ 2 ^ (H - 1) < ns.length) /\ ((∀ w ∈ ws,w.length = 8) -> l.sg = 8) /\ m.sg <= 8 * ns.length
 | 0,e,h,ps,ns,ws,S,g,LL,h1,h2,h3,h4,h5,h6=>absurd h3 (Nat.not_lt_zero _)
 | d + 1,e,h,ps,ns,ws,S,g,LL,h1,h2,h3,h4,h5,h6=>by
  by_cases q : ns.length = 1
  ·obtain ⟨n,rfl⟩ : ∃ n,ns = [n]:=List.length_eq_one_iff.mp q
   obtain ⟨w,rfl⟩ : ∃ w,ws = [w]:=List.length_eq_one_iff.mp (LL.1.symm.trans q)
   have T:=LL.2 0 n w rfl rfl
   refine ⟨n,ps,h,_,_,_,0,hv_1,{ Dd.refl S g with len:=by lia },by rw [zfL]; exact T,rfl,by simp,.inl rfl,fun hw=>hw w (by simp),?_⟩
   have:=T.ky.f8
   simpa using this
  ·have hh : 2 <= ns.length:=by lia
   obtain ⟨e',rfl⟩ : ∃ e',e = e' + 1:=by
    cases e with
    | zero=>simp at h2; lia
    | succ e' => exact ⟨e',rfl⟩
   obtain ⟨w1,w2⟩:=pw4 h2
   have lt : (ns.take (ns.length / 2)).length = ns.length / 2:=by rw [List.length_take]; lia
   have ld : (ns.drop (ns.length / 2)).length = ns.length - ns.length / 2:=List.length_drop ..
   have lw:=LL.1
   obtain ⟨n1,ps1,hh1,m1,f1,l1,H1,a1,a2,a3,a4,a5,a6,a7,a8⟩:=zcN d e' S g (LL.take (ns.length / 2)) (by lia) (by lia) (by lia) (fun i w ew hi=>by
    rw [List.getElem?_take] at ew
    split at ew
    ·rw [List.length_take] at hi; exact h4 i w ew (by lia)
    ·cases ew) (by lia) (by lia)
   have z1:=a2.len
   obtain ⟨n2,ps2,hh2,m2,f2,l2,H2,b1,b2,b3,b4,b5,b6,b7,b8⟩:=zcN d e' a2.sh a2.gd ((LL.drop (ns.length / 2)).pre a2.pre) (by lia) (by lia) (by lia) (fun i w ew hi=>by
    rw [List.getElem?_drop] at ew
    rw [List.length_drop] at hi
    exact h4 _ w ew (by lia)) (by lia) (by lia)
   have z2:=b2.len
   rw [lt] at a5 a6 a8
   rw [ld] at b5 b6 b8
   have g1:=pw1 (a:=ns.length / 2) (b:=ns.length - ns.length / 2) (by lia) a5 b6
   have g2:=pw2 (a:=ns.length / 2) (b:=ns.length - ns.length / 2) (by lia) b5 a6
   have l8 : l1.sg = 8:=a7 fun w hw=>by
    obtain ⟨i,hi,ei⟩:=List.getElem_of_mem hw
    have hi' := hi
    rw [List.length_take] at hi'
    have : (ws.take (ns.length / 2))[i]? = some w:=by rw [List.getElem?_eq_getElem hi,ei]
    rw [List.getElem?_take] at this
    split at this
    ·exact h4 i w this (by lia)
    ·cases this
   have f1' := b3.ky.f1
   obtain ⟨n3,ps3,hh3,d3,T3⟩:=zay b2.sh b2.gd (a3.pre b2.pre) b3 (by lia) (by lia) (by lia) (by lia) (by lia)
   have rd : cat (ws.take (ns.length / 2))++cat (ws.drop (ns.length / 2)) = cat ws:=by rw [<- zdk,List.take_append_drop]
   rw [rd] at T3
   have hv:=hv_2 S hh a1 b1
   obtain ⟨y1,y2⟩:=pw3 (k:=ns.length) (b:=ns.length - ns.length / 2) (by lia) (by lia) hh b5 b6
   refine ⟨n3,ps3,hh3,_,f1,l2,H2 + 1,hv.trans d3.ev,(a2.trans b2 (Nat.le_refl _)).trans d3.dd (by lia),T3,by rw [fmH,a4,b4]; lia,y1,.inr y2,fun hw=>b7 fun w hm=>hw w (List.mem_of_mem_drop hm),by rw [fmS]; lia⟩
end Sk
namespace Sk
open PySem PySem.Spec L2 Sm
def ycF (x : Str) (k : Nat) : Str:=cutS x (some ((8 * k : Nat) : Int)) (some ((8 * k + 8 : Nat) : Int))
theorem zcb (x : Str) (k : Nat) : (ycF x k).cps.toList = (x.cps.toList.drop (8 * k)).take 8:=by
 unfold ycF
 rw [zja (by lia),show 8 * k + 8 - 8 * k = 8 by lia]
theorem zdW (x : Str) (k : Nat) : (ycF x k).length = min 8 (x.length - 8 * k):=by
 rw [zad,zcb,List.length_take,List.length_drop,<- zad]
theorem zeZ {x : Str} (px : yaC x = true) (k : Nat) : yaC (ycF x k) = true:=by
 unfold yaC at *
 rw [zcb,List.all_eq_true]
 rw [List.all_eq_true] at px
 exact fun c hc=>px c (List.mem_of_mem_drop (List.mem_of_mem_take hc))
theorem zc2 (x : Str) : ∀ j,(cat ((List.range j).map (ycF x))).cps.toList = x.cps.toList.take (8 * j)
 | 0=>rfl
 | j + 1=>by
  rw [List.range_succ,List.map_append,zdk,zal,zc2 x j]
  show _++(cat [ycF x j]).cps.toList = _
  rw [zfL,zcb,show 8 * (j + 1) = 8 * j + 8 by lia,List.take_add]
theorem zdX {α : Type} {f : Nat -> α} {N i : Nat} {w : α} (e : ((List.range N).map f)[i]? = some w) : i < N /\ w = f i:=by
 rw [List.getElem?_map] at e
 obtain ⟨j,ej,ew⟩:=Option.map_eq_some_iff.mp e
 have h1:=(List.getElem?_eq_some_iff.mp ej).1
 rw [List.length_range] at h1
 rw [List.getElem?_range h1] at ej
 cases ej
 exact ⟨h1,ew.symm⟩
theorem LS.snoc {ps ps' : List Pc} {ns : List Nat} {ws : List Str} {n : Nat} {w : Str} (s : LS ps ns ws) (h : ps <+: ps') (T : Tx ps' n (lfMs w n) w (lfMs w n) (lfMs w n)) : LS ps' (ns++[n]) (ws++[w]):=by
 have l:=s.1
 refine ⟨by simp [s.1],fun i a b ea eb=>?_⟩
 by_cases q : i < ns.length
 ·rw [List.getElem?_append_left q] at ea
  rw [List.getElem?_append_left (by lia)] at eb
  exact (s.2 i a b ea eb).pre h
 ·have h1:=(List.getElem?_eq_some_iff.mp ea).1
  have hi : i = ns.length:=by simp at h1; lia
  subst hi
  rw [List.getElem?_append_right (by lia)] at ea eb
  simp at ea
  rw [show ns.length - ws.length = 0 by lia] at eb
  simp at eb
  subst ea eb
  exact T
theorem ze0 {h : AH} {p : Nat} {ps : List Pc} {x : Str} (S : ShelfAt h p ps) (g : Good ps) (px : yaC x = true) (N : Nat) (hN : 8 * N < x.length + 8) (hx : x.length <= 10000) (hz : ps.length + N < 16000000) (all : List AV) (js : List Nat) (en : En) (hj : js.map (fun j=>(en[j]?).join) = [some (.ref p),some (.str x)]) :
  ∃ (ns : List Nat) (ps' : List Pc) (h' : AH),ybc js en none all sYes (yao 0 ya2 (sVar 1) (yaa (sCut (sVar 2) (some (sVar 0)) (some (sOp2 fAdd (sVar 0) (sLit (.int 8))))) sNil)) ((List.range N).map fun m : Nat=>AV.int (0 + (m : Int) * 8)) [] h = .ok (ivs ns) h' /\ Dd p h h' ps ps' N /\ LS ps' ns ((List.range N).map (ycF x)):=by
 obtain ⟨zs,h',c1,ns,ps',e1,D,LL⟩:=yhd (js:=js) (en:=en) (all:=all) (e:=yao 0 ya2 (sVar 1) (yaa (sCut (sVar 2) (some (sVar 0)) (some (sOp2 fAdd (sVar 0) (sLit (.int 8))))) sNil)) (xs:=(List.range N).map fun m : Nat=>AV.int (0 + (m : Int) * 8)) (h:=h)
  (fun j ys h' => ∃ (ns : List Nat) (ps' : List Pc),ys = ivs ns /\ Dd p h h' ps ps' j /\ LS ps' ns ((List.range j).map (ycF x))) ⟨[],ps,rfl,Dd.refl S g,rfl,fun i n w a _=>by simp at a⟩ (by
   rintro j v ys h' hv ⟨ns,ps',rfl,D,LL⟩
   obtain ⟨jN,rfl⟩:=zdX hv
   have z:=D.len
   have lc:=zdW x j
   have sc : ybp (ycF x j) = true:=by
    unfold ybp
    rw [zeZ px j,lc]
    simp; lia
   obtain ⟨n,ps2,h2,d2,T⟩:=zfG D.sh D.gd sc (by lia)
   have i1 : (0 : Int) + (j : Int) * 8 = ((8 * j : Nat) : Int):=by lia
   have i2 : ((8 * j : Nat) : Int) + 8 = ((8 * j + 8 : Nat) : Int):=by lia
   have ct : ybd (.str x) (some ((8 * j : Nat) : Int)) (some ((8 * j + 8 : Nat) : Int)) h' = .ok (.str (ycF x j)) h' := rfl
   have ev:=d2.ev
   rw [hj]
   have e : yao 0 ya2 (sVar 1) (yaa (sCut (sVar 2) (some (sVar 0)) (some (sOp2 fAdd (sVar 0) (sLit (.int 8))))) sNil) [some (.int (0 + (j : Int) * 8)),some (.ref p),some (.str x)] h' = .ok (.int n) h2:=by
    rw [i1]
    have ad : fAdd (.int ((8 * j : Nat) : Int)) (.int 8) h' = .ok (.int ((8 * j + 8 : Nat) : Int)) h' := by rw [<- i2]; rfl
    generalize ((8 * j : Nat) : Int) = B1 at *
    generalize ((8 * j + 8 : Nat) : Int) = B2 at *
    simp [D.sh.ob,ad,ct,ev,-fAdd,-ybd]
   rw [e]
   refine ⟨ns++[n],ps2,by simp [ivs],D.trans d2.dd (by lia),?_⟩
   rw [List.range_succ,List.map_append]
   exact LL.snoc d2.dd.pre T) (by simp; exact Nat.le_trans (show N <= 10000 by lia) (by decide))
 rw [List.length_map,List.length_range] at D LL
 exact ⟨ns,ps',h',by rw [c1,e1],D,LL⟩
theorem zaY {h : AH} {p : Nat} {ps : List Pc} {x : Str} (S : ShelfAt h p ps) (g : Good ps) (px : yaC x = true) (hx : x.length <= 10000) (hz : ps.length + 2 * x.length < 16000000) :
  ∃ (n : Nat) (ps' : List Pc) (h' : AH),ybM [.ref p,.str x] h = .ok (.int n) h' /\ Dd p h h' ps ps' (2 * x.length) /\ TxZ ps' n x:=by
 have sl : x.length <= sizeLine:=Nat.le_trans hx (by decide)
 have fp:=zfA x h sl
 rw [px] at fp
 have c1 : ¬ (10000 : Int) < x.length:=by lia
 by_cases q : x.length = 0
 ·have xe : x = "" := zae (by rw [zad] at q; rw [List.length_eq_zero_iff.mp q]; rfl)
  subst xe
  refine ⟨0,ps,h,?_,{ Dd.refl S g with len:=by lia },.inl ⟨rfl,rfl⟩⟩
  simp [ybM,fp,c1]
 ·obtain ⟨N,eN⟩ : ∃ N,N = (x.length - 1) / 8 + 1:=⟨_,rfl⟩
  obtain ⟨ns,ps1,h1,e1,D1,LL⟩:=ze0 S g px N (by lia) hx (by lia) ((List.range N).map fun m : Nat=>AV.int (0 + (m : Int) * 8)) [0,1] [some (.ref p),some (.str x),none] rfl
  have z1:=D1.len
  have ln : ns.length = N:=by rw [LL.1]; simp
  obtain ⟨n,ps2,h2,m,f,l,H,b1,b2,b3,_⟩:=zcN (p:=p) 20 11 D1.sh D1.gd LL (by lia) (by rw [ln]; have : (2 : Nat) ^ 11 = 2048:=rfl; lia) (by decide) (fun i w ew hi=>by
   obtain ⟨iN,rfl⟩:=zdX ew
   rw [List.length_map,List.length_range] at hi
   rw [zdW]; lia) (by lia) (by lia)
  have rd : cat ((List.range N).map (ycF x)) = x:=zae (by rw [zc2,List.take_of_length_le (by rw [<- zad]; lia)])
  rw [rd] at b3
  have ir : yci (sLit (.int 0)) (yag fLen (yaa (sVar 1) sNil)) (sLit (.int 8)) [some (.ref p),some (.str x),none] h = .ok ((List.range N).map (fun m : Nat=>AV.int (0 + (m : Int) * 8)),none) h:=by
   have r1 : ((if (0 : Int) < x.length then ((x.length : Int) - 0 - 1) / 8 + 1 else 0 : Int)).toNat = N:=by
    rw [if_pos (by lia)]; lia
   have r2 : (0 : Int).natAbs < 2 ^ 40 /\ (x.length : Int).natAbs < 2 ^ 40 /\ (0 : Int) < 8 /\ (8 : Int) < 2 ^ 20:=⟨by decide,by lia,by decide,by decide⟩
   show (if _ then _ else _) = _
   rw [if_pos r2,r1]
  have cp : ycX [0,1] (yci (sLit (.int 0)) (yag fLen (yaa (sVar 1) sNil)) (sLit (.int 8))) sYes (yao 0 ya2 (sVar 1) (yaa (sCut (sVar 2) (some (sVar 0)) (some (sOp2 fAdd (sVar 0) (sLit (.int 8))))) sNil)) [some (.ref p),some (.str x),none] h = .ok (.fl (ivs ns)) h1:=by
   simp only [ycX,ir,e1]
  have ne : fEq (.str x) (.str "") h = .ok (.bl false) h:=by
   have : ¬ x = Str.ofString "" := fun z=>q (by rw [z]; rfl)
   simp [this]
  refine ⟨n,ps2,h2,?_,D1.trans b2 (by lia),.inr ⟨_,_,_,b3⟩⟩
  unfold ybM
  generalize ycX [0,1] (yci (sLit (.int 0)) (yag fLen (yaa (sVar 1) sNil)) (sLit (.int 8))) sYes (yao 0 ya2 (sVar 1) (yaa (sCut (sVar 2) (some (sVar 0)) (some (sOp2 fAdd (sVar 0) (sLit (.int 8))))) sNil)) = CP at *
  generalize ybI 20 = HV at *
  simp [fp,c1,ne,cp,b1,-fEq]
end Sk
namespace Sk
open PySem PySem.Spec L2 Sm
def tkS (x : Str) (a : Nat) : Str:=⟨(x.cps.toList.take a).toArray⟩
def dpS (x : Str) (a : Nat) : Str:=⟨(x.cps.toList.drop a).toArray⟩
theorem yb1 (x : Str) (a : Nat) : (tkS x a).cps.toList = x.cps.toList.take a:=rfl
theorem yb2 (x : Str) (a : Nat) : (dpS x a).cps.toList = x.cps.toList.drop a:=rfl
theorem ycG (x : Str) (a : Nat) : (dpS x a).length = x.length - a:=by
 rw [zad,zad x,yb2,List.length_drop]
theorem tk_0 (x : Str) : tkS x 0 = "" := zae rfl
theorem dp_0 (x : Str) : dpS x 0 = x:=zae rfl
theorem yex {x : Str} {a : Nat} (h : AH) : ybd (.str x) none (some (a : Int)) h = .ok (.str (tkS x a)) h:=by
 have : cutS x none (some (a : Int)) = tkS x a:=zae (by
  unfold cutS
  rw [HT.sIx_nat,HT.sIx_none,yb1]
  show (x.cps.toList.drop 0).take (min a x.cps.toList.length - 0) = _
  rw [List.drop_zero,Nat.sub_zero]
  by_cases q : a <= x.cps.toList.length
  ·rw [Nat.min_eq_left q]
  ·rw [Nat.min_eq_right (by lia),List.take_length,List.take_of_length_le (by lia)])
 simp only [ybd,this]
theorem yey {x : Str} {a : Nat} (ha : a <= x.length) (h : AH) : ybd (.str x) (some (a : Int)) none h = .ok (.str (dpS x a)) h:=by
 have : cutS x (some (a : Int)) none = dpS x a:=zae (by
  unfold cutS
  rw [HT.sIx_nat,HT.sIx_none,yb2]
  rw [zad] at ha
  rw [Nat.min_eq_left ha]
  show (x.cps.toList.drop a).take (x.cps.toList.length - a) = _
  rw [List.take_of_length_le (by rw [List.length_drop]; exact Nat.le_refl _)])
 simp only [ybd,this]
def cst (z : Int) : Nat:=8 * ((z + 1).toNat * (z + 2).toNat)
end Sk
namespace Sk
open PySem PySem.Spec L2 Sm
theorem zcn (z : Str) (n : Nat) : (repS z n).cps.toList = (List.replicate n z.cps.toList).flatten:=rfl
theorem zbE (z : Str) (a b : Nat) : repS z a++repS z b = repS z (a + b):=zae (by rw [zal,zcn,zcn,zcn,<- List.flatten_append,List.replicate_append_replicate])
theorem zco (z : Str) : repS z 1 = z:=zae (by rw [zcn]; simp)
theorem zbV (z : Str) : repS z 0 = "" := zae rfl
theorem zcp (z : Str) : ∀ n,(repS z n).length = z.length * n
 | 0=>by rw [zbV]; rfl
 | n + 1=>by rw [<- zbE,zaq,zcp z n,zco,Nat.mul_succ]
theorem zfM : ∀ n,repS "" n = ""
 | 0=>zbV _
 | n + 1=>by
  rw [<- zbE,zfM n,zco]
  exact zae (by rw [zal]; rfl)
theorem db_0 {h : AH} {p n d : Nat} : ya7 (d + 1) [.ref p,.int n,.int (0 : Nat)] h = .ok (.int (0 : Nat)) h:=by
 have z : fEq (.int 0) (.int 0) h = .ok (.bl true) h:=by simp
 simp [ya7,ydC,z,-fEq]
theorem db_1 {h h1 : AH} {p n d k : Nat} {a : Int} (hk : ¬ k = 0) (hp : k % 2 = 0) (e1 : ya7 d [.ref p,.int n,.int (k / 2 : Nat)] h = .ok (.int a) h1) : ya7 (d + 1) [.ref p,.int n,.int k] h = yaU [.ref p,.int a,.int a] h1:=by
 have z : fEq (.int k) (.int 0) h = .ok (.bl false) h:=by simp [hk]
 have dv : fDiv (.int k) (.int 2) h = .ok (.int (k / 2 : Nat)) h:=rfl
 have md : ∀ h,fMod (.int k) (.int 2) h = .ok (.int 0) h:=fun h=>by
  have : (k : Int) % 2 = 0:=by lia
  show Out.ok (AV.int ((k : Int) % 2)) h = _
  rw [this]
 have z2 : ∀ h,fEq (.int 0) (.int 0) h = .ok (.bl true) h:=fun h=>by simp
 unfold ya7 ydC
 generalize hF : yaU [.ref p,.int a,.int a] h1 = R
 generalize ((k / 2 : Nat) : Int) = K2 at *
 generalize ya7 d = G at *
 simp [z,dv,e1,hF,-fEq,-fDiv,-fMod]
 cases R with
 | ok v h2=>simp [md,z2,-fEq,-fMod]
 | ex c h2=>rfl
 | bad=>rfl
theorem db_2 {h h1 : AH} {p n d k : Nat} {a : Int} (hk : ¬ k = 0) (hp : ¬ k % 2 = 0) (e1 : ya7 d [.ref p,.int n,.int (k / 2 : Nat)] h = .ok (.int a) h1) : ya7 (d + 1) [.ref p,.int n,.int k] h = (yaU [.ref p,.int a,.int a] h1).bind fun v h2=>yaU [.ref p,v,.int n] h2:=by
 have z : fEq (.int k) (.int 0) h = .ok (.bl false) h:=by simp [hk]
 have dv : fDiv (.int k) (.int 2) h = .ok (.int (k / 2 : Nat)) h:=rfl
 have md : ∀ h,fMod (.int k) (.int 2) h = .ok (.int 1) h:=fun h=>by
  have : (k : Int) % 2 = 1:=by lia
  show Out.ok (AV.int ((k : Int) % 2)) h = _
  rw [this]
 have z2 : ∀ h,fEq (.int 1) (.int 0) h = .ok (.bl false) h:=fun h=>by simp
 unfold ya7 ydC
 generalize hF : yaU [.ref p,.int a,.int a] h1 = R
 generalize ((k / 2 : Nat) : Int) = K2 at *
 generalize ya7 d = G at *
 simp [z,dv,e1,hF,-fEq,-fDiv,-fMod]
 cases R with
 | ok v h2 =>
  simp [md,z2,-fEq,-fMod]
  cases yaU [.ref p,v,.int n] h2<;>rfl
 | ex c h2=>rfl
 | bad=>rfl
theorem zbh {ps : List Pc} (g : Good ps) {a b : Nat} {x y : Str} (A : TxZ ps a x) (B : TxZ ps b y) : 16 * (max (htOf ps a) (htOf ps b) + 1).toNat <= 1400:=by
 have key : ∀ {n : Nat} {y : Str},TxZ ps n y -> htOf ps n <= 82:=fun {n y} t=>by
  rcases t with ⟨rfl,rfl⟩ | ⟨m,f,l,T⟩
  ·rw [zi9]; lia
  ·rw [yeJ T.ms]; exact ht82 g T
 have:=key A
 have:=key B
 lia
theorem zdY {p : Nat} : ∀ (d e : Nat) {h : AH} {ps : List Pc} {n k : Nat} {x : Str},ShelfAt h p ps -> Good ps -> TxZ ps n x -> k < 2 ^ e -> e < d -> x.length * k <= 1000000000000000000 -> ps.length + 2800 * e < 15000000 ->
  ∃ (m : Nat) (ps' : List Pc) (h' : AH),Dn (ya7 d [.ref p,.int n,.int k]) p h h' ps ps' (2800 * e) m /\ TxZ ps' m (repS x k)
 | 0,e,h,ps,n,k,x,S,g,T,hk,hd,hm,hz=>absurd hd (Nat.not_lt_zero _)
 | d + 1,e,h,ps,n,k,x,S,g,T,hk,hd,hm,hz=>by
  by_cases k0 : k = 0
  ·subst k0
   have dv : Dn (ya7 (d + 1) [.ref p,.int n,.int (0 : Nat)]) p h h ps ps 0 0:=Dn.val S g fun hh pp S' _ pr=>db_0
   exact ⟨0,ps,h,dv.as S g (fun _ _ _ _ _=>rfl) (Nat.zero_le _),.inl ⟨rfl,zbV x⟩⟩
  ·obtain ⟨e',rfl⟩ : ∃ e',e = e' + 1:=by
    cases e with
    | zero=>simp at hk; lia
    | succ e' => exact ⟨e',rfl⟩
   rw [Nat.pow_succ] at hk
   have kk : x.length * (k / 2) + x.length * (k / 2) + x.length * (k % 2) = x.length * k:=by
    rw [<- Nat.mul_add,<- Nat.mul_add]
    congr 1
    lia
   obtain ⟨a,ps1,h1,d1,T1⟩:=zdY d e' (k:=k / 2) S g T (by lia) (by lia) (by lia) (by lia)
   have z1:=d1.dd.len
   have l1:=zcp x (k / 2)
   obtain ⟨b,ps2,h2,d2,T2⟩:=zbg d1.dd.sh d1.dd.gd T1 T1 (by lia) (by lia)
   have w2:=zbh d1.dd.gd T1 T1
   have z2:=d2.dd.len
   rw [zbE] at T2
   by_cases hp : k % 2 = 0
   ·have ek : k / 2 + k / 2 = k:=by lia
    rw [ek] at T2
    exact ⟨b,ps2,h2,Dn.seq' S g d1 d2 (fun hh hh1 pp S' _ pr ev=>db_1 k0 hp ev) (by lia),T2⟩
   ·have l2:=zcp x (k / 2 + k / 2)
    rw [Nat.mul_add] at l2
    have km : x.length * (k % 2) = x.length:=by rw [show k % 2 = 1 by lia,Nat.mul_one]
    have p12:=d1.dd.pre.trans d2.dd.pre
    obtain ⟨c,ps3,h3,d3,T3⟩:=zbg d2.dd.sh d2.dd.gd T2 (T.pre p12) (by lia) (by lia)
    have w3:=zbh d2.dd.gd T2 (T.pre p12)
    have ek : repS x (k / 2 + k / 2)++x = repS x k:=by
     conv=>lhs; rhs; rw [<- zco x]
     rw [zbE]
     congr 1
     lia
    rw [ek] at T3
    have d23:=Dn.seq (F:=fun hh=>(yaU [.ref p,.int a,.int a] hh).bind fun v h2=>yaU [.ref p,v,.int n] h2) (F2:=fun v h2=>yaU [.ref p,v,.int n] h2) d1.dd.sh d1.dd.gd d2 d3 (fun _ _ _ _ _=>rfl) (k:=2800) (by lia)
    exact ⟨c,ps3,h3,Dn.seq' S g d1 d23 (fun hh hh1 pp S' _ pr ev=>db_2 k0 hp ev) (by lia),T3⟩
theorem yf8 {h : AH} {p n k : Nat} {ps : List Pc} {m : Ms} (S : ShelfAt h p ps) (em : (meas ps)[n]? = some m) (hk : k < 2 ^ 63) (hm : m.sg * k <= 1000000000000000000) : ybn [.ref p,.int n,.int k] h = if n = 0 then .ok (.int (0 : Nat)) h else ya7 64 [.ref p,.int n,.int k] h:=by
 have fs:=zav S em
 have lt : fLt (.int k) (.int 0) h = .ok (.bl false) h:=by
  have : ¬ (k : Int) < 0:=by lia
  simp only [fLt,this,decide_false]
 have ml : fMul (.int m.sg) (.int k) h = .ok (.int ((m.sg * k : Nat) : Int)) h:=by
  have h2 : (k : Int).natAbs < 2 ^ 64:=by
   have : (2 : Nat) ^ 63 < 2 ^ 64:=by decide
   lia
  rw [yfH h2]; congr 2
 have ck:=za8 (i:=((m.sg * k : Nat) : Int)) (by lia) h
 unfold ybn
 generalize ya7 64 = G at *
 generalize ((m.sg * k : Nat) : Int) = MK at *
 by_cases z : n = 0
 ·subst z
  have z0 : fEq (.int 0) (.int 0) h = .ok (.bl true) h:=by simp
  have fs' : yaS [.ref p,.int 0] h = .ok (.int m.sg) h:=fs
  simp [S.ob,fs',lt,ml,ck,z0,-fLt,-fMul,-fEq]
 ·have z0 : fEq (.int n) (.int 0) h = .ok (.bl false) h:=by simp [z]
  rw [if_neg z]
  generalize hR : G [.ref p,.int n,.int k] h = R
  simp [S.ob,fs,lt,ml,ck,z0,hR,-fLt,-fMul,-fEq]
  cases R<;>rfl
theorem zbW {h : AH} {p : Nat} {ps : List Pc} {n k e : Nat} {x : Str} (S : ShelfAt h p ps) (g : Good ps) (T : TxZ ps n x) (hk : k < 2 ^ e) (he : e < 62) (hm : x.length * k <= 1000000000000000000) (hz : ps.length + 2800 * e < 15000000) :
  ∃ (m : Nat) (ps' : List Pc) (h' : AH),Dn (ybn [.ref p,.int n,.int k]) p h h' ps ps' (2800 * e) m /\ TxZ ps' m (repS x k):=by
 obtain ⟨m,em,sm⟩:=T.meas
 have k63 : k < 2 ^ 63:=Nat.lt_of_lt_of_le hk (Nat.pow_le_pow_right (by decide) (by lia))
 by_cases z : n = 0
 ·rcases T with ⟨_,rfl⟩ | ⟨_,_,_,T⟩
  ·have dv : Dn (ybn [.ref p,.int n,.int k]) p h h ps ps 0 0:=Dn.val S g fun hh pp S' _ pr=>by rw [yf8 S' (zac pr em) k63 (by rw [sm]; exact hm),if_pos z]
   exact ⟨0,ps,h,dv.as S g (fun _ _ _ _ _=>rfl) (Nat.zero_le _),.inl ⟨rfl,zfM k⟩⟩
  ·exact absurd T.n1 (by lia)
 ·obtain ⟨c,ps',h',d,T'⟩:=zdY 64 e S g T hk (by lia) hm hz
  exact ⟨c,ps',h',d.as S g (fun hh pp S' _ pr=>by rw [yf8 S' (zac pr em) k63 (by rw [sm]; exact hm),if_neg z]) (Nat.le_refl _),T'⟩
end Sk
namespace Sk
open PySem PySem.Spec L2 Sm
theorem zdZ {h : AH} {p : Nat} {ps : List Pc} {i : Int} (S : ShelfAt h p ps) (hi : ¬ (0 <= i /\ i <= ps.length)) : yaS [.ref p,.int i] h = .ex 2 h:=by
 have hs : yaK [.ref p,.int i] h = .ok (.bl false) h:=by
  have:=yev (i:=i) S
  rw [decide_eq_false (by lia)] at this; exact this
 have ne : ¬ i = 0:=by lia
 have cp : yaN [.ref p,.int i] h = .ex 2 h:=by simp [yaN,S.ob,hs]
 have ct : yax [.ref p,.int i] h = .ex 2 h:=by simp [yax,ne,S.ob,cp]
 simp [yaS,S.ob,ct]
end Sk
namespace Sk
open PySem PySem.Spec L2 Sm
inductive Un where
 | n (k : Nat)
 | s (z : Str)
@[simp] def uv : Un -> AV
 | .n k=>.int k
 | .s z=>.str z
def ud : Un -> PyData
 | .n k=>.int k
 | .s z=>.str z
def rdU (ps : List Pc) : Un -> List Nat
 | .n k=>((reads ps).getD k "").cps.toList
 | .s z=>z.cps.toList
def rdS (ps : List Pc) : List Un -> List Nat
 | []=>[]
 | u :: r=>rdU ps u++rdS ps r
inductive OkU (ps : List Pc) : Un -> Prop
 | n {k : Nat} {m f l : Ms} {x : Str} (T : Tx ps k m x f l) : OkU ps (.n k)
 | s {z : Str} (a : 1 <= z.length) (b : z.length <= 8) : OkU ps (.s z)
theorem ycp {ps : List Pc} {k : Nat} {m f l : Ms} {x : Str} (T : Tx ps k m x f l) : rdU ps (.n k) = x.cps.toList:=by
 show ((reads ps).getD k "").cps.toList = _
 rw [zaM T.rd]
theorem OkU.pos {ps : List Pc} {u : Un} (o : OkU ps u) : 1 <= (rdU ps u).length:=by
 cases o with
 | n T =>
  rw [ycp T,<- zad,<- T.ky.sg]
  obtain ⟨k,c⟩:=T.ky.cnt
  have:=T.ky.f1
  rcases c with c | c<;>lia
 | @s z a b =>
  show 1 <= z.cps.toList.length
  rw [<- zad]; exact a
def hU (ps : List Pc) : List Un -> Nat
 | .n k :: _=>((meas ps).getD k ms0).ht.toNat + 1
 | _=>0
theorem yba {ps : List Pc} {k : Nat} {m f l : Ms} {x : Str} (T : Tx ps k m x f l) (st : List Un) : hU ps (.n k :: st) = m.ht.toNat + 1:=by
 show ((meas ps).getD k ms0).ht.toNat + 1 = _
 rw [zaM T.ms]
theorem ybv {ps : List Pc} (g : Good ps) {st : List Un} (ok : ∀ u ∈ st,OkU ps u) : hU ps st <= 83:=by
 match st,ok with
 | [],_=>exact Nat.zero_le _
 | .s _ :: _,_=>exact Nat.zero_le _
 | .n k :: st,ok =>
  cases ok _ (List.mem_cons_self ..) with
  | @n _ m f l x T =>
   rw [yba T]
   have:=ht82 g T
   have:=T.ky.ht
   lia
theorem zaV {ps : List Pc} {a b : Nat} {ma mb fa la fb lb : Ms} {y z : Str} {u : Un} {st : List Un} (A : Tx ps a ma y fa la) (B : Tx ps b mb z fb lb) (ok : ∀ v ∈ u :: st,OkU ps v) : ∀ v ∈ (.n a :: .n b :: st : List Un),OkU ps v:=by
 intro v hv
 rcases List.mem_cons.mp hv with rfl | hv
 ·exact .n A
 ·rcases List.mem_cons.mp hv with rfl | hv
  ·exact .n B
  ·exact ok v (List.mem_cons_of_mem _ hv)
def nxF (ps : List Pc) : Nat -> List Un -> Str × List Un
 | _,[]=>("",[])
 | _,.s z :: st=>(z,st)
 | 0,.n _ :: st=>("",st)
 | c + 1,.n k :: st=>match ps[k - 1]? with
  | some (.fork a b)=>nxF ps c (.n a :: .n b :: st)
  | some (.leaf z)=>(z,st)
  | none=>("",st)
structure NxOk (ps : List Pc) (c : Nat) (st : List Un) (r : Str × List Un) : Prop where
 rd : rdS ps st = r.1.cps.toList++rdS ps r.2
 ok : ∀ u ∈ r.2,OkU ps u
 z1 : st ≠ [] -> 1 <= r.1.length /\ r.1.length <= 8
 z0 : st = [] -> r = (("" : Str),([] : List Un))
 ln : r.2.length <= st.length + c
theorem ycH {ps : List Pc} (g : Good ps) : ∀ (c : Nat) (st : List Un),(∀ u ∈ st,OkU ps u) -> hU ps st <= c -> NxOk ps c st (nxF ps c st)
 | c,[],ok,_=>by
  have e : nxF ps c [] = (("" : Str),([] : List Un)):=by cases c<;>rfl
  rw [e]
  exact ⟨rfl,ok,fun z=>absurd rfl z,fun _=>rfl,Nat.zero_le _⟩
 | c,.s z :: st,ok,_=>by
  have e : nxF ps c (.s z :: st) = (z,st):=by cases c<;>rfl
  rw [e]
  cases ok _ (List.mem_cons_self ..) with
  | s a b=>exact ⟨rfl,fun u hu=>ok u (List.mem_cons_of_mem _ hu),fun _=>⟨a,b⟩,fun z=>(by cases z),by show st.length <= (st.length + 1) + c; lia⟩
 | 0,.n k :: st,ok,h=>by
  cases ok _ (List.mem_cons_self ..) with
  | n T=>rw [yba T] at h; lia
 | c + 1,.n k :: st,ok,h=>by
  cases ok _ (List.mem_cons_self ..) with
  | @n _ m f l x T =>
   rw [yba T] at h
   rcases g.kind T with ⟨e1,e2,e3,e4,e5⟩ | ⟨a,b,ma,mb,y,z,fa,la,fb,lb,e1,e2,e3,A,B,e4,e5,e6⟩
   ·have e : nxF ps (c + 1) (.n k :: st) = (x,st):=by unfold nxF; rw [e1]
    rw [e]
    exact ⟨by rw [rdS,ycp T],fun u hu=>ok u (List.mem_cons_of_mem _ hu),fun _=>⟨e4,e5⟩,fun z=>(by cases z),by show st.length <= (st.length + 1) + _; lia⟩
   ·have e : nxF ps (c + 1) (.n k :: st) = nxF ps c (.n a :: .n b :: st):=by rw [nxF,e1]
    rw [e]
    have hh:=congrArg Ms.ht e5
    rw [fmH] at hh
    have a0:=A.ky.ht
    have b0:=B.ky.ht
    have r:=ycH g c (.n a :: .n b :: st) (zaV A B ok) (by rw [yba A]; lia)
    refine ⟨?_,r.ok,fun _=>r.z1 (fun z=>by cases z),fun z=>(by cases z),?_⟩
    ·rw [<- r.rd,rdS,rdS,rdS,ycp T,ycp A,ycp B,e4,zal,List.append_assoc]
    ·have:=r.ln
     rw [List.length_cons,List.length_cons] at this
     rw [List.length_cons]; lia
def topF (ps : List Pc) (k : Nat) : Nat -> List Un -> Option (List Un)
 | _,[]=>none
 | _,.s _ :: _=>none
 | 0,.n _ :: _=>none
 | c + 1,.n j :: st=>if j = k then some st else match ps[j - 1]? with
  | some (.fork a b)=>topF ps k c (.n a :: .n b :: st)
  | _=>none
theorem yfM {ps : List Pc} (g : Good ps) {k : Nat} : ∀ (c : Nat) {st st' : List Un},(∀ u ∈ st,OkU ps u) -> topF ps k c st = some st' -> rdS ps st = rdU ps (.n k)++rdS ps st' /\ (∀ u ∈ st',OkU ps u) /\ st'.length <= st.length + c
 | 0,[],st',_,h=>by cases h
 | 0,.s _ :: _,st',_,h=>by cases h
 | 0,.n _ :: _,st',_,h=>by cases h
 | c + 1,[],st',_,h=>by cases h
 | c + 1,.s _ :: _,st',_,h=>by cases h
 | c + 1,.n j :: st,st',ok,h=>by
  rw [topF] at h
  by_cases q : j = k
  ·rw [if_pos q] at h
   cases h
   subst q
   exact ⟨rfl,fun u hu=>ok u (List.mem_cons_of_mem _ hu),by rw [List.length_cons]; lia⟩
  ·rw [if_neg q] at h
   cases ok _ (List.mem_cons_self ..) with
   | @n _ m f l x T =>
    rcases g.kind T with ⟨e1,_⟩ | ⟨a,b,ma,mb,y,z,fa,la,fb,lb,e1,e2,e3,A,B,e4,e5,e6⟩
    ·rw [e1] at h; cases h
    ·rw [e1] at h
     obtain ⟨r1,r2,r3⟩:=yfM g c (zaV A B ok) h
     refine ⟨?_,r2,?_⟩
     ·rw [<- r1,rdS,rdS,rdS,ycp T,ycp A,ycp B,e4,zal,List.append_assoc]
     ·rw [List.length_cons,List.length_cons] at r3
      rw [List.length_cons]; lia
end Sk
namespace Sk
open PySem PySem.Spec L2 Sm
theorem popU {h : AH} {W : Nat} {Z : List AV} {v : AV} (e : h[W]? = some (.lst (Z++[v]))) : mPop (.ref W) [] h = .ok v (h.set W (.lst Z)):=by
 simp [mPop,e]
theorem ybL (u : Un) (st : List Un) : (u :: st).reverse.map uv = st.reverse.map uv++[uv u]:=by simp
theorem zfN (h : AH) : ∀ l : List Un,toDs (toD 7 h) (l.map uv) = some (l.map ud)
 | []=>rfl
 | u :: l=>by
  have e : toD 7 h (uv u) = some (ud u):=by cases u<;>rfl
  rw [List.map_cons,List.map_cons]
  unfold toDs
  rw [e,zfN h l]
theorem yc1 {c : SB} {b : SS} {n : Nat} {en : En} {h h2 : AH} {v : AV} (e : c en h = .ok true h) (eb : b en h = .rt v h2) : yar c b (n + 1) en h = .rt v h2:=by
 unfold yar; rw [e]; dsimp only; rw [eb]
theorem ydU {c : SB} {b : SS} {n : Nat} {en e2 : En} {h h2 : AH} (e : c en h = .ok true h) (eb : b en h = .nx e2 h2) : yar c b (n + 1) en h = yar c b n e2 h2:=by
 unfold yar; rw [e]; dsimp only; rw [eb]; dsimp only
 cases n<;>rfl
theorem yc2 {c : SB} {b : SS} {n : Nat} {en : En} {h : AH} (e : c en h = .ok false h) : yar c b (n + 1) en h = .nx en h:=by
 unfold yar; rw [e]
theorem yeX {h : AH} {W : Nat} {l : List Un} (e : h[W]? = some (.lst (l.map uv))) : eqA (.ref W) (.fl []) h = some l.isEmpty:=by
 have t : toD 8 h (.ref W) = some (.list (l.map ud)):=by
  show (match h[W]? with | some (.lst xs)=>(toDs (toD 7 h) xs).map PyData.list | _=>none) = _
  rw [e]
  show (toDs (toD 7 h) (l.map uv)).map PyData.list = _
  rw [zfN]; rfl
 show (match toD 8 h (.ref W),toD 8 h (.fl []) with | some d,some e=>some (PyData.eqv d e) | _,_=>none) = _
 rw [t]
 show some (PyData.eqv (.list _) (.list [])) = _
 cases l with
 | nil=>simp [PyData.eqv,PyData.eqvAll]
 | cons a b=>simp [PyData.eqv,PyData.eqvAll]
theorem ydV {h : AH} {W : Nat} {u : Un} {st : List Un} (e : h[W]? = some (.lst ((u :: st).reverse.map uv))) : fNe (.ref W) (.fl []) h = .ok (.bl true) h:=by
 show (match eqA (.ref W) (.fl []) h with | some b=>Out.ok (AV.bl (!b)) h | none=>Out.bad) = _
 rw [yeX e]; simp
theorem yez {h : AH} {W : Nat} (e : h[W]? = some (.lst [])) : fNe (.ref W) (.fl []) h = .ok (.bl false) h:=by
 show (match eqA (.ref W) (.fl []) h with | some b=>Out.ok (AV.bl (!b)) h | none=>Out.bad) = _
 rw [yeX (l:=[]) e]; rfl
theorem of_s {h : AH} {p : Nat} {w : AV} (z : Str) : ya8 [.ref p,w,.str z] h = .ok (.bl false) h:=by
 simp [ya8]
theorem zdl {h : AH} {p k : Nat} {ps : List Pc} {w : AV} {x : Str} (S : ShelfAt h p ps) (k1 : 1 <= k) (e : ps[k - 1]? = some (.leaf x)) : ya8 [.ref p,w,.int k] h = .ok (.bl false) h:=by
 have q:=zbc S k1 e
 have i0:=i0L x h
 have eq:=eqL h
 simp [ya8,S.ob,q,i0,eq,-fIx,-fEq]
theorem zdm {h : AH} {p k a b W : Nat} {ps : List Pc} {Z : List AV} (S : ShelfAt h p ps) (k1 : 1 <= k) (e : ps[k - 1]? = some (.fork a b)) (hW : p + 8 < W) (eW : h[W]? = some (.lst Z)) (lz : Z.length <= 1000000) : ya8 [.ref p,.ref W,.int k] h = .ok (.bl true) (h.set W (.lst (Z++[.int b]++[.int a]))):=by
 have q:=zaD S k1 e
 have i0:=i0F a b h
 have eq:=eqF h
 have l1 : Z.length < sizeLine:=Nat.lt_of_le_of_lt lz (by decide)
 have ap : yaA (.ref W) [.int b] h = .ok .non (h.set W (.lst (Z++[.int b]))):=by simp only [yaA,eW,l1,if_true]
 obtain ⟨h1,eh1⟩ : ∃ h1,h1 = h.set W (.lst (Z++[.int b])):=⟨_,rfl⟩
 have eW1 : h1[W]? = some (.lst (Z++[.int b])):=by rw [eh1]; exact List.getElem?_set_self (yaL eW)
 have l2 : (Z++[AV.int b]).length < sizeLine:=Nat.lt_of_le_of_lt (m:=1000001) (by simp; lia) (by decide)
 have ap2 : yaA (.ref W) [.int a] h1 = .ok .non (h1.set W (.lst (Z++[.int b]++[.int a]))):=by simp only [yaA,eW1,l2,if_true]
 rw [<- eh1] at ap
 have fin : h1.set W (.lst (Z++[.int b]++[.int a])) = h.set W (.lst (Z++[.int b]++[.int a])):=by rw [eh1,List.set_set]
 rw [fin] at ap2
 have is1 : yay (.ref W) h = true:=by simp [eW]
 have is2 : yay (.ref W) h1 = true:=by simp [eW1]
 have j1 : ∀ hh,fIx (.tup [.str "fork",.int a,.int b]) (.int 1) hh = .ok (.int a) hh:=i1 _ _ _
 have j2 : ∀ hh,fIx (.tup [.str "fork",.int a,.int b]) (.int 2) hh = .ok (.int b) hh:=i2 _ _ _
 generalize h.set W (.lst (Z++[.int b]++[.int a])) = HF at *
 simp [ya8,S.ob,q,i0,eq,j1,j2,is1,is2,ap,ap2,-fIx,-fEq,-yay,-yaA]
theorem zar {h : AH} {p W : Nat} {ps : List Pc} (S : ShelfAt h p ps) (hW : p + 8 < W) (o : AO) : ShelfAt (h.set W o) p ps:=S.keep fun i _ i8=>List.getElem?_set_ne (by lia)
abbrev CN : SB:=yaq (sOp2 fNe (sVar 1) (sLst sNil))
theorem zfO {p W : Nat} {ps : List Pc} (g : Good ps) (hW : p + 8 < W) : ∀ (c fuel : Nat) (st : List Un) (h : AH) (o : Option AV),ShelfAt h p ps -> (∀ u ∈ st,OkU ps u) -> hU ps st <= c -> c < fuel -> st ≠ [] -> st.length + c <= 1000000 -> h[W]? = some (.lst (st.reverse.map uv)) ->
  yar CN yaR fuel [some (.ref p),some (.ref W),o] h = .rt (.str (nxF ps c st).1) (h.set W (.lst ((nxF ps c st).2.reverse.map uv)))
 | c,0,st,h,o,S,ok,hc,hf,ne,ls,eW=>absurd hf (Nat.not_lt_zero _)
 | c,fu + 1,[],h,o,S,ok,hc,hf,ne,ls,eW=>absurd rfl ne
 | c,fu + 1,.s z :: st,h,o,S,ok,hc,hf,ne,ls,eW=>by
  have nn:=ydV eW
  rw [ybL] at eW
  have po:=popU eW
  have is1 : yay (.ref W) h = true:=by simp [eW]
  have e : nxF ps c (.s z :: st) = (z,st):=by cases c<;>rfl
  rw [e]
  have cn : CN [some (.ref p),some (.ref W),o] h = .ok true h:=by simp [nn,-fNe]
  have eb : yaR [some (.ref p),some (.ref W),o] h = .rt (.str z) (h.set W (.lst (st.reverse.map uv))):=by
   have po' : mPop (.ref W) [] h = .ok (.str z) (h.set W (.lst (st.reverse.map uv))):=po
   generalize h.set W (.lst (st.reverse.map uv)) = h1 at *
   simp [yaR,is1,po',-mPop,-yay]
  exact yc1 cn eb
 | 0,fu + 1,.n k :: st,h,o,S,ok,hc,hf,ne,ls,eW=>by
  cases ok _ (List.mem_cons_self ..) with
  | n T=>rw [yba T] at hc; lia
 | c + 1,fu + 1,.n k :: st,h,o,S,ok,hc,hf,ne,ls,eW=>by
  have nn:=ydV eW
  rw [ybL] at eW
  have po:=popU eW
  have is1 : yay (.ref W) h = true:=by simp [eW]
  have po' : mPop (.ref W) [] h = .ok (.int k) (h.set W (.lst (st.reverse.map uv))):=po
  have cn : CN [some (.ref p),some (.ref W),o] h = .ok true h:=by simp [nn,-fNe]
  have S1 : ShelfAt (h.set W (.lst (st.reverse.map uv))) p ps:=zar S hW _
  have eW1 : (h.set W (.lst (st.reverse.map uv)))[W]? = some (.lst (st.reverse.map uv)):=List.getElem?_set_self (yaL eW)
  obtain ⟨h1,eh1⟩ : ∃ h1,h1 = h.set W (.lst (st.reverse.map uv)):=⟨_,rfl⟩
  rw [<- eh1] at po' S1 eW1
  cases ok _ (List.mem_cons_self ..) with
  | @n _ m f l x T =>
   rw [yba T] at hc
   rw [List.length_cons] at ls
   rcases g.kind T with ⟨e1,e2,e3,e4,e5⟩ | ⟨a,b,ma,mb,y,z,fa,la,fb,lb,e1,e2,e3,A,B,e4,e5,e6⟩
   ·have e : nxF ps (c + 1) (.n k :: st) = (x,st):=by unfold nxF; rw [e1]
    rw [e]
    have op:=zdl (w:=.ref W) S1 T.n1 e1
    have fp:=zbc S1 T.n1 e1
    have eb : yaR [some (.ref p),some (.ref W),o] h = .rt (.str x) h1:=by
     have i1:=i1L x h1
     have ob:=S1.ob
     simp [yaR,is1,po',op,ob,fp,i1,-mPop,-yay,-fIx]
    rw [yc1 cn eb,eh1]
   ·have e : nxF ps (c + 1) (.n k :: st) = nxF ps c (.n a :: .n b :: st):=by rw [nxF,e1]
    rw [e]
    have op:=zdm S1 T.n1 e1 hW eW1 (by simp; lia)
    have e3' : st.reverse.map uv++[.int b]++[.int a] = (.n a :: .n b :: st : List Un).reverse.map uv:=by rw [ybL,ybL]; rfl
    rw [e3'] at op
    have eb : yaR [some (.ref p),some (.ref W),o] h = .nx [some (.ref p),some (.ref W),some (.int k)] (h1.set W (.lst ((.n a :: .n b :: st : List Un).reverse.map uv))):=by
     generalize h1.set W (.lst ((.n a :: .n b :: st : List Un).reverse.map uv)) = h2 at *
     simp [yaR,is1,po',op,-mPop,-yay]
    rw [ydU cn eb]
    have hh:=congrArg Ms.ht e5
    rw [fmH] at hh
    have a0:=A.ky.ht
    have b0:=B.ky.ht
    have r:=zfO g hW c fu (.n a :: .n b :: st) (h1.set W (.lst ((.n a :: .n b :: st : List Un).reverse.map uv))) (some (.int k)) (zar S1 hW _) (zaV A B ok) (by rw [yba A]; lia) (by lia) (fun z=>by cases z) (by rw [List.length_cons,List.length_cons]; lia) (List.getElem?_set_self (yaL eW1))
    rw [r,eh1,List.set_set,List.set_set]
theorem yeA {h : AH} {p W : Nat} {ps : List Pc} {st : List Un} (S : ShelfAt h p ps) (g : Good ps) (hW : p + 8 < W) (ok : ∀ u ∈ st,OkU ps u) (ls : st.length <= 900000) (eW : h[W]? = some (.lst (st.reverse.map uv))) :
  ybl [.ref p,.ref W] h = .ok (.str (nxF ps 90 st).1) (h.set W (.lst ((nxF ps 90 st).2.reverse.map uv))):=by
 by_cases q : st = []
 ·subst q
  have nn:=yez eW
  have e : nxF ps 90 [] = ((Str.ofString "" : Str),([] : List Un)):=rfl
  rw [e]
  have hs : h.set W (.lst (([] : List Un).reverse.map uv)) = h:=by
   refine List.ext_getElem? fun i=>?_
   by_cases q : W = i
   ·subst q; rw [List.getElem?_set_self (yaL eW),eW]
   ·exact List.getElem?_set_ne q
  rw [hs]
  have wl : ∀ n,yar CN yaR (n + 1) [some (.ref p),some (.ref W),none] h = .nx [some (.ref p),some (.ref W),none] h:=fun n=>yc2 (by simp [nn,-fNe])
  have wl' : yar CN yaR yaQ [some (.ref p),some (.ref W),none] h = .nx [some (.ref p),some (.ref W),none] h:=wl _
  unfold ybl
  generalize yar CN yaR yaQ = WL at *
  simp [wl']
 ·have h82:=ybv g ok
  have wl:=zfO g hW 90 yaQ st h none S ok (by lia) (by decide) q (by lia) eW
  unfold ybl
  generalize yar CN yaR yaQ = WL at *
  generalize h.set W (.lst ((nxF ps 90 st).2.reverse.map uv)) = HF at *
  simp [wl]
end Sk
namespace Sk
open PySem PySem.Spec L2 Sm
theorem eq_n (j k : Nat) (h : AH) : fEq (.int j) (.int k) h = .ok (.bl (decide (j = k))) h:=by
 by_cases q : j = k
 ·subst q; simp
 ·have : ¬ (j : Int) = k:=by lia
  simp [q,this]
theorem yil (z : Str) (k : Nat) (h : AH) : fEq (.str z) (.int k) h = .ok (.bl false) h:=by
 show (match eqA (.str z) (.int k) h with | some b=>Out.ok (AV.bl b) h | none=>Out.bad) = _
 have : eqA (.str z) (.int k) h = some false:=by
  show some (PyData.eqv (.str z) (.int k)) = _
  simp [PyData.eqv]
 rw [this]
def tpR (W : Nat) (h : AH) (r : Option (List Un)) (o : OutS) : Prop:=match r with
 | some st' => o = .rt (.bl true) (h.set W (.lst (st'.reverse.map uv)))
 | none=>∃ (Z : List AV) (en : En),o = .rt (.bl false) (h.set W (.lst Z)) \/ o = .nx en (h.set W (.lst Z))
theorem zfP {p W k : Nat} {ps : List Pc} (g : Good ps) (hW : p + 8 < W) : ∀ (c fuel : Nat) (st : List Un) (h : AH) (o : Option AV),ShelfAt h p ps -> (∀ u ∈ st,OkU ps u) -> hU ps st <= c -> c < fuel -> st.length + c <= 1000000 -> h[W]? = some (.lst (st.reverse.map uv)) ->
  tpR W h (topF ps k c st) (yar CN yaF fuel [some (.ref p),some (.ref W),some (.int k),o] h)
 | c,0,st,h,o,S,ok,hc,hf,ls,eW=>absurd hf (Nat.not_lt_zero _)
 | c,fu + 1,[],h,o,S,ok,hc,hf,ls,eW=>by
  have nn:=yez eW
  have e : topF ps k c [] = none:=by cases c<;>rfl
  rw [e,yc2 (by simp [nn,-fNe])]
  have hs : h.set W (.lst []) = h:=by
   refine List.ext_getElem? fun i=>?_
   by_cases q : W = i
   ·subst q; rw [List.getElem?_set_self (yaL eW),eW]; rfl
   ·exact List.getElem?_set_ne q
  exact ⟨[],_,.inr (by rw [hs])⟩
 | c,fu + 1,.s z :: st,h,o,S,ok,hc,hf,ls,eW=>by
  have nn:=ydV eW
  rw [ybL] at eW
  have po:=popU eW
  have is1 : yay (.ref W) h = true:=by simp [eW]
  have e : topF ps k c (.s z :: st) = none:=by cases c<;>rfl
  rw [e]
  have cn : CN [some (.ref p),some (.ref W),some (.int k),o] h = .ok true h:=by simp [nn,-fNe]
  have eb : yaF [some (.ref p),some (.ref W),some (.int k),o] h = .rt (.bl false) (h.set W (.lst (st.reverse.map uv))):=by
   have po' : mPop (.ref W) [] h = .ok (.str z) (h.set W (.lst (st.reverse.map uv))):=po
   generalize h.set W (.lst (st.reverse.map uv)) = h1 at *
   have q:=yil z k h1
   have op:=of_s (h:=h1) (p:=p) (w:=.ref W) z
   simp [yaF,is1,po',q,op,-mPop,-yay,-fEq]
  rw [yc1 cn eb]
  exact ⟨_,[],.inl rfl⟩
 | 0,fu + 1,.n j :: st,h,o,S,ok,hc,hf,ls,eW=>by
  cases ok _ (List.mem_cons_self ..) with
  | @n _ m f l x T=>rw [yba T] at hc; lia
 | c + 1,fu + 1,.n j :: st,h,o,S,ok,hc,hf,ls,eW=>by
  have nn:=ydV eW
  rw [ybL] at eW
  have po:=popU eW
  have is1 : yay (.ref W) h = true:=by simp [eW]
  have po' : mPop (.ref W) [] h = .ok (.int j) (h.set W (.lst (st.reverse.map uv))):=po
  have cn : CN [some (.ref p),some (.ref W),some (.int k),o] h = .ok true h:=by simp [nn,-fNe]
  have S1 : ShelfAt (h.set W (.lst (st.reverse.map uv))) p ps:=zar S hW _
  have eW1 : (h.set W (.lst (st.reverse.map uv)))[W]? = some (.lst (st.reverse.map uv)):=List.getElem?_set_self (yaL eW)
  obtain ⟨h1,eh1⟩ : ∃ h1,h1 = h.set W (.lst (st.reverse.map uv)):=⟨_,rfl⟩
  rw [<- eh1] at po' S1 eW1
  have q0:=eq_n j k h1
  rw [topF]
  by_cases q : j = k
  ·rw [if_pos q]
   rw [decide_eq_true q] at q0
   have eb : yaF [some (.ref p),some (.ref W),some (.int k),o] h = .rt (.bl true) h1:=by
    simp [yaF,is1,po',q0,-mPop,-yay,-fEq]
   rw [yc1 cn eb,eh1]
   exact rfl
  ·rw [if_neg q]
   rw [decide_eq_false q] at q0
   cases ok _ (List.mem_cons_self ..) with
   | @n _ m f l x T =>
    rw [yba T] at hc
    rw [List.length_cons] at ls
    rcases g.kind T with ⟨e1,e2,e3,e4,e5⟩ | ⟨a,b,ma,mb,y,z,fa,la,fb,lb,e1,e2,e3,A,B,e4,e5,e6⟩
    ·have op:=zdl (w:=.ref W) S1 T.n1 e1
     have eb : yaF [some (.ref p),some (.ref W),some (.int k),o] h = .rt (.bl false) h1:=by
      simp [yaF,is1,po',q0,op,-mPop,-yay,-fEq]
     rw [e1,yc1 cn eb,eh1]
     exact ⟨_,[],.inl rfl⟩
    ·have op:=zdm S1 T.n1 e1 hW eW1 (by simp; lia)
     have e3' : st.reverse.map uv++[.int b]++[.int a] = (.n a :: .n b :: st : List Un).reverse.map uv:=by rw [ybL,ybL]; rfl
     rw [e3'] at op
     have eb : yaF [some (.ref p),some (.ref W),some (.int k),o] h = .nx [some (.ref p),some (.ref W),some (.int k),some (.int j)] (h1.set W (.lst ((.n a :: .n b :: st : List Un).reverse.map uv))):=by
      generalize h1.set W (.lst ((.n a :: .n b :: st : List Un).reverse.map uv)) = h2 at *
      simp [yaF,is1,po',q0,op,-mPop,-yay,-fEq]
     rw [e1,ydU cn eb]
     have hh:=congrArg Ms.ht e5
     rw [fmH] at hh
     have a0:=A.ky.ht
     have b0:=B.ky.ht
     have r:=zfP (k:=k) g hW c fu (.n a :: .n b :: st) (h1.set W (.lst ((.n a :: .n b :: st : List Un).reverse.map uv))) (some (.int j)) (zar S1 hW _) (zaV A B ok) (by rw [yba A]; lia) (by lia) (by rw [List.length_cons,List.length_cons]; lia) (List.getElem?_set_self (yaL eW1))
     rw [eh1,List.set_set] at r ⊢
     show tpR W h (topF ps k c (.n a :: .n b :: st)) _
     cases ht : topF ps k c (.n a :: .n b :: st) with
     | some st' =>
      rw [ht] at r
      have r' := r
      unfold tpR at r' ⊢
      rw [r',List.set_set]
     | none =>
      rw [ht] at r
      obtain ⟨Z,en,r'⟩:=r
      rw [List.set_set] at r'
      exact ⟨Z,en,r'⟩
theorem zhZ {h : AH} {p W k : Nat} {ps : List Pc} {st : List Un} (S : ShelfAt h p ps) (g : Good ps) (hW : p + 8 < W) (ok : ∀ u ∈ st,OkU ps u) (ls : st.length <= 900000) (eW : h[W]? = some (.lst (st.reverse.map uv))) :
  (∃ st',topF ps k 90 st = some st' /\ ybo [.ref p,.ref W,.int k] h = .ok (.bl true) (h.set W (.lst (st'.reverse.map uv)))) \/
  (topF ps k 90 st = none /\ ∃ Z,ybo [.ref p,.ref W,.int k] h = .ok (.bl false) (h.set W (.lst Z))):=by
 have h82:=ybv g ok
 have r:=zfP (k:=k) g hW 90 yaQ st h none S ok (by lia) (by decide) (by lia) eW
 cases ht : topF ps k 90 st with
 | some st' =>
  rw [ht] at r
  unfold tpR at r
  dsimp only at r
  refine .inl ⟨st',rfl,?_⟩
  unfold ybo
  generalize yar CN yaF yaQ = WL at *
  generalize h.set W (.lst (st'.reverse.map uv)) = HF at *
  simp [r]
 | none =>
  rw [ht] at r
  obtain ⟨Z,en,r | r⟩:=r
  ·refine .inr ⟨rfl,Z,?_⟩
   unfold ybo
   generalize yar CN yaF yaQ = WL at *
   generalize h.set W (.lst Z) = HF at *
   simp [r]
  ·refine .inr ⟨rfl,Z,?_⟩
   unfold ybo
   generalize yar CN yaF yaQ = WL at *
   generalize h.set W (.lst Z) = HF at *
   simp [r]
end Sk
namespace Sk
open PySem PySem.Spec L2 Sm
def psh (z : Str) (st : List Un) : List Un:=if z = "" then st else .s z :: st
def d1 (ps : List Pc) (st : List Un) : List Un:=psh (dpS (nxF ps 90 st).1 1) (nxF ps 90 st).2
def dN (ps : List Pc) : Nat -> List Un -> List Un
 | 0,st=>st
 | m + 1,st=>dN ps m (d1 ps st)
theorem yfN (ps : List Pc) : ∀ (a b : Nat) (st : List Un),dN ps (a + b) st = dN ps b (dN ps a st)
 | 0,b,st=>by rw [Nat.zero_add]; rfl
 | a + 1,b,st=>by rw [Nat.add_right_comm,dN,dN,yfN ps a b]
theorem zaQ {z : Str} : z = "" ↔ z.length = 0:=by
 constructor
 ·rintro rfl; rfl
 ·intro h
  refine zae ?_
  rw [zad] at h
  rw [List.length_eq_zero_iff.mp h]; rfl
theorem yf9 (z : Str) (a b : Nat) : dpS (dpS z a) b = dpS z (a + b):=zae (by rw [yb2,yb2,yb2,List.drop_drop])
theorem nx_s (ps : List Pc) (c : Nat) (z : Str) (st : List Un) : nxF ps c (.s z :: st) = (z,st):=by cases c<;>rfl
theorem yfO (ps : List Pc) : ∀ (m : Nat) (z : Str) (st : List Un),m <= z.length -> dN ps m (psh z st) = psh (dpS z m) st
 | 0,z,st,_=>by rw [dN,dp_0]
 | m + 1,z,st,h=>by
  have ne : ¬ z = "" := fun q=>by rw [zaQ] at q; lia
  have e : psh z st = .s z :: st:=if_neg ne
  rw [dN,d1,e,nx_s]
  show dN ps m (psh (dpS z 1) st) = _
  rw [yfO ps m _ _ (by rw [ycG]; lia),yf9,Nat.add_comm]
theorem yga {ps : List Pc} {st st0 : List Un} {z : Str} {m : Nat} (e : nxF ps 90 st = (z,st0)) (m1 : 1 <= m) (hm : m <= z.length) : dN ps m st = psh (dpS z m) st0:=by
 obtain ⟨j,rfl⟩ : ∃ j,m = j + 1:=⟨m - 1,by lia⟩
 rw [dN,d1,e]
 show dN ps j (psh (dpS z 1) st0) = _
 rw [yfO ps j _ _ (by rw [ycG]; lia),yf9,Nat.add_comm]
theorem yeY (ps : List Pc) (z : Str) (st : List Un) : rdS ps (psh z st) = z.cps.toList++rdS ps st:=by
 unfold psh
 split
 ·rename_i q; rw [q]; rfl
 ·rfl
theorem yeB {ps : List Pc} {z : Str} {st : List Un} (hz : z.length <= 8) (ok : ∀ u ∈ st,OkU ps u) : ∀ u ∈ psh z st,OkU ps u:=by
 unfold psh
 split
 ·exact ok
 ·rename_i q
  intro u hu
  rcases List.mem_cons.mp hu with rfl | hu
  ·exact .s (by rw [zaQ] at q; lia) hz
  ·exact ok u hu
theorem zdn (z : Str) (st : List Un) : (psh z st).length <= st.length + 1:=by
 unfold psh
 split
 ·lia
 ·rw [List.length_cons]; lia
def tkF (ps : List Pc) : Nat -> Str -> List Un -> Option (List Un)
 | 0,_,_=>none
 | c + 1,w,st=>if w = "" then some st else
   if min (nxF ps 90 st).1.length w.length = 0 \/ ¬ tkS (nxF ps 90 st).1 (min (nxF ps 90 st).1.length w.length) = tkS w (min (nxF ps 90 st).1.length w.length) then none else
    tkF ps c (dpS w (min (nxF ps 90 st).1.length w.length)) (psh (dpS (nxF ps 90 st).1 (min (nxF ps 90 st).1.length w.length)) (nxF ps 90 st).2)
structure TkOk (ps : List Pc) (w : Str) (st st' : List Un) (c : Nat) : Prop where
 rd : rdS ps st = w.cps.toList++rdS ps st'
 ok : ∀ u ∈ st',OkU ps u
 ln : st'.length <= st.length + 91 * c
 dn : st' = dN ps w.length st
theorem zcO {ps : List Pc} (g : Good ps) : ∀ (c : Nat) {w : Str} {st st' : List Un},(∀ u ∈ st,OkU ps u) -> tkF ps c w st = some st' -> TkOk ps w st st' c
 | 0,w,st,st',_,h=>by cases h
 | c + 1,w,st,st',ok,h=>by
  rw [tkF] at h
  by_cases q : w = ""
  ·rw [if_pos q] at h
   cases h
   subst q
   exact ⟨rfl,ok,by lia,rfl⟩
  ·rw [if_neg q] at h
   have N:=ycH g 90 st ok (by have:=ybv g ok; lia)
   obtain ⟨z,st0,e⟩ : ∃ z st0,nxF ps 90 st = (z,st0):=⟨_,_,rfl⟩
   rw [e] at h N
   dsimp only at h
   obtain ⟨m,em⟩ : ∃ m,m = min z.length w.length:=⟨_,rfl⟩
   rw [<- em] at h
   by_cases q2 : m = 0 \/ ¬ tkS z m = tkS w m
   ·rw [if_pos q2] at h; cases h
   ·rw [if_neg q2] at h
    have m0 : ¬ m = 0:=fun z=>q2 (.inl z)
    have tq : tkS z m = tkS w m:=Decidable.byContradiction fun z=>q2 (.inr z)
    have sn : st ≠ []:=fun z0=>by
     have:=N.z0 z0
     cases this
     have : ("" : Str).length = 0:=rfl
     lia
    have zb:=N.z1 sn
    dsimp only at zb
    have okp:=yeB (z:=dpS z m) (st:=st0) (by rw [ycG]; lia) N.ok
    have r:=zcO g c okp h
    have rd:=N.rd
    dsimp only at rd
    have nl:=N.ln
    dsimp only at nl
    have pl:=zdn (dpS z m) st0
    have ct : ∀ v : Str,v.cps.toList = (tkS v m).cps.toList++(dpS v m).cps.toList:=fun v=>by rw [yb1,yb2,List.take_append_drop]
    refine ⟨?_,r.ok,by have:=r.ln; lia,?_⟩
    ·have r1:=r.rd
     rw [yeY] at r1
     rw [rd,ct z,tq,ct w,List.append_assoc,List.append_assoc,r1]
    ·rw [r.dn,<- yga e (by lia) (by lia),<- yfN,ycG]
     congr 1
     lia
theorem zjb {a b c d : List Nat} (e : a++b = c++d) {m : Nat} (h1 : m <= a.length) (h2 : m <= c.length) : a.take m = c.take m /\ a.drop m++b = c.drop m++d:=by
 have t:=congrArg (List.take m) e
 rw [List.take_append_of_le_length h1,List.take_append_of_le_length h2] at t
 have u:=congrArg (List.drop m) e
 rw [List.drop_append_of_le_length h1,List.drop_append_of_le_length h2] at u
 exact ⟨t,u⟩
theorem zfQ {ps : List Pc} (g : Good ps) : ∀ (c : Nat) {w : Str} {st : List Un} {r : List Nat},(∀ u ∈ st,OkU ps u) -> rdS ps st = w.cps.toList++r -> w.length < c -> ∃ st',tkF ps c w st = some st'
 | 0,w,st,r,_,_,h=>absurd h (Nat.not_lt_zero _)
 | c + 1,w,st,r,ok,rd,hc=>by
  rw [tkF]
  by_cases q : w = ""
  ·rw [if_pos q]; exact ⟨_,rfl⟩
  ·rw [if_neg q]
   have w1 : 1 <= w.length:=by rw [zaQ] at q; lia
   have N:=ycH g 90 st ok (by have:=ybv g ok; lia)
   obtain ⟨z,st0,e⟩ : ∃ z st0,nxF ps 90 st = (z,st0):=⟨_,_,rfl⟩
   rw [e] at N ⊢
   dsimp only
   have sn : st ≠ []:=fun z0=>by
    rw [z0] at rd
    have:=congrArg List.length rd
    rw [List.length_append,<- zad] at this
    have : (rdS ps []).length = 0:=rfl
    lia
   have zb:=N.z1 sn
   dsimp only at zb
   have rd2:=N.rd
   dsimp only at rd2
   obtain ⟨m,em⟩ : ∃ m,m = min z.length w.length:=⟨_,rfl⟩
   rw [<- em]
   have lz:=zad z
   have lw:=zad w
   obtain ⟨t1,t2⟩:=zjb (rd2.symm.trans rd) (m:=m) (by lia) (by lia)
   have tq : tkS z m = tkS w m:=zae t1
   rw [if_neg (by
    rintro (z0 | z0)
    ·lia
    ·exact z0 tq)]
   refine zfQ g c (r:=r) (yeB (by rw [ycG]; lia) N.ok) ?_ (by rw [ycG]; lia)
   rw [yeY,yb2,yb2]
   exact t2
theorem zjc {ps : List Pc} (g : Good ps) {c : Nat} {w : Str} {st : List Un} {r : List Nat} (ok : ∀ u ∈ st,OkU ps u) (rd : rdS ps st = w.cps.toList++r) (hc : w.length < c) : tkF ps c w st = some (dN ps w.length st):=by
 obtain ⟨st',e⟩:=zfQ g c ok rd hc
 rw [e,(zcO g c ok e).dn]
end Sk
namespace Sk
open PySem PySem.Spec L2 Sm
theorem zbd {h : AH} {W : Nat} {o : AO} (e : h[W]? = some o) : h.set W o = h:=by
 refine List.ext_getElem? fun i=>?_
 by_cases q : W = i
 ·subst q; rw [List.getElem?_set_self (yaL e),e]
 ·exact List.getElem?_set_ne q
theorem yeZ {h : AH} {W : Nat} {st : List Un} (z : Str) (eW : h[W]? = some (.lst (st.reverse.map uv))) (ls : st.length <= 1000000) : ybQ [.ref W,.str z] h = .ok .non (h.set W (.lst ((psh z st).reverse.map uv))):=by
 unfold psh
 by_cases q : z = ""
 ·rw [if_pos q,zbd eW]
  have ne : fNe (.str z) (.str "") h = .ok (.bl false) h:=by rw [q]; simp
  simp [ybQ,ne,-fNe]
 ·rw [if_neg q,ybL]
  have ne : fNe (.str z) (.str "") h = .ok (.bl true) h:=by simp [q]
  have l1 : (st.reverse.map uv).length < sizeLine:=Nat.lt_of_le_of_lt (m:=1000000) (by simpa using ls) (by decide)
  have ap : yaA (.ref W) [.str z] h = .ok .non (h.set W (.lst (st.reverse.map uv++[.str z]))):=by simp only [yaA,eW,l1,if_true]
  have is1 : yay (.ref W) h = true:=by simp [eW]
  show _ = Out.ok AV.non (h.set W (.lst (st.reverse.map uv++[.str z])))
  generalize h.set W (.lst (st.reverse.map uv++[.str z])) = HF at *
  simp [ybQ,ne,is1,ap,-fNe,-yay,-yaA]
abbrev CP : SB:=yaq (sOp2 fNe (sVar 3) (sLit (.str "")))
def tkR (W : Nat) (h : AH) (p : Nat) (w0 : Str) (r : Option (List Un)) (o : OutS) : Prop:=match r with
 | some st' => ∃ o3 o4 o5,o = .nx [some (.ref p),some (.ref W),some (.str w0),o3,o4,o5] (h.set W (.lst (st'.reverse.map uv)))
 | none=>∃ Z,o = .rt (.bl false) (h.set W (.lst Z))
theorem zfR {p W : Nat} {ps : List Pc} (g : Good ps) (hW : p + 8 < W) (w0 : Str) : ∀ (c fuel : Nat) (w : Str) (st : List Un) (h : AH) (o4 o5 : Option AV),ShelfAt h p ps -> (∀ u ∈ st,OkU ps u) -> w.length < c -> c <= fuel -> st.length + 91 * c <= 900000 -> h[W]? = some (.lst (st.reverse.map uv)) ->
  tkR W h p w0 (tkF ps c w st) (yar CP yaJ fuel [some (.ref p),some (.ref W),some (.str w0),some (.str w),o4,o5] h)
 | 0,fuel,w,st,h,o4,o5,S,ok,hc,hf,ls,eW=>absurd hc (Nat.not_lt_zero _)
 | c + 1,0,w,st,h,o4,o5,S,ok,hc,hf,ls,eW=>by lia
 | c + 1,fu + 1,w,st,h,o4,o5,S,ok,hc,hf,ls,eW=>by
  rw [tkF]
  by_cases q : w = ""
  ·have ne : fNe (.str w) (.str "") h = .ok (.bl false) h:=by rw [q]; simp
   rw [if_pos q,yc2 (by simp [ne,-fNe])]
   exact ⟨_,_,_,by rw [zbd eW]⟩
  ·have ne : fNe (.str w) (.str "") h = .ok (.bl true) h:=by simp [q]
   have cn : CP [some (.ref p),some (.ref W),some (.str w0),some (.str w),o4,o5] h = .ok true h:=by simp [ne,-fNe]
   rw [if_neg q]
   have w1 : 1 <= w.length:=by rw [zaQ] at q; lia
   have N:=ycH g 90 st ok (by have:=ybv g ok; lia)
   have fn:=yeA S g hW ok (by lia) eW
   obtain ⟨z,st0,e⟩ : ∃ z st0,nxF ps 90 st = (z,st0):=⟨_,_,rfl⟩
   rw [e] at N fn ⊢
   dsimp only at fn ⊢
   have nl:=N.ln
   dsimp only at nl
   obtain ⟨m,em⟩ : ∃ m,m = min z.length w.length:=⟨_,rfl⟩
   rw [<- em]
   have S1 : ShelfAt (h.set W (.lst (st0.reverse.map uv))) p ps:=zar S hW _
   have eW1 : (h.set W (.lst (st0.reverse.map uv)))[W]? = some (.lst (st0.reverse.map uv)):=List.getElem?_set_self (yaL eW)
   obtain ⟨h1,eh1⟩ : ∃ h1,h1 = h.set W (.lst (st0.reverse.map uv)):=⟨_,rfl⟩
   rw [<- eh1] at fn S1 eW1
   have l1 : fLen [.str z] h1 = .ok (.int z.length) h1:=rfl
   have l2 : fLen [.str w] h1 = .ok (.int w.length) h1:=rfl
   have mn : ybO [.int z.length,.int w.length] h1 = .ok (.int m) h1:=by
    have : ybO [.int z.length,.int w.length] h1 = .ok (.int (if (w.length : Int) < z.length then (w.length : Int) else z.length)) h1:=rfl
    rw [this]
    by_cases q : w.length < z.length
    ·rw [if_pos (by lia)]; congr 2; lia
    ·rw [if_neg (by lia)]; congr 2; lia
   have eq0:=eq_n m 0 h1
   have eq0' : fEq (.int m) (.int 0) h1 = .ok (.bl (decide (m = 0))) h1:=eq0
   have c1:=yex (x:=z) (a:=m) h1
   have c2:=yex (x:=w) (a:=m) h1
   have c3 : ∀ hh,ybd (.str z) (some (m : Int)) none hh = .ok (.str (dpS z m)) hh:=yey (by lia)
   have c4 : ∀ hh,ybd (.str w) (some (m : Int)) none hh = .ok (.str (dpS w m)) hh:=yey (by lia)
   by_cases q1 : m = 0
   ·rw [if_pos (.inl q1)]
    rw [decide_eq_true q1] at eq0'
    have eb : yaJ [some (.ref p),some (.ref W),some (.str w0),some (.str w),o4,o5] h = .rt (.bl false) h1:=by
     generalize (z.length : Int) = ZL at *
     generalize (w.length : Int) = WL at *
     generalize (m : Int) = MM at *
     simp [yaJ,fn,l1,l2,mn,eq0',-fLen,-ybO,-fEq]
    rw [yc1 cn eb,eh1]
    exact ⟨_,rfl⟩
   ·rw [decide_eq_false q1] at eq0'
    by_cases q2 : tkS z m = tkS w m
    ·rw [if_neg (by rintro (a | a); exact q1 a; exact a q2)]
     have n2 : fNe (.str (tkS z m)) (.str (tkS w m)) h1 = .ok (.bl false) h1:=by rw [q2]; simp
     have pb:=yeZ (dpS z m) eW1 (by lia)
     have sn : st ≠ []:=fun z0=>by
      have:=N.z0 z0
      cases this
      have : ("" : Str).length = 0:=rfl
      lia
     have zb:=N.z1 sn
     dsimp only at zb
     have pl:=zdn (dpS z m) st0
     obtain ⟨h2,eh2⟩ : ∃ h2,h2 = h1.set W (.lst ((psh (dpS z m) st0).reverse.map uv)):=⟨_,rfl⟩
     have S2 : ShelfAt h2 p ps:=by rw [eh2]; exact zar S1 hW _
     have eW2 : h2[W]? = some (.lst ((psh (dpS z m) st0).reverse.map uv)):=by rw [eh2]; exact List.getElem?_set_self (yaL eW1)
     rw [<- eh2] at pb
     have eb : yaJ [some (.ref p),some (.ref W),some (.str w0),some (.str w),o4,o5] h = .nx [some (.ref p),some (.ref W),some (.str w0),some (.str (dpS w m)),some (.str z),some (.int m)] h2:=by
      generalize (z.length : Int) = ZL at *
      generalize (w.length : Int) = WL at *
      generalize (m : Int) = MM at *
      simp [yaJ,fn,l1,l2,mn,eq0',c1,c2,c3,c4,n2,pb,-fLen,-ybO,-fEq,-fNe,-ybd]
     rw [ydU cn eb]
     have r:=zfR g hW w0 c fu (dpS w m) (psh (dpS z m) st0) h2 (some (.str z)) (some (.int m)) S2 (yeB (by rw [ycG]; lia) N.ok) (by rw [ycG]; lia) (by lia) (by lia) eW2
     cases ht : tkF ps c (dpS w m) (psh (dpS z m) st0) with
     | some st' =>
      rw [ht] at r
      obtain ⟨a,b,d,r⟩:=r
      exact ⟨a,b,d,by rw [r,eh2,eh1,List.set_set,List.set_set]⟩
     | none =>
      rw [ht] at r
      obtain ⟨Z,r⟩:=r
      exact ⟨Z,by rw [r,eh2,eh1,List.set_set,List.set_set]⟩
    ·rw [if_pos (.inr q2)]
     have n2 : fNe (.str (tkS z m)) (.str (tkS w m)) h1 = .ok (.bl true) h1:=by simp [q2]
     have eb : yaJ [some (.ref p),some (.ref W),some (.str w0),some (.str w),o4,o5] h = .rt (.bl false) h1:=by
      generalize (z.length : Int) = ZL at *
      generalize (w.length : Int) = WL at *
      generalize (m : Int) = MM at *
      simp [yaJ,fn,l1,l2,mn,eq0',c1,c2,n2,-fLen,-ybO,-fEq,-fNe,-ybd]
     rw [yc1 cn eb,eh1]
     exact ⟨_,rfl⟩
theorem zh0 {h : AH} {p W : Nat} {ps : List Pc} {st : List Un} {w : Str} (S : ShelfAt h p ps) (g : Good ps) (hW : p + 8 < W) (ok : ∀ u ∈ st,OkU ps u) (ls : st.length <= 890000) (hw : w.length <= 8) (eW : h[W]? = some (.lst (st.reverse.map uv))) :
  (∃ st',tkF ps 10 w st = some st' /\ ybu [.ref p,.ref W,.str w] h = .ok (.bl true) (h.set W (.lst (st'.reverse.map uv)))) \/
  (tkF ps 10 w st = none /\ ∃ Z,ybu [.ref p,.ref W,.str w] h = .ok (.bl false) (h.set W (.lst Z))):=by
 have r:=zfR g hW w 10 yaQ w st h none none S ok (by lia) (by decide) (by lia) eW
 cases ht : tkF ps 10 w st with
 | some st' =>
  rw [ht] at r
  obtain ⟨a,b,d,r⟩:=r
  refine .inl ⟨st',rfl,?_⟩
  unfold ybu
  generalize yar CP yaJ yaQ = WL at *
  generalize h.set W (.lst (st'.reverse.map uv)) = HF at *
  simp [r]
 | none =>
  rw [ht] at r
  obtain ⟨Z,r⟩:=r
  refine .inr ⟨rfl,Z,?_⟩
  unfold ybu
  generalize yar CP yaJ yaQ = WL at *
  generalize h.set W (.lst Z) = HF at *
  simp [r]
end Sk
namespace Sk
open PySem PySem.Spec L2 Sm
inductive OkI (ps : List Pc) : Un -> Prop
 | n {k : Nat} {m f l : Ms} {x : Str} (T : Tx ps k m x f l) : OkI ps (.n k)
 | s {z : Str} (a : ybp z = true) : OkI ps (.s z)
def itF (ps : List Pc) : Un -> List Un -> Option (List Un)
 | .n k,st=>topF ps k 90 st
 | .s w,st=>tkF ps 10 w st
def lbF (ps : List Pc) : List Un -> List Un -> Option (List Un)
 | [],st=>some st
 | i :: r,st=>(itF ps i st).bind (lbF ps r)
theorem yfP (ps : List Pc) : ∀ (a b : List Un) (st : List Un),lbF ps (a++b) st = (lbF ps a st).bind (lbF ps b)
 | [],b,st=>rfl
 | i :: a,b,st=>by
  rw [List.cons_append,lbF,lbF]
  cases itF ps i st with
  | none=>rfl
  | some s=>exact yfP ps a b s
theorem zcP {ps : List Pc} (g : Good ps) {i : Un} {st st' : List Un} (ok : ∀ u ∈ st,OkU ps u) (e : itF ps i st = some st') : rdS ps st = rdU ps i++rdS ps st' /\ (∀ u ∈ st',OkU ps u) /\ st'.length <= st.length + 1000:=by
 cases i with
 | n k =>
  obtain ⟨a,b,c⟩:=yfM g 90 ok e
  exact ⟨a,b,by lia⟩
 | s w =>
  have r:=zcO g 10 ok e
  exact ⟨r.rd,r.ok,by have:=r.ln; lia⟩
theorem zaT {ps : List Pc} (g : Good ps) : ∀ (its : List Un) {st st' : List Un},(∀ u ∈ st,OkU ps u) -> lbF ps its st = some st' -> rdS ps st = rdS ps its++rdS ps st' /\ (∀ u ∈ st',OkU ps u)
 | [],st,st',ok,e=>by cases e; exact ⟨rfl,ok⟩
 | i :: its,st,st',ok,e=>by
  rw [lbF] at e
  obtain ⟨s1,e1,e2⟩:=Option.bind_eq_some_iff.mp e
  obtain ⟨a,b,_⟩:=zcP g ok e1
  obtain ⟨c,d⟩:=zaT g its b e2
  exact ⟨by rw [a,c,rdS,List.append_assoc],d⟩
theorem yhn {h : AH} {p W : Nat} {ps : List Pc} {st : List Un} {i : Un} (S : ShelfAt h p ps) (g : Good ps) (hW : p + 8 < W) (ok : ∀ u ∈ st,OkU ps u) (oi : OkI ps i) (ls : st.length <= 890000) (eW : h[W]? = some (.lst (st.reverse.map uv))) :
  (∃ st',itF ps i st = some st' /\ yaZ [.ref p,.ref W,uv i] h = .ok (.bl true) (h.set W (.lst (st'.reverse.map uv)))) \/
  (itF ps i st = none /\ ∃ Z,yaZ [.ref p,.ref W,uv i] h = .ok (.bl false) (h.set W (.lst Z))):=by
 have ob:=S.ob
 cases oi with
 | @n k m f l x T =>
  have hp : yaK [.ref p,.int k] h = .ok (.bl true) h:=by
   rw [yev S]
   have:=T.n1
   have:=T.le
   rw [decide_eq_true (by lia)]
  show (∃ st',topF ps k 90 st = some st' /\ yaZ [.ref p,.ref W,.int k] h = _) \/ (topF ps k 90 st = none /\ ∃ Z,yaZ [.ref p,.ref W,.int k] h = _)
  rcases zhZ (k:=k) S g hW ok (by lia) eW with ⟨st',a,b⟩ | ⟨a,Z,b⟩
  ·refine .inl ⟨st',a,?_⟩
   generalize h.set W (.lst (st'.reverse.map uv)) = HF at *
   simp [yaZ,ob,hp,b]
  ·refine .inr ⟨a,Z,?_⟩
   generalize h.set W (.lst Z) = HF at *
   simp [yaZ,ob,hp,b]
 | @s w a =>
  obtain ⟨w1,w8,_⟩:=zaw a
  have hp : yaK [.ref p,.str w] h = .ok (.bl false) h:=by
   simp [yaK,yck,ob]
  have sh : ybY [.str w] h = .ok (.bl true) h:=by rw [zcl w h (Nat.le_trans w8 (by decide)),a]
  show (∃ st',tkF ps 10 w st = some st' /\ yaZ [.ref p,.ref W,.str w] h = _) \/ (tkF ps 10 w st = none /\ ∃ Z,yaZ [.ref p,.ref W,.str w] h = _)
  rcases zh0 (w:=w) S g hW ok ls w8 eW with ⟨st',a,b⟩ | ⟨a,Z,b⟩
  ·refine .inl ⟨st',a,?_⟩
   generalize h.set W (.lst (st'.reverse.map uv)) = HF at *
   simp [yaZ,ob,hp,sh,b]
  ·refine .inr ⟨a,Z,?_⟩
   generalize h.set W (.lst Z) = HF at *
   simp [yaZ,ob,hp,sh,b]
inductive SrcI (h : AH) (its : List Un) : AV -> Option Nat -> Prop
 | ref {B : Nat} (e : h[B]? = some (.lst (its.map uv))) : SrcI h its (.ref B) (some B)
 | fl : SrcI h its (.fl (its.map uv)) none
theorem SrcI.live {h : AH} {its : List Un} {v : AV} {w : Option Nat} (s : SrcI h its v w) {hh : AH} (k : ∀ i,i < h.length -> hh[i]? = h[i]?) : ybX w (its.map uv) hh = true:=by
 cases s with
 | ref e=>simp [k _ (yaL e),e]
 | fl=>rfl
theorem SrcI.mono {h hh : AH} {its : List Un} {v : AV} {w : Option Nat} (s : SrcI h its v w) (k : ∀ i,i < h.length -> hh[i]? = h[i]?) : SrcI hh its v w:=by
 cases s with
 | ref e=>exact .ref ((k _ (yaL e)).trans e)
 | fl=>exact .fl
def Bd (ps : List Pc) (H : Nat) : List Un -> Prop
 | []=>True
 | u :: r=>r.length + hU ps (u :: r) <= H /\ Bd ps H r
theorem Bd.len {ps : List Pc} {H : Nat} {st : List Un} (b : Bd ps H st) : st.length <= H + 1:=by
 cases st with
 | nil=>exact Nat.zero_le _
 | cons u r =>
  have:=b.1
  rw [List.length_cons]; lia
theorem zdo {ps : List Pc} {H j a b : Nat} {m ma mb f l fa la fb lb : Ms} {x y z : Str} {r : List Un} (T : Tx ps j m x f l) (A : Tx ps a ma y fa la) (B : Tx ps b mb z fb lb) (e5 : m = ycc ma mb) (h : Bd ps H (.n j :: r)) : Bd ps H (.n a :: .n b :: r):=by
 have h1:=h.1
 rw [yba T] at h1
 have hh:=congrArg Ms.ht e5
 rw [fmH] at hh
 have a0:=A.ky.ht
 have b0:=B.ky.ht
 refine ⟨?_,?_,h.2⟩
 ·rw [yba A,List.length_cons]; lia
 ·rw [yba B]; lia
theorem ygb {ps : List Pc} (g : Good ps) {H : Nat} : ∀ (c : Nat) (st : List Un),(∀ u ∈ st,OkU ps u) -> hU ps st <= c -> Bd ps H st -> Bd ps H (nxF ps c st).2 /\ (nxF ps c st).2.length <= H
 | c,[],ok,_,b=>by
  have e : nxF ps c [] = ((Str.ofString "" : Str),([] : List Un)):=by cases c<;>rfl
  rw [e]; exact ⟨trivial,Nat.zero_le _⟩
 | c,.s z :: st,ok,_,b=>by
  rw [nx_s]
  have:=b.1
  exact ⟨b.2,by show st.length <= H; lia⟩
 | 0,.n k :: st,ok,h,b=>by
  cases ok _ (List.mem_cons_self ..) with
  | @n _ m f l x T=>rw [yba T] at h; lia
 | c + 1,.n k :: st,ok,h,b=>by
  cases ok _ (List.mem_cons_self ..) with
  | @n _ m f l x T =>
   have h' := h
   rw [yba T] at h'
   rcases g.kind T with ⟨e1,e2,e3,e4,e5⟩ | ⟨a,d,ma,mb,y,z,fa,la,fb,lb,e1,e2,e3,A,B,e4,e5,e6⟩
   ·have e : nxF ps (c + 1) (.n k :: st) = (x,st):=by unfold nxF; rw [e1]
    rw [e]
    have:=b.1
    exact ⟨b.2,by show st.length <= H; lia⟩
   ·have e : nxF ps (c + 1) (.n k :: st) = nxF ps c (.n a :: .n d :: st):=by rw [nxF,e1]
    rw [e]
    have hh:=congrArg Ms.ht e5
    rw [fmH] at hh
    have a0:=A.ky.ht
    have b0:=B.ky.ht
    exact ygb g c (.n a :: .n d :: st) (zaV A B ok) (by rw [yba A]; lia) (zdo T A B e5 b)
theorem yfQ {ps : List Pc} (g : Good ps) {H k : Nat} : ∀ (c : Nat) {st st' : List Un},(∀ u ∈ st,OkU ps u) -> topF ps k c st = some st' -> Bd ps H st -> Bd ps H st'
 | 0,[],st',_,h,_=>by cases h
 | 0,.s _ :: _,st',_,h,_=>by cases h
 | 0,.n _ :: _,st',_,h,_=>by cases h
 | c + 1,[],st',_,h,_=>by cases h
 | c + 1,.s _ :: _,st',_,h,_=>by cases h
 | c + 1,.n j :: st,st',ok,h,b=>by
  rw [topF] at h
  by_cases q : j = k
  ·rw [if_pos q] at h
   cases h
   exact b.2
  ·rw [if_neg q] at h
   cases ok _ (List.mem_cons_self ..) with
   | @n _ m f l x T =>
    rcases g.kind T with ⟨e1,_⟩ | ⟨a,d,ma,mb,y,z,fa,la,fb,lb,e1,e2,e3,A,B,e4,e5,e6⟩
    ·rw [e1] at h; cases h
    ·rw [e1] at h
     exact yfQ g c (zaV A B ok) h (zdo T A B e5 b)
theorem yho {ps : List Pc} {H : Nat} {z : Str} {st : List Un} (b : Bd ps H st) (h : st.length <= H) : Bd ps H (psh z st):=by
 unfold psh
 split
 ·exact b
 ·exact ⟨h,b⟩
theorem ygc {ps : List Pc} (g : Good ps) {H : Nat} : ∀ (c : Nat) {w : Str} {st st' : List Un},(∀ u ∈ st,OkU ps u) -> tkF ps c w st = some st' -> Bd ps H st -> Bd ps H st'
 | 0,w,st,st',_,h,_=>by cases h
 | c + 1,w,st,st',ok,h,b=>by
  rw [tkF] at h
  by_cases q : w = ""
  ·rw [if_pos q] at h
   cases h
   exact b
  ·rw [if_neg q] at h
   have N:=ycH g 90 st ok (by have:=ybv g ok; lia)
   have M:=ygb (H:=H) g 90 st ok (by have:=ybv g ok; lia) b
   obtain ⟨z,st0,e⟩ : ∃ z st0,nxF ps 90 st = (z,st0):=⟨_,_,rfl⟩
   rw [e] at h N M
   dsimp only at h M
   obtain ⟨m,em⟩ : ∃ m,m = min z.length w.length:=⟨_,rfl⟩
   rw [<- em] at h
   by_cases q2 : m = 0 \/ ¬ tkS z m = tkS w m
   ·rw [if_pos q2] at h; cases h
   ·rw [if_neg q2] at h
    have m0 : ¬ m = 0:=fun z=>q2 (.inl z)
    have sn : st ≠ []:=fun z0=>by
     have:=N.z0 z0
     cases this
     have : ("" : Str).length = 0:=rfl
     lia
    have zb:=N.z1 sn
    dsimp only at zb
    exact ygc g c (yeB (by rw [ycG]; lia) N.ok) h (yho M.1 M.2)
theorem ygd {ps : List Pc} (g : Good ps) {H : Nat} {i : Un} {st st' : List Un} (ok : ∀ u ∈ st,OkU ps u) (e : itF ps i st = some st') (b : Bd ps H st) : Bd ps H st' := by
 cases i with
 | n k=>exact yfQ g 90 ok e b
 | s w=>exact ygc g 10 ok e b
def lbR (W : Nat) (hh : AH) (e0 : Option AV -> En) (r : Option (List Un)) (o : OutS) : Prop:=match r with
 | some st' => ∃ o4,o = .nx (e0 o4) (hh.set W (.lst (st'.reverse.map uv)))
 | none=>∃ Z,o = .rt .non (hh.set W (.lst Z))
theorem zfS {h : AH} {p t : Nat} {ps : List Pc} {all : List Un} {v : AV} {w : Option Nat} (S : ShelfAt h p ps) (g : Good ps) (sr : SrcI h all v w) (hW : p + 8 < h.length) : ∀ (its : List Un) (st : List Un) (hh : AH) (o4 : Option AV),(∀ i ∈ its,OkI ps i) -> (∀ u ∈ st,OkU ps u) -> Bd ps 83 st -> ShelfAt hh p ps ->
  (∀ i,i < h.length -> hh[i]? = h[i]?) -> hh[h.length]? = some (.lst (st.reverse.map uv)) ->
  lbR h.length hh (fun o=>[some (.ref p),some (.int t),some v,some (.ref h.length),o]) (lbF ps its st) (ya3 w (all.map uv) (.nm 4) yau (its.map uv) [some (.ref p),some (.int t),some v,some (.ref h.length),o4] hh)
 | [],st,hh,o4,oi,ok,bd,S',k,eW=>by
  unfold ya3
  rw [List.map_nil]
  dsimp only
  rw [if_pos (sr.live k)]
  exact ⟨o4,by rw [zbd eW]⟩
 | i :: its,st,hh,o4,oi,ok,bd,S',k,eW=>by
  have bl:=bd.len
  rw [List.map_cons]
  unfold ya3
  rw [if_pos (sr.live k)]
  have st1 : setT (.nm 4) (uv i) [some (.ref p),some (.int t),some v,some (.ref h.length),o4] = some [some (.ref p),some (.int t),some v,some (.ref h.length),some (uv i)]:=rfl
  rw [st1]
  dsimp only
  rw [lbF]
  rcases yhn S' g hW ok (oi i (List.mem_cons_self ..)) (by lia) eW with ⟨st',a,e⟩ | ⟨a,Z,e⟩
  ·rw [a]
   show lbR h.length hh _ (lbF ps its st') _
   have eb : yau [some (.ref p),some (.int t),some v,some (.ref h.length),some (uv i)] hh = .nx [some (.ref p),some (.int t),some v,some (.ref h.length),some (uv i)] (hh.set h.length (.lst (st'.reverse.map uv))):=by
    generalize hh.set h.length (.lst (st'.reverse.map uv)) = HF at *
    generalize uv i = I at *
    simp [yau,e]
   rw [eb]
   dsimp only
   have r:=zfS (t:=t) S g sr hW its st' (hh.set h.length (.lst (st'.reverse.map uv))) (some (uv i)) (fun j hj=>oi j (List.mem_cons_of_mem _ hj)) (zcP g ok a).2.1 (ygd g ok a bd) (zar S' hW _) (fun j hj=>by rw [List.getElem?_set_ne (by lia)]; exact k j hj) (List.getElem?_set_self (yaL eW))
   cases ht : lbF ps its st' with
   | some s2 =>
    rw [ht] at r
    obtain ⟨o,r⟩:=r
    exact ⟨o,by rw [r,List.set_set]⟩
   | none =>
    rw [ht] at r
    obtain ⟨Z,r⟩:=r
    exact ⟨Z,by rw [r,List.set_set]⟩
  ·rw [a]
   show lbR h.length hh _ none _
   have eb : yau [some (.ref p),some (.int t),some v,some (.ref h.length),some (uv i)] hh = .rt .non (hh.set h.length (.lst Z)):=by
    generalize hh.set h.length (.lst Z) = HF at *
    generalize uv i = I at *
    simp [yau,e]
   rw [eb]
   exact ⟨Z,rfl⟩
theorem yfR {h : AH} {p t : Nat} {ps : List Pc} {its : List Un} {v : AV} {w : Option Nat} {m f l : Ms} {x : Str} (S : ShelfAt h p ps) (g : Good ps) (T : Tx ps t m x f l) (sr : SrcI h its v w) (oi : ∀ i ∈ its,OkI ps i) :
  (∃ st',lbF ps its [.n t] = some st' /\ yaM [.ref p,.int t,v] h = .ok (.ref h.length) (h++[.lst (st'.reverse.map uv)])) \/
  (lbF ps its [.n t] = none /\ ∃ Z,yaM [.ref p,.int t,v] h = .ok .non (h++[.lst Z])):=by
 have hW : p + 8 < h.length:=yaL S.h8
 have t1:=T.n1
 have t0 : fEq (.int t) (.int 0) h = .ok (.bl false) h:=by
  have:=eq_n t 0 h
  rw [decide_eq_false (by lia)] at this
  exact this
 have ck : yax [.ref p,.int t] h = .ok .non h:=zaN S (by have:=T.le; lia)
 have wl : yaW [.ref p,.int t] h = .ok (.ref h.length) (h++[.lst [.int t]]):=by
  simp [yaW,S.ob,ck,t0,-fEq]
 have ok0 : ∀ u ∈ ([.n t] : List Un),OkU ps u:=fun u hu=>by rw [List.mem_singleton] at hu; subst hu; exact .n T
 have bd0 : Bd ps 83 [.n t]:=⟨by have:=ybv g ok0; show 0 + _ <= _; lia,trivial⟩
 have kk : ∀ i,i < h.length -> (h++[AO.lst [.int t]])[i]? = h[i]? := fun i hi=>List.getElem?_append_left hi
 have eW : (h++[AO.lst [.int t]])[h.length]? = some (.lst (([.n t] : List Un).reverse.map uv)):=by simp
 have r:=zfS (t:=t) S g sr hW its [.n t] (h++[.lst [.int t]]) none oi ok0 bd0 (S.app _) kk eW
 have it : iVal (sVar 2) [some (.ref p),some (.int t),some v,some (.ref h.length),none] (h++[.lst [.int t]]) = .ok (its.map uv,w) (h++[.lst [.int t]]):=by
  have sr' := sr.mono kk
  cases sr' with
  | ref e=>simp [e]
  | fl =>
   generalize its.map uv = Q at *
   simp
 have fo:=ybV (t:=.nm 4) (b:=yau) it
 cases ht : lbF ps its [.n t] with
 | some st' =>
  rw [ht] at r
  obtain ⟨o,r⟩:=r
  refine .inl ⟨st',rfl,?_⟩
  have fo' := fo.trans r
  have es : (h++[AO.lst [.int t]]).set h.length (.lst (st'.reverse.map uv)) = h++[.lst (st'.reverse.map uv)]:=by simp
  rw [es] at fo'
  unfold yaM
  generalize sFor (iVal (sVar 2)) (.nm 4) yau = FF at *
  generalize h++[.lst (st'.reverse.map uv)] = HF at *
  simp [wl,fo']
 | none =>
  rw [ht] at r
  obtain ⟨Z,r⟩:=r
  refine .inr ⟨rfl,Z,?_⟩
  have fo' := fo.trans r
  have es : (h++[AO.lst [.int t]]).set h.length (.lst Z) = h++[.lst Z]:=by simp
  rw [es] at fo'
  unfold yaM
  generalize sFor (iVal (sVar 2)) (.nm 4) yau = FF at *
  generalize h++[.lst Z] = HF at *
  simp [wl,fo']
end Sk
namespace Sk
open PySem PySem.Spec L2 Sm
def sg1 (ps : List Pc) (st : List Un) : Str:=tkS (nxF ps 90 st).1 1
theorem zjd {h : AH} {p W : Nat} {ps : List Pc} {st : List Un} (S : ShelfAt h p ps) (g : Good ps) (hW : p + 8 < W) (ok : ∀ u ∈ st,OkU ps u) (ls : st.length <= 900000) (eW : h[W]? = some (.lst (st.reverse.map uv))) :
  ybh [.ref p,.ref W] h = .ok (.str (sg1 ps st)) (h.set W (.lst ((nxF ps 90 st).2.reverse.map uv))):=by
 have fn:=yeA S g hW ok ls eW
 have ct : ∀ hh,ybd (.str (nxF ps 90 st).1) none (some 1) hh = .ok (.str (sg1 ps st)) hh:=fun hh=>yex (x:=(nxF ps 90 st).1) (a:=1) hh
 generalize sg1 ps st = SG at *
 generalize (nxF ps 90 st).1 = Z at *
 generalize h.set W (.lst ((nxF ps 90 st).2.reverse.map uv)) = HF at *
 simp [ybh,fn,ct,-ybd]
theorem yim {h : AH} {W : Nat} {st : List Un} (e : h[W]? = some (.lst (st.reverse.map uv))) : fEq (.ref W) (.fl []) h = .ok (.bl (decide (st = []))) h:=by
 show (match eqA (.ref W) (.fl []) h with | some b=>Out.ok (AV.bl b) h | none=>Out.bad) = _
 rw [yeX e]
 cases st with
 | nil=>rfl
 | cons a b=>simp
theorem zje (W : Nat) (h : AH) : fIsN (.ref W) .non h = .ok (.bl false) h:=by
 simp only [fIsN]
 rw [decide_eq_false (fun z=>by cases z)]
theorem zcq (h : AH) : fIsN .non .non h = .ok (.bl true) h:=by
 simp [fIsN]
def apR (ps : List Pc) (its : List Un) (a b : Nat) (c d : Str) : Prop:=∃ s1 s2,lbF ps its [.n a] = some s1 /\ lbF ps its [.n b] = some s2 /\ c = sg1 ps s1 /\ d = sg1 ps s2 /\ ¬ c = d
theorem zjf (a b c d : Str) (h : AH) : fEq (.tup [.str a,.str b]) (.tup [.str c,.str d]) h = .ok (.bl (decide (a = c /\ b = d))) h:=by
 by_cases q : a = c
 ·by_cases r : b = d
  ·simp [toD,toDs,PyData.eqv,PyData.eqvAll,q,r]
  ·simp [toD,toDs,PyData.eqv,PyData.eqvAll,q,r]
 ·simp [toD,toDs,PyData.eqv,PyData.eqvAll,q]
theorem yhp {ps : List Pc} {t : Nat} {m f l : Ms} {x : Str} (T : Tx ps t m x f l) : ∀ u ∈ ([.n t] : List Un),OkU ps u:=fun u hu=>by rw [List.mem_singleton] at hu; subst hu; exact .n T
theorem yeK {ps : List Pc} (g : Good ps) {H : Nat} : ∀ (its : List Un) {st st' : List Un},(∀ u ∈ st,OkU ps u) -> lbF ps its st = some st' -> Bd ps H st -> Bd ps H st'
 | [],st,st',ok,e,b=>by cases e; exact b
 | i :: its,st,st',ok,e,b=>by
  rw [lbF] at e
  obtain ⟨s1,e1,e2⟩:=Option.bind_eq_some_iff.mp e
  exact yeK g its (zcP g ok e1).2.1 e2 (ygd g ok e1 b)
theorem bd0 {ps : List Pc} (g : Good ps) {t : Nat} {m f l : Ms} {x : Str} (T : Tx ps t m x f l) : Bd ps 83 [.n t]:=⟨by have:=ybv g (yhp T); show 0 + _ <= _; lia,trivial⟩
end Sk
namespace Sk
open PySem PySem.Spec L2 Sm
theorem zfT {ps : List Pc} (g : Good ps) : ∀ (c d : Nat) (st : List Un),(∀ u ∈ st,OkU ps u) -> hU ps st <= c -> hU ps st <= d -> nxF ps c st = nxF ps d st
 | c,d,[],_,_,_=>by cases c<;>cases d<;>rfl
 | c,d,.s z :: st,_,_,_=>by rw [nx_s,nx_s]
 | 0,d,.n k :: st,ok,h,_=>by
  cases ok _ (List.mem_cons_self ..) with
  | @n _ m f l x T=>rw [yba T] at h; lia
 | c + 1,0,.n k :: st,ok,_,h=>by
  cases ok _ (List.mem_cons_self ..) with
  | @n _ m f l x T=>rw [yba T] at h; lia
 | c + 1,d + 1,.n k :: st,ok,h1,h2=>by
  cases ok _ (List.mem_cons_self ..) with
  | @n _ m f l x T =>
   rw [yba T] at h1 h2
   rcases g.kind T with ⟨e1,e2,e3,e4,e5⟩ | ⟨a,b,ma,mb,y,z,fa,la,fb,lb,e1,e2,e3,A,B,e4,e5,e6⟩
   ·rw [nxF,nxF,e1]
   ·rw [nxF,nxF,e1]
    have hh:=congrArg Ms.ht e5
    rw [fmH] at hh
    have a0:=A.ky.ht
    have b0:=B.ky.ht
    exact zfT g c d (.n a :: .n b :: st) (zaV A B ok) (by rw [yba A]; lia) (by rw [yba A]; lia)
theorem zeD {ps : List Pc} (g : Good ps) {k : Nat} : ∀ (c d : Nat) (st : List Un),(∀ u ∈ st,OkU ps u) -> hU ps st <= c -> hU ps st <= d -> topF ps k c st = topF ps k d st
 | c,d,[],_,_,_=>by cases c<;>cases d<;>rfl
 | c,d,.s z :: st,_,_,_=>by cases c<;>cases d<;>rfl
 | 0,d,.n k :: st,ok,h,_=>by
  cases ok _ (List.mem_cons_self ..) with
  | @n _ m f l x T=>rw [yba T] at h; lia
 | c + 1,0,.n k :: st,ok,_,h=>by
  cases ok _ (List.mem_cons_self ..) with
  | @n _ m f l x T=>rw [yba T] at h; lia
 | c + 1,d + 1,.n j :: st,ok,h1,h2=>by
  rw [topF,topF]
  by_cases q : j = k
  ·rw [if_pos q,if_pos q]
  ·rw [if_neg q,if_neg q]
   cases ok _ (List.mem_cons_self ..) with
   | @n _ m f l x T =>
    rw [yba T] at h1 h2
    rcases g.kind T with ⟨e1,e2,e3,e4,e5⟩ | ⟨a,b,ma,mb,y,z,fa,la,fb,lb,e1,e2,e3,A,B,e4,e5,e6⟩
    ·rw [e1]
    ·rw [e1]
     have hh:=congrArg Ms.ht e5
     rw [fmH] at hh
     have a0:=A.ky.ht
     have b0:=B.ky.ht
     exact zeD g c d (.n a :: .n b :: st) (zaV A B ok) (by rw [yba A]; lia) (by rw [yba A]; lia)
def Low (k : Nat) : List Un -> Prop
 | []=>True
 | .n j :: r=>j <= k /\ Low k r
 | .s z :: r=>1 <= z.length /\ Low k r
def sgl (cs : List Nat) : List Un:=cs.map fun c=>.s ⟨#[c]⟩
structure SpOk (ps : List Pc) (t : Nat) (its : List Un) : Prop where
 ne : its ≠ []
 lo : Low t its
 oi : ∀ i ∈ its,OkI ps i
 sp : ∀ st,(∀ u ∈ st,OkU ps u) -> lbF ps its (.n t :: st) = some st
theorem ye0 {ps : List Pc} (g : Good ps) {st : List Un} (ok : ∀ u ∈ st,OkU ps u) : (sg1 ps st).cps.toList = (rdS ps st).take 1:=by
 have N:=ycH g 90 st ok (by have:=ybv g ok; lia)
 unfold sg1
 rw [yb1,N.rd]
 by_cases q : st = []
 ·rw [N.z0 q]
  rfl
 ·have z:=(N.z1 q).1
  rw [zad] at z
  rw [List.take_append_of_le_length z]
theorem yhq {ps : List Pc} (g : Good ps) {s1 s2 : List Un} (o1 : ∀ u ∈ s1,OkU ps u) (o2 : ∀ u ∈ s2,OkU ps u) (e : (rdS ps s1).take 1 = (rdS ps s2).take 1) : sg1 ps s1 = sg1 ps s2:=zae (by rw [ye0 g o1,ye0 g o2,e])
end Sk
namespace Sk
open PySem PySem.Spec L2 Sm
inductive Op (ps : List Pc) : List Un -> List Un -> Prop
 | refl (st : List Un) : Op ps st st
 | open {s st : List Un} {j a b : Nat} (h : Op ps s (.n j :: st)) (e : ps[j - 1]? = some (.fork a b)) : Op ps s (.n a :: .n b :: st)
theorem OkI.u {ps : List Pc} {u : Un} (o : OkI ps u) : OkU ps u:=by
 cases o with
 | n T=>exact .n T
 | s a=>exact .s (zaw a).1 (zaw a).2.1
theorem zbt {ps : List Pc} (g : Good ps) {j a b : Nat} {m f l : Ms} {x : Str} (T : Tx ps j m x f l) (e : ps[j - 1]? = some (.fork a b)) : ∃ ma mb y z fa la fb lb,a < j /\ Tx ps a ma y fa la /\ Tx ps b mb z fb lb /\ x = y++z /\ m = ycc ma mb:=by
 rcases g.kind T with ⟨q,_⟩ | ⟨a',b',ma,mb,y,z,fa,la,fb,lb,e1,e2,_,A,B,x1,x2,_⟩
 ·rw [e] at q; cases q
 ·rw [e] at e1; cases e1
  exact ⟨ma,mb,y,z,fa,la,fb,lb,e2,A,B,x1,x2⟩
theorem zaZ {ps : List Pc} (g : Good ps) {j a b : Nat} {st : List Un} (ok : ∀ u ∈ (.n j :: st : List Un),OkI ps u) (e : ps[j - 1]? = some (.fork a b)) : ∀ u ∈ (.n a :: .n b :: st : List Un),OkI ps u:=by
 cases ok _ (List.mem_cons_self ..) with
 | n T =>
  obtain ⟨ma,mb,y,z,fa,la,fb,lb,_,A,B,_⟩:=zbt g T e
  intro u hu
  rcases List.mem_cons.mp hu with rfl | hu
  ·exact .n A
  ·rcases List.mem_cons.mp hu with rfl | hu
   ·exact .n B
   ·exact ok u (List.mem_cons_of_mem _ hu)
theorem yc5 {ps : List Pc} (g : Good ps) {s L : List Un} (o : Op ps s L) (ok : ∀ u ∈ s,OkI ps u) : ∀ u ∈ L,OkI ps u:=by
 induction o with
 | refl=>exact ok
 | «open» h e ih=>exact zaZ g ih e
theorem okis {ps : List Pc} {s : List Un} (ok : ∀ u ∈ s,OkI ps u) : ∀ u ∈ s,OkU ps u:=fun u hu=>(ok u hu).u
theorem yeC {ps : List Pc} (g : Good ps) {s L : List Un} (o : Op ps s L) (ok : ∀ u ∈ s,OkI ps u) : nxF ps 90 s = nxF ps 90 L:=by
 induction o with
 | refl=>rfl
 | @«open» st j a b h e ih =>
  rw [ih]
  have k1:=okis (yc5 g h ok)
  have k2:=okis (zaZ g (yc5 g h ok) e)
  have q : nxF ps 90 (.n j :: st) = nxF ps 89 (.n a :: .n b :: st):=by
   show (match ps[j - 1]? with
    | some (.fork a b)=>nxF ps 89 (.n a :: .n b :: st)
    | some (.leaf z)=>(z,st)
    | none=>("",st)) = _
   rw [e]
  rw [q]
  exact zfT g 89 90 _ k2 (by have:=ybv g k2; lia) (by have:=ybv g k2; lia)
theorem yhr {ps : List Pc} (g : Good ps) {s L : List Un} (o : Op ps s L) (ok : ∀ u ∈ s,OkI ps u) : ∀ {k i : Nat} {r : List Un},L = .n i :: r -> k <= i -> topF ps k 90 s = topF ps k 90 L:=by
 induction o with
 | refl=>intro k i r _ _; rfl
 | @«open» st j a b h e ih =>
  intro k i r q hk
  cases q
  have k0:=yc5 g h ok
  have k2:=okis (zaZ g k0 e)
  cases k0 _ (List.mem_cons_self ..) with
  | n T =>
   obtain ⟨_,_,_,_,_,_,_,_,hl,_⟩:=zbt g T e
   rw [ih rfl (by lia)]
   have q : topF ps k 90 (.n j :: st) = topF ps k 89 (.n a :: .n b :: st):=by
    show (if j = k then some st else match ps[j - 1]? with
     | some (.fork a b)=>topF ps k 89 (.n a :: .n b :: st)
     | _=>none) = _
    rw [if_neg (by lia),e]
   rw [q]
   exact zeD g 89 90 _ k2 (by have:=ybv g k2; lia) (by have:=ybv g k2; lia)
theorem zjg {ps : List Pc} (g : Good ps) {s L : List Un} {k : Nat} (o : Op ps s (.n k :: L)) (ok : ∀ u ∈ s,OkI ps u) : itF ps (.n k) s = some L:=by
 show topF ps k 90 s = _
 rw [yhr g o ok rfl (Nat.le_refl _)]
 show (if k = k then some L else _) = _
 rw [if_pos rfl]
theorem zjh {ps : List Pc} (g : Good ps) {s L L0 : List Un} {z : Str} {m : Nat} (o : Op ps s L) (ok : ∀ u ∈ s,OkI ps u) (e : nxF ps 90 L = (z,L0)) (m1 : 1 <= m) (hm : m <= z.length) (z8 : z.length <= 8) : itF ps (.s (tkS z m)) s = some (psh (dpS z m) L0):=by
 show tkF ps 10 (tkS z m) s = _
 have en:=(yeC g o ok).trans e
 have lt : (tkS z m).length = m:=by rw [zad,yb1,List.length_take,<- zad]; lia
 have N:=ycH g 90 s (okis ok) (by have:=ybv g (okis ok); lia)
 have rd:=N.rd
 rw [en] at rd
 have rd2 : rdS ps s = (tkS z m).cps.toList++(z.cps.toList.drop m++rdS ps L0):=by
  rw [rd,yb1,<- List.append_assoc,List.take_append_drop]
 rw [zjc g (okis ok) rd2 (by lia),lt,yga en m1 hm]
theorem yfS {ps : List Pc} {s L : List Un} (o : Op ps s L) : s = [] ↔ L = []:=by
 induction o with
 | refl=>exact Iff.rfl
 | «open» h e ih=>exact ⟨fun q=>(by have:=ih.mp q; cases this),fun q=>(by cases q)⟩
theorem ye1 {ps : List Pc} (g : Good ps) : ∀ (c : Nat) (st : List Un),(∀ u ∈ st,OkI ps u) -> hU ps st <= c -> (∀ u ∈ (nxF ps c st).2,OkI ps u) /\ (st ≠ [] -> ybp (nxF ps c st).1 = true)
 | c,[],ok,_=>by
  have : nxF ps c [] = ((("" : Str),([] : List Un))):=by cases c<;>rfl
  rw [this]
  exact ⟨fun u hu=>(by cases hu),fun z=>absurd rfl z⟩
 | c,.s z :: st,ok,_=>by
  rw [nx_s]
  refine ⟨fun u hu=>ok u (List.mem_cons_of_mem _ hu),fun _=>?_⟩
  cases ok _ (List.mem_cons_self ..) with
  | s a=>exact a
 | 0,.n k :: st,ok,h=>absurd h (by show ¬ _ + 1 <= 0; lia)
 | c + 1,.n k :: st,ok,h=>by
  cases ok _ (List.mem_cons_self ..) with
  | @n k m f l x T =>
   rcases g.kind T with ⟨e,_⟩ | ⟨a,b,ma,mb,y,z,fa,la,fb,lb,e,e2,_,A,B,x1,x2,_⟩
   ·have q : nxF ps (c + 1) (.n k :: st) = (x,st):=by
     show (match ps[k - 1]? with
      | some (.fork a b)=>nxF ps c (.n a :: .n b :: st)
      | some (.leaf z)=>(z,st)
      | none=>("",st)) = _
     rw [e]
    rw [q]
    exact ⟨fun u hu=>ok u (List.mem_cons_of_mem _ hu),fun _=>g.get e⟩
   ·have q : nxF ps (c + 1) (.n k :: st) = nxF ps c (.n a :: .n b :: st):=by
     show (match ps[k - 1]? with
      | some (.fork a b)=>nxF ps c (.n a :: .n b :: st)
      | some (.leaf z)=>(z,st)
      | none=>("",st)) = _
     rw [e]
    rw [q]
    rw [yba T] at h
    have r:=ye1 g c (.n a :: .n b :: st) (zaZ g ok e) (by
     rw [yba A]
     have:=A.ky.ht
     have:=B.ky.ht
     rw [x2] at h
     have : (ycc ma mb).ht = max ma.ht mb.ht + 1:=rfl
     lia)
    exact ⟨r.1,fun _=>r.2 (fun z=>by cases z)⟩
structure Cs (ps : List Pc) (one items L : List Un) : Prop where
 ex : ∃ s,lbF ps items one = some s /\ (∀ u ∈ s,OkI ps u) /\ Op ps s L
theorem Cs.oki {ps : List Pc} (g : Good ps) {one items L : List Un} (c : Cs ps one items L) : ∀ u ∈ L,OkI ps u:=by
 obtain ⟨s,_,ok,o⟩:=c.ex
 exact yc5 g o ok
theorem Cs.opn {ps : List Pc} {one items L L2 : List Un} (c : Cs ps one items L) (o : Op ps L L2) : Cs ps one items L2:=by
 induction o with
 | refl=>exact c
 | «open» h e ih =>
  obtain ⟨s,a,b,d⟩:=ih.ex
  exact ⟨s,a,b,.open d e⟩
theorem zfU {ps : List Pc} {items one s r : List Un} {i : Un} (e : lbF ps items one = some s) (q : itF ps i s = some r) : lbF ps (items++[i]) one = some r:=by
 rw [yfP,e]
 show (itF ps i s).bind (lbF ps []) = _
 rw [q]
 rfl
theorem Cs.num {ps : List Pc} (g : Good ps) {one items L : List Un} {k : Nat} (c : Cs ps one items (.n k :: L)) : Cs ps one (items++[.n k]) L:=by
 obtain ⟨s,a,b,o⟩:=c.ex
 exact ⟨L,zfU a (zjg g o b),fun u hu=>yc5 g o b u (List.mem_cons_of_mem _ hu),.refl _⟩
theorem zh1 {z : Str} {m : Nat} (h : yaC z = true) : yaC (dpS z m) = true:=by
 unfold yaC at h ⊢
 rw [yb2]
 exact List.all_eq_true.mpr fun c hc=>List.all_eq_true.mp h c (List.mem_of_mem_drop hc)
theorem zh2 {z : Str} {m : Nat} (h : yaC z = true) : yaC (tkS z m) = true:=by
 unfold yaC at h ⊢
 rw [yb1]
 exact List.all_eq_true.mpr fun c hc=>List.all_eq_true.mp h c (List.mem_of_mem_take hc)
theorem zeE {z : Str} (p : yaC z = true) (a : 1 <= z.length) (b : z.length <= 8) : ybp z = true:=by simp [ybp,p,a,b]
theorem zfV {ps : List Pc} {z : Str} {st : List Un} (p : yaC z = true) (b : z.length <= 8) (ok : ∀ u ∈ st,OkI ps u) : ∀ u ∈ psh z st,OkI ps u:=by
 unfold psh
 by_cases q : z = ""
 ·rw [if_pos q]; exact ok
 ·rw [if_neg q]
  intro u hu
  rcases List.mem_cons.mp hu with rfl | hu
  ·exact .s (zeE p (by rcases Nat.eq_zero_or_pos z.length with w | w; exact absurd (zaQ.mpr w) q; exact w) b)
  ·exact ok u hu
theorem Cs.txt {ps : List Pc} (g : Good ps) {one items L L0 : List Un} {z : Str} {m : Nat} (c : Cs ps one items L) (e : nxF ps 90 L = (z,L0)) (m1 : 1 <= m) (hm : m <= z.length) : OkI ps (.s (tkS z m)) /\ Cs ps one (items++[.s (tkS z m)]) (psh (dpS z m) L0):=by
 have okL:=c.oki g
 obtain ⟨s,a,b,o⟩:=c.ex
 have N:=ye1 g 90 L okL (by have:=ybv g (okis okL); lia)
 rw [e] at N
 have ne : L ≠ []:=fun q=>by
  rw [q] at e
  cases e
  exact absurd hm (by show ¬ m <= 0; lia)
 obtain ⟨l1,l8,pl⟩:=zaw (show ybp z = true from N.2 ne)
 have lt : (tkS z m).length = m:=by rw [zad,yb1,List.length_take,<- zad]; lia
 have ld : (dpS z m).length = z.length - m:=by rw [zad,yb2,List.length_drop,<- zad]
 exact ⟨.s (zeE (zh2 pl) (by lia) (by lia)),_,zfU a (zjh g o b e m1 hm l8),zfV (zh1 pl) (by lia) N.1,.refl _⟩
end Sk
namespace Sk
open PySem PySem.Spec L2 Sm
def cmN : List Nat -> List Nat -> Nat
 | x :: a,y :: b=>if x = y then cmN a b + 1 else 0
 | _,_=>0
theorem yea : ∀ a b : List Nat,cmN a b <= a.length /\ cmN a b <= b.length
 | [],[]=>⟨Nat.le_refl _,Nat.le_refl _⟩
 | [],_ :: _=>⟨Nat.zero_le _,Nat.zero_le _⟩
 | _ :: _,[]=>⟨Nat.zero_le _,Nat.zero_le _⟩
 | x :: a,y :: b=>by
  have:=yea a b
  rw [cmN,List.length_cons,List.length_cons]
  split<;>lia
theorem zfW : ∀ a b : List Nat,a.take (cmN a b) = b.take (cmN a b)
 | [],[]=>rfl
 | [],_ :: _=>rfl
 | _ :: _,[]=>rfl
 | x :: a,y :: b=>by
  rw [cmN]
  split
  ·rename_i h
   subst h
   rw [List.take_succ_cons,List.take_succ_cons,zfW a b]
  ·rfl
theorem yge : ∀ (a b : List Nat) (j : Nat),j < cmN a b -> a[j]? = b[j]?
 | [],[],_,h=>absurd h (Nat.not_lt_zero _)
 | [],_ :: _,_,h=>absurd h (Nat.not_lt_zero _)
 | _ :: _,[],_,h=>absurd h (Nat.not_lt_zero _)
 | x :: a,y :: b,j,h=>by
  rw [cmN] at h
  split at h
  ·rename_i q
   cases j with
   | zero=>rw [q]; rfl
   | succ j=>simpa using yge a b j (by lia)
  ·exact absurd h (Nat.not_lt_zero _)
theorem ye2 : ∀ (a b : List Nat),cmN a b < a.length -> cmN a b < b.length -> a[cmN a b]? ≠ b[cmN a b]?
 | [],_,h,_=>absurd h (Nat.not_lt_zero _)
 | _ :: _,[],_,h=>absurd h (Nat.not_lt_zero _)
 | x :: a,y :: b,h1,h2=>by
  rw [cmN] at h1 h2 ⊢
  split
  ·rename_i q
   rw [if_pos q] at h1 h2
   rw [List.length_cons] at h1 h2
   simpa using ye2 a b (by lia) (by lia)
  ·rename_i q
   intro z
   exact q (by simpa using z)
theorem zji (a b : List Nat) : (a.drop (cmN a b)).take 1 = (b.drop (cmN a b)).take 1 -> a.length <= cmN a b /\ b.length <= cmN a b:=fun e=>by
 have l:=yea a b
 rcases Nat.lt_or_ge (cmN a b) a.length with h1 | h1
 ·rcases Nat.lt_or_ge (cmN a b) b.length with h2 | h2
  ·refine absurd ?_ (ye2 a b h1 h2)
   have:=congrArg (fun l : List Nat=>l[0]?) e
   simpa using this
  ·have:=congrArg List.length e
   rw [List.length_take,List.length_take,List.length_drop,List.length_drop] at this
   lia
 ·rcases Nat.lt_or_ge (cmN a b) b.length with h2 | h2
  ·have:=congrArg List.length e
   rw [List.length_take,List.length_take,List.length_drop,List.length_drop] at this
   lia
  ·exact ⟨h1,h2⟩
theorem zfX {c : SB} {b : SS} {E : Nat -> En} {h : AH} {n : Nat} (hc : ∀ j,j <= n -> c (E j) h = .ok (decide (j < n)) h) (hb : ∀ j,j < n -> b (E j) h = .nx (E (j + 1)) h) : ∀ (fuel j : Nat),j <= n -> n - j < fuel -> yar c b fuel (E j) h = .nx (E n) h
 | 0,j,_,hf=>absurd hf (Nat.not_lt_zero _)
 | fu + 1,j,hj,hf=>by
  by_cases q : j < n
  ·rw [ydU (by rw [hc j hj,decide_eq_true q]) (hb j q)]
   exact zfX hc hb fu (j + 1) q (by lia)
  ·have : j = n:=by lia
   subst this
   exact yc2 (by rw [hc j hj,decide_eq_false q])
theorem zjj {x y : Str} {j : Nat} (hj : j <= cmN x.cps.toList y.cps.toList) (h : AH) :
  (ybO [.int x.length,.int y.length] h = .ok (.int ((min x.length y.length : Nat) : Int)) h) /\ fLt (.int j) (.int ((min x.length y.length : Nat) : Int)) h = .ok (.bl (decide (j < min x.length y.length))) h /\
  (j < min x.length y.length -> ∃ a b : Nat,fIx (.str x) (.int j) h = .ok (.str ⟨#[a]⟩) h /\ fIx (.str y) (.int j) h = .ok (.str ⟨#[b]⟩) h /\ fEq (.str ⟨#[a]⟩) (.str ⟨#[b]⟩) h = .ok (.bl (decide (j < cmN x.cps.toList y.cps.toList))) h) /\ (¬ j < min x.length y.length -> ¬ j < cmN x.cps.toList y.cps.toList):=by
 have l:=yea x.cps.toList y.cps.toList
 rw [<- zad,<- zad] at l
 refine ⟨?_,?_,fun q=>?_,fun q=>by lia⟩
 ·have : ybO [.int x.length,.int y.length] h = .ok (.int (if (y.length : Int) < x.length then (y.length : Int) else x.length)) h:=rfl
  rw [this]
  by_cases q : y.length < x.length
  ·rw [if_pos (by lia)]; congr 2; lia
  ·rw [if_neg (by lia)]; congr 2; lia
 ·show Out.ok (AV.bl (decide ((j : Int) < ((min x.length y.length : Nat) : Int)))) h = _
  congr 2
  exact decide_eq_decide.mpr Int.ofNat_lt
 ·have hx : j < x.cps.toList.length:=by rw [<- zad]; lia
  have hy : j < y.cps.toList.length:=by rw [<- zad]; lia
  refine ⟨x.cps.toList[j],y.cps.toList[j],?_,?_,?_⟩
  ·simp only [fIx,zba (List.getElem?_eq_getElem hx)]
  ·simp only [fIx,zba (List.getElem?_eq_getElem hy)]
  ·have e : (⟨#[x.cps.toList[j]]⟩ : Str) = ⟨#[y.cps.toList[j]]⟩ ↔ j < cmN x.cps.toList y.cps.toList:=by
    constructor
    ·intro z
     rcases Nat.lt_or_ge j (cmN x.cps.toList y.cps.toList) with w | w
     ·exact w
     ·have w' : j = cmN x.cps.toList y.cps.toList:=by lia
      refine absurd ?_ (ye2 x.cps.toList y.cps.toList (w' ▸ hx) (w' ▸ hy))
      rw [<- w',List.getElem?_eq_getElem hx,List.getElem?_eq_getElem hy]
      have:=congrArg (fun s : Str=>s.cps.toList) z
      simpa using this
    ·intro w
     have:=yge _ _ j w
     rw [List.getElem?_eq_getElem hx,List.getElem?_eq_getElem hy] at this
     rw [Option.some.inj this]
   generalize (⟨#[x.cps.toList[j]]⟩ : Str) = u at *
   generalize (⟨#[y.cps.toList[j]]⟩ : Str) = v at *
   have q : fEq (.str u) (.str v) h = .ok (.bl (decide (u = v))) h:=by
    by_cases w : u = v<;>simp [toD,PyData.eqv,w]
   rw [q]
   congr 2
   exact decide_eq_decide.mpr e
abbrev CG : SB:=sAnd (yaq (sOp2 fLt (sVar 5) (yag ybO (yaa (yag fLen (yaa (sVar 3) sNil)) (yaa (yag fLen (yaa (sVar 4) sNil)) sNil))))) (yaq (sOp2 fEq (sOp2 fIx (sVar 3) (sVar 5)) (sOp2 fIx (sVar 4) (sVar 5))))
theorem zjk {h : AH} {x y : Str} {o0 o1 o2 : Option AV} (hx : x.length <= 8) : yar CG ybK yaQ [o0,o1,o2,some (.str x),some (.str y),some (.int 0)] h = .nx [o0,o1,o2,some (.str x),some (.str y),some (.int (cmN x.cps.toList y.cps.toList))] h:=by
 have l:=yea x.cps.toList y.cps.toList
 rw [<- zad,<- zad] at l
 refine zfX (E:=fun j=>[o0,o1,o2,some (.str x),some (.str y),some (.int j)]) (n:=cmN x.cps.toList y.cps.toList) (fun j hj=>?_) (fun j hj=>?_) yaQ 0 (Nat.zero_le _) (Nat.lt_of_le_of_lt (m:=8) (by lia) (by decide))
 ·obtain ⟨mn,lt,a,b⟩:=zjj hj h
  have l1 : fLen [.str x] h = .ok (.int x.length) h:=rfl
  have l2 : fLen [.str y] h = .ok (.int y.length) h:=rfl
  generalize (x.length : Int) = XL at *
  generalize (y.length : Int) = YL at *
  by_cases q : j < min x.length y.length
  ·obtain ⟨a,b,e1,e2,e3⟩:=a q
   rw [decide_eq_true q] at lt
   generalize ((min x.length y.length : Nat) : Int) = MM at *
   simp [CG,l1,l2,mn,lt,e1,e2,e3,-fLen,-ybO,-fLt,-fIx,-fEq]
  ·rw [decide_eq_false q] at lt
   rw [decide_eq_false (b q)]
   generalize ((min x.length y.length : Nat) : Int) = MM at *
   simp [CG,l1,l2,mn,lt,-fLen,-ybO,-fLt,-fIx,-fEq]
 ·show ybK _ h = _
  have ad : fAdd (.int j) (.int 1) h = .ok (.int ((j + 1 : Nat) : Int)) h:=rfl
  simp [ybK,ad,-fAdd]
theorem set4 (h : AH) {W V : Nat} (ne : W ≠ V) (a b c d : AO) : (((h.set W a).set V b).set W c).set V d = (h.set W c).set V d:=by
 rw [List.set_comm _ _ ne,List.set_set,List.set_comm _ _ ne.symm,List.set_set]
theorem zh3 {h : AH} {p W V : Nat} {ps : List Pc} {L R L0 R0 : List Un} {x y : Str} (S : ShelfAt h p ps) (g : Good ps) (hW : p + 8 < W) (hV : p + 8 < V) (ne : W ≠ V) (okL : ∀ u ∈ L,OkI ps u) (okR : ∀ u ∈ R,OkI ps u) (lL : L.length <= 900000) (lR : R.length <= 900000) (eW : h[W]? = some (.lst (L.reverse.map uv))) (eV : h[V]? = some (.lst (R.reverse.map uv)))
  (e1 : nxF ps 90 L = (x,L0)) (e2 : nxF ps 90 R = (y,R0)) :
  ybU [.ref p,.ref W,.ref V] h = .ok (.str (tkS x (cmN x.cps.toList y.cps.toList))) ((h.set W (.lst ((psh (dpS x (cmN x.cps.toList y.cps.toList)) L0).reverse.map uv))).set V (.lst ((psh (dpS y (cmN x.cps.toList y.cps.toList)) R0).reverse.map uv))):=by
 have f1:=yeA S g hW (okis okL) lL eW
 have N1:=ycH g 90 L (okis okL) (by have:=ybv g (okis okL); lia)
 have N2:=ycH g 90 R (okis okR) (by have:=ybv g (okis okR); lia)
 rw [e1] at f1 N1
 rw [e2] at N2
 have l1:=N1.ln
 have l2:=N2.ln
 dsimp only at f1 l1 l2
 have x8 : x.length <= 8:=by
  by_cases q : L = []
  ·have:=N1.z0 q
   cases this
   exact Nat.zero_le _
  ·exact (N1.z1 q).2
 have S1:=zar S hW (.lst (L0.reverse.map uv))
 have eV1 : (h.set W (.lst (L0.reverse.map uv)))[V]? = some (.lst (R.reverse.map uv)):=by rw [List.getElem?_set_ne ne]; exact eV
 have f2:=yeA S1 g hV (okis okR) lR eV1
 rw [e2] at f2
 dsimp only at f2
 obtain ⟨n,en⟩ : ∃ n,n = cmN x.cps.toList y.cps.toList:=⟨_,rfl⟩
 have nl:=yea x.cps.toList y.cps.toList
 rw [<- zad,<- zad,<- en] at nl
 have S2:=zar S1 hV (.lst (R0.reverse.map uv))
 have eW2 : ((h.set W (.lst (L0.reverse.map uv))).set V (.lst (R0.reverse.map uv)))[W]? = some (.lst (L0.reverse.map uv)):=by rw [List.getElem?_set_ne ne.symm]; exact List.getElem?_set_self (yaL eW)
 have eV2 : ((h.set W (.lst (L0.reverse.map uv))).set V (.lst (R0.reverse.map uv)))[V]? = some (.lst (R0.reverse.map uv)):=List.getElem?_set_self (yaL eV1)
 have lp:=zjk (h:=(h.set W (.lst (L0.reverse.map uv))).set V (.lst (R0.reverse.map uv))) (x:=x) (y:=y) (o0:=some (.ref p)) (o1:=some (.ref W)) (o2:=some (.ref V)) x8
 have p1:=yeZ (dpS x n) eW2 (by lia)
 have eV3 : (((h.set W (.lst (L0.reverse.map uv))).set V (.lst (R0.reverse.map uv))).set W (.lst ((psh (dpS x n) L0).reverse.map uv)))[V]? = some (.lst (R0.reverse.map uv)):=by rw [List.getElem?_set_ne ne]; exact eV2
 have p2:=yeZ (dpS y n) eV3 (by lia)
 rw [set4 h ne] at p2
 rw [<- en] at lp ⊢
 have c1 : ∀ hh,ybd (.str x) (some (n : Int)) none hh = .ok (.str (dpS x n)) hh:=yey nl.1
 have c2 : ∀ hh,ybd (.str y) (some (n : Int)) none hh = .ok (.str (dpS y n)) hh:=yey nl.2
 obtain ⟨H4,eH4⟩ : ∃ H4,H4 = (h.set W (.lst ((psh (dpS x n) L0).reverse.map uv))).set V (.lst ((psh (dpS y n) R0).reverse.map uv)):=⟨_,rfl⟩
 rw [<- eH4] at p2 ⊢
 have c3:=yex (x:=x) (a:=n) H4
 clear S S1 S2 eW eV eV1 eW2 eV2 eV3 N1 N2 okL okR en eH4
 unfold ybU
 generalize yar CG ybK yaQ = WL at *
 generalize ((h.set W (.lst (L0.reverse.map uv))).set V (.lst (R0.reverse.map uv))).set W (.lst ((psh (dpS x n) L0).reverse.map uv)) = H3 at *
 generalize (h.set W (.lst (L0.reverse.map uv))).set V (.lst (R0.reverse.map uv)) = H2 at *
 generalize h.set W (.lst (L0.reverse.map uv)) = H1 at *
 generalize (n : Int) = NN at *
 simp [f1,f2,lp,c1,c2,c3,p1,p2,-ybd]
end Sk
namespace Sk
open PySem PySem.Spec L2 Sm
theorem zeF {ps : List Pc} {s L M : List Un} (a : Op ps s L) (b : Op ps L M) : Op ps s M:=by
 induction b with
 | refl=>exact a
 | «open» h e ih=>exact .open ih e
theorem zcr {h : AH} {W : Nat} {u : Un} {st : List Un} (eW : h[W]? = some (.lst ((u :: st).reverse.map uv))) : fIx (.ref W) (.int (-1)) h = .ok (uv u) h:=by
 rw [ybL] at eW
 generalize st.reverse.map uv = Z at *
 generalize uv u = w at *
 have q : atI (Z++[w]) (-1) = some w:=by
  have e : (-1 + ((Z.length : Int) + 1)).toNat = Z.length:=by lia
  have e2 : (1 : Int) <= (Z.length : Int) + 1:=by lia
  simp [atI,ixN,e,e2]
 simp only [fIx,eW,q]
theorem yin (u v : Un) (h : AH) : ∃ b,fNe (uv u) (uv v) h = .ok (.bl b) h /\ (b = false ↔ u = v):=by
 cases u with
 | n j =>
  cases v with
  | n k =>
   by_cases q : j = k
   ·exact ⟨false,by subst q; simp [toD,PyData.eqv],by simp [q]⟩
   ·exact ⟨true,by simp [toD,PyData.eqv]; lia,by simp [q]⟩
  | s z=>exact ⟨true,by simp [toD,PyData.eqv],by simp⟩
 | s y =>
  cases v with
  | n k=>exact ⟨true,by simp [toD,PyData.eqv],by simp⟩
  | s z =>
   by_cases q : y = z
   ·exact ⟨false,by subst q; simp [toD,PyData.eqv],by simp [q]⟩
   ·exact ⟨true,by simp [toD,PyData.eqv,q],by simp [q]⟩
theorem yfT {h : AH} {p : Nat} {ps : List Pc} {u : Un} (S : ShelfAt h p ps) (o : OkI ps u) : ∃ k : Nat,ybb [.ref p,uv u] h = .ok (.int k) h:=by
 cases o with
 | @n k m f l x T =>
  have ob:=S.ob
  have fs:=zav S T.ms
  exact ⟨m.sg,by simp [ybb,ob,fs]⟩
 | @s z a=>exact ⟨z.length,by simp [ybb]⟩
theorem zh4 {h : AH} {W : Nat} {u : Un} {st : List Un} (eW : h[W]? = some (.lst ((u :: st).reverse.map uv))) (ls : st.length <= 900000) : yaA (.ref W) [uv u] (h.set W (.lst (st.reverse.map uv))) = .ok .non h:=by
 have l1 : (st.reverse.map uv).length < sizeLine:=Nat.lt_of_le_of_lt (m:=900000) (by simpa using ls) (by decide)
 have e1 : (h.set W (.lst (st.reverse.map uv)))[W]? = some (.lst (st.reverse.map uv)):=List.getElem?_set_self (yaL eW)
 have e2 : (h.set W (.lst (st.reverse.map uv))).set W (.lst (st.reverse.map uv++[uv u])) = h:=by
  rw [List.set_set,<- ybL]
  exact zbd eW
 simp only [yaA,e1,l1,if_true,e2]
theorem zjl {h : AH} {p W V : Nat} {ps : List Pc} {u v : Un} {l r : List Un} {o3 o4 o5 : Option AV} (S : ShelfAt h p ps) (eW : h[W]? = some (.lst ((u :: l).reverse.map uv))) (eV : h[V]? = some (.lst ((v :: r).reverse.map uv))) (ou : OkI ps u) (ov : OkI ps v) :
  ∃ b : Bool,(sOp2 fLt (yag ybb (yaa (sVar 0) (yaa (sOp2 fIx (sVar 1) (sOp1 fNeg (sLit (.int 1)))) sNil))) (yag ybb (yaa (sVar 0) (yaa (sOp2 fIx (sVar 2) (sOp1 fNeg (sLit (.int 1)))) sNil)))) [some (.ref p),some (.ref W),some (.ref V),o3,o4,o5] h = .ok (.bl b) h:=by
 obtain ⟨k1,f1⟩:=yfT S ou
 obtain ⟨k2,f2⟩:=yfT S ov
 have i1:=zcr eW
 have i2:=zcr eV
 have lt : fLt (.int k1) (.int k2) h = .ok (.bl (decide ((k1 : Int) < k2))) h:=rfl
 generalize uv u = UU at *
 generalize uv v = VV at *
 exact ⟨_,by simp [i1,i2,f1,f2,lt,-fIx,-fLt]; rfl⟩
theorem zfY {h : AH} {p W V X : Nat} {ps : List Pc} {b : Bool} {st : List Un} {o3 o4 o5 : Option AV} {a c k : Nat} (S : ShelfAt h p ps) (pk : (sOp2 fLt (yag ybb (yaa (sVar 0) (yaa (sOp2 fIx (sVar 1) (sOp1 fNeg (sLit (.int 1)))) sNil))) (yag ybb (yaa (sVar 0) (yaa (sOp2 fIx (sVar 2) (sOp1 fNeg (sLit (.int 1)))) sNil)))) [some (.ref p),some (.ref W),some (.ref V),o3,o4,o5] h = .ok (.bl b) h) (hb : (b = true /\ X = V) \/ (b = false /\ X = W)) (hX : p + 8 < X)
  (eX : h[X]? = some (.lst ((.n k :: st).reverse.map uv))) (k1 : 1 <= k) (e : ps[k - 1]? = some (.fork a c)) (ls : st.length <= 900000) :
  ∃ e3 e4 e5,ya5 [some (.ref p),some (.ref W),some (.ref V),o3,o4,o5] h = .nx [some (.ref p),some (.ref W),some (.ref V),e3,e4,e5] (h.set X (.lst ((.n a :: .n c :: st).reverse.map uv))):=by
 have eX' := eX
 rw [ybL] at eX'
 have pp:=popU eX'
 have is1 : yay (.ref X) h = true:=by simp [eX]
 have e1 : (h.set X (.lst (st.reverse.map uv)))[X]? = some (.lst (st.reverse.map uv)):=List.getElem?_set_self (yaL eX)
 have of:=zdm (zar S hX (.lst (st.reverse.map uv))) k1 e hX e1 (by simpa using Nat.le_trans ls (by decide))
 rw [List.set_set] at of
 have er : st.reverse.map uv++[.int c]++[.int a] = (.n a :: .n c :: st : List Un).reverse.map uv:=by simp
 rw [er] at of
 generalize (.n a :: .n c :: st : List Un).reverse.map uv = Z at *
 generalize st.reverse.map uv = Z0 at *
 generalize h.set X (.lst Z) = HF at *
 generalize h.set X (.lst Z0) = H1 at *
 have uk : uv (.n k) = .int k:=rfl
 rw [uk] at pp
 unfold ya5
 generalize (sOp2 fLt (yag ybb (yaa (sVar 0) (yaa (sOp2 fIx (sVar 1) (sOp1 fNeg (sLit (.int 1)))) sNil))) (yag ybb (yaa (sVar 0) (yaa (sOp2 fIx (sVar 2) (sOp1 fNeg (sLit (.int 1)))) sNil)))) = PK at *
 rcases hb with ⟨rfl,rfl⟩ | ⟨rfl,rfl⟩
 ·exact ⟨_,_,_,by simp [pk,is1,pp,of,-yay,-mPop]; exact ⟨rfl,rfl,rfl⟩⟩
 ·exact ⟨_,_,_,by simp [pk,is1,pp,of,-yay,-mPop]; exact ⟨rfl,rfl,rfl⟩⟩
theorem zfZ {h : AH} {p W V X : Nat} {b : Bool} {w : Un} {st : List Un} {o3 o4 o5 : Option AV} {R : AV} {h2 : AH} (pk : (sOp2 fLt (yag ybb (yaa (sVar 0) (yaa (sOp2 fIx (sVar 1) (sOp1 fNeg (sLit (.int 1)))) sNil))) (yag ybb (yaa (sVar 0) (yaa (sOp2 fIx (sVar 2) (sOp1 fNeg (sLit (.int 1)))) sNil)))) [some (.ref p),some (.ref W),some (.ref V),o3,o4,o5] h = .ok (.bl b) h) (hb : (b = true /\ X = V) \/ (b = false /\ X = W))
  (eX : h[X]? = some (.lst ((w :: st).reverse.map uv))) (of : ya8 [.ref p,.ref X,uv w] (h.set X (.lst (st.reverse.map uv))) = .ok (.bl false) (h.set X (.lst (st.reverse.map uv)))) (ls : st.length <= 900000) (cs : ybU [.ref p,.ref W,.ref V] h = .ok R h2) :
  ya5 [some (.ref p),some (.ref W),some (.ref V),o3,o4,o5] h = .rt R h2:=by
 have ab:=zh4 eX ls
 have is2 : yay (.ref X) (h.set X (.lst (st.reverse.map uv))) = true:=by simp [List.getElem?_set_self (yaL eX)]
 have eX' := eX
 rw [ybL] at eX'
 have pp:=popU eX'
 have is1 : yay (.ref X) h = true:=by simp [eX]
 generalize st.reverse.map uv = Z0 at *
 generalize h.set X (.lst Z0) = H1 at *
 unfold ya5
 generalize (sOp2 fLt (yag ybb (yaa (sVar 0) (yaa (sOp2 fIx (sVar 1) (sOp1 fNeg (sLit (.int 1)))) sNil))) (yag ybb (yaa (sVar 0) (yaa (sOp2 fIx (sVar 2) (sOp1 fNeg (sLit (.int 1)))) sNil)))) = PK at *
 generalize uv w = UW at *
 rcases hb with ⟨rfl,rfl⟩ | ⟨rfl,rfl⟩
 ·simp [pk,is1,is2,pp,of,ab,cs,-yay,-mPop,-yaA]
 ·simp [pk,is1,is2,pp,of,ab,cs,-yay,-mPop,-yaA]
end Sk
namespace Sk
open PySem PySem.Spec L2 Sm
theorem zeG {ps : List Pc} {p : Nat} (g : Good ps) {w : Un} (o : OkI ps w) :
  (∃ k a c,w = .n k /\ 1 <= k /\ ps[k - 1]? = some (.fork a c) /\ ∀ st,hU ps (.n a :: .n c :: st) + 1 <= hU ps (.n k :: st)) \/ (∀ hh X,ShelfAt hh p ps -> ya8 [.ref p,.ref X,uv w] hh = .ok (.bl false) hh):=by
 cases o with
 | @s z a=>exact .inr fun hh X _=>of_s z
 | @n k m f l x T =>
  rcases g.kind T with ⟨e,_⟩ | ⟨a,b,ma,mb,y,z,fa,la,fb,lb,e,e2,_,A,B,x1,x2,_⟩
  ·exact .inr fun hh X S=>zdl S T.n1 e
  ·refine .inl ⟨k,a,b,rfl,T.n1,e,fun st=>?_⟩
   rw [yba T,yba A,x2]
   have:=A.ky.ht
   have:=B.ky.ht
   have : (ycc ma mb).ht = max ma.ht mb.ht + 1:=rfl
   lia
abbrev CI : SB:=yaq (sOp2 fNe (sOp2 fIx (sVar 1) (sOp1 fNeg (sLit (.int 1)))) (sOp2 fIx (sVar 2) (sOp1 fNeg (sLit (.int 1)))))
def two (h : AH) (W V : Nat) (L R : List Un) : AH:=(h.set W (.lst (L.reverse.map uv))).set V (.lst (R.reverse.map uv))
theorem ygf (h : AH) (W V : Nat) (L L1 R : List Un) : two (h.set W (.lst (L1.reverse.map uv))) W V L R = two h W V L R:=by
 unfold two
 rw [List.set_set]
theorem ygg (h : AH) {W V : Nat} (ne : W ≠ V) (L R1 R : List Un) : two (h.set V (.lst (R1.reverse.map uv))) W V L R = two h W V L R:=by
 unfold two
 rw [List.set_comm _ _ ne.symm,List.set_set]
theorem yhs {h : AH} {W V : Nat} {L R : List Un} (eW : h[W]? = some (.lst (L.reverse.map uv))) (eV : h[V]? = some (.lst (R.reverse.map uv))) : two h W V L R = h:=by
 unfold two
 rw [zbd eW,zbd eV]
def ciR (ps : List Pc) (p W V : Nat) (L R : List Un) (h : AH) (o : OutS) : Prop :=
 (∃ u l r e3 e4 e5,Op ps L (u :: l) /\ Op ps R (u :: r) /\ o = .nx [some (.ref p),some (.ref W),some (.ref V),e3,e4,e5] (two h W V (u :: l) (u :: r))) \/
 (∃ x L0 y R0,nxF ps 90 L = (x,L0) /\ nxF ps 90 R = (y,R0) /\ o = .rt (.str (tkS x (cmN x.cps.toList y.cps.toList))) (two h W V (psh (dpS x (cmN x.cps.toList y.cps.toList)) L0) (psh (dpS y (cmN x.cps.toList y.cps.toList)) R0)))
theorem zdp {p W V : Nat} {ps : List Pc} (g : Good ps) (hW : p + 8 < W) (hV : p + 8 < V) (ne : W ≠ V) : ∀ (fuel : Nat) (L R : List Un) (h : AH) (o3 o4 o5 : Option AV),ShelfAt h p ps -> (∀ u ∈ L,OkI ps u) -> (∀ u ∈ R,OkI ps u) -> L ≠ [] -> R ≠ [] -> hU ps L + hU ps R < fuel -> L.length + hU ps L <= 800000 -> R.length + hU ps R <= 800000 ->
  h[W]? = some (.lst (L.reverse.map uv)) -> h[V]? = some (.lst (R.reverse.map uv)) -> ciR ps p W V L R h (yar CI ya5 fuel [some (.ref p),some (.ref W),some (.ref V),o3,o4,o5] h)
 | 0,L,R,h,o3,o4,o5,S,okL,okR,nL,nR,hf,lL,lR,eW,eV=>absurd hf (Nat.not_lt_zero _)
 | fu + 1,[],R,h,o3,o4,o5,S,okL,okR,nL,nR,hf,lL,lR,eW,eV=>absurd rfl nL
 | fu + 1,u :: l,[],h,o3,o4,o5,S,okL,okR,nL,nR,hf,lL,lR,eW,eV=>absurd rfl nR
 | fu + 1,u :: l,v :: r,h,o3,o4,o5,S,okL,okR,nL,nR,hf,lL,lR,eW,eV=>by
  have i1:=zcr eW
  have i2:=zcr eV
  obtain ⟨q,ne1,ne2⟩:=yin u v h
  have ou:=okL u (List.mem_cons_self ..)
  have ov:=okR v (List.mem_cons_self ..)
  have ll : (u :: l).length = l.length + 1:=rfl
  have lr : (v :: r).length = r.length + 1:=rfl
  have cn : CI [some (.ref p),some (.ref W),some (.ref V),o3,o4,o5] h = .ok q h:=by
   generalize uv u = UU at *
   generalize uv v = VV at *
   simp [CI,i1,i2,ne1,-fIx,-fNe]
  cases q with
  | false =>
   have huv : u = v:=ne2.mp rfl
   subst huv
   rw [yc2 cn]
   exact .inl ⟨u,l,r,o3,o4,o5,.refl _,.refl _,by rw [yhs eW eV]⟩
  | true =>
   obtain ⟨b,pk⟩:=zjl (o3:=o3) (o4:=o4) (o5:=o5) S eW eV ou ov
   obtain ⟨x,L0,e1⟩ : ∃ x L0,nxF ps 90 (u :: l) = (x,L0):=⟨_,_,rfl⟩
   obtain ⟨y,R0,e2⟩ : ∃ y R0,nxF ps 90 (v :: r) = (y,R0):=⟨_,_,rfl⟩
   have cs:=zh3 S g hW hV ne okL okR (by lia) (by lia) eW eV e1 e2
   cases b with
   | true =>
    rcases zeG (p:=p) g ov with ⟨k,a,c,rfl,k1,e,hh⟩ | of
    ·obtain ⟨d3,d4,d5,eb⟩:=zfY S pk (.inl ⟨rfl,rfl⟩) hV eV k1 e (by lia)
     rw [ydU cn eb]
     have hh' := hh r
     have lr2 : (.n a :: .n c :: r : List Un).length = r.length + 2:=rfl
     have ih:=zdp g hW hV ne fu (u :: l) (.n a :: .n c :: r) (h.set V (.lst ((.n a :: .n c :: r).reverse.map uv))) d3 d4 d5 (zar S hV _) okL (zaZ g okR e) nL (fun z=>by cases z) (by lia) lL (by lia)
      (by rw [List.getElem?_set_ne ne.symm]; exact eW) (List.getElem?_set_self (yaL eV))
     have o1 : Op ps (.n k :: r) (.n a :: .n c :: r):=.open (.refl _) e
     rcases ih with ⟨u',l',r',f3,f4,f5,q1,q2,q3⟩ | ⟨x',L',y',R',q1,q2,q3⟩
     ·exact .inl ⟨u',l',r',f3,f4,f5,q1,zeF o1 q2,by rw [q3,ygg h ne]⟩
     ·exact .inr ⟨x',L',y',R',q1,(yeC g o1 okR).trans q2,by rw [q3,ygg h ne]⟩
    ·rw [yc1 cn (zfZ pk (.inl ⟨rfl,rfl⟩) eV (of _ _ (zar S hV _)) (by lia) cs)]
     exact .inr ⟨x,L0,y,R0,e1,e2,rfl⟩
   | false =>
    rcases zeG (p:=p) g ou with ⟨k,a,c,rfl,k1,e,hh⟩ | of
    ·obtain ⟨d3,d4,d5,eb⟩:=zfY S pk (.inr ⟨rfl,rfl⟩) hW eW k1 e (by lia)
     rw [ydU cn eb]
     have hh' := hh l
     have lr2 : (.n a :: .n c :: l : List Un).length = l.length + 2:=rfl
     have ih:=zdp g hW hV ne fu (.n a :: .n c :: l) (v :: r) (h.set W (.lst ((.n a :: .n c :: l).reverse.map uv))) d3 d4 d5 (zar S hW _) (zaZ g okL e) okR (fun z=>by cases z) nR (by lia) (by lia) lR
      (List.getElem?_set_self (yaL eW)) (by rw [List.getElem?_set_ne ne]; exact eV)
     have o1 : Op ps (.n k :: l) (.n a :: .n c :: l):=.open (.refl _) e
     rcases ih with ⟨u',l',r',f3,f4,f5,q1,q2,q3⟩ | ⟨x',L',y',R',q1,q2,q3⟩
     ·exact .inl ⟨u',l',r',f3,f4,f5,zeF o1 q1,q2,by rw [q3,ygf]⟩
     ·exact .inr ⟨x',L',y',R',(yeC g o1 okL).trans q1,q2,by rw [q3,ygf]⟩
    ·rw [yc1 cn (zfZ pk (.inr ⟨rfl,rfl⟩) eW (of _ _ (zar S hW _)) (by lia) cs)]
     exact .inr ⟨x,L0,y,R0,e1,e2,rfl⟩
theorem zjm {h : AH} {p W V : Nat} {ps : List Pc} {L R : List Un} (S : ShelfAt h p ps) (g : Good ps) (hW : p + 8 < W) (hV : p + 8 < V) (ne : W ≠ V) (okL : ∀ u ∈ L,OkI ps u) (okR : ∀ u ∈ R,OkI ps u) (nL : L ≠ []) (nR : R ≠ []) (lL : L.length <= 700000) (lR : R.length <= 700000) (eW : h[W]? = some (.lst (L.reverse.map uv))) (eV : h[V]? = some (.lst (R.reverse.map uv))) :
  (∃ u l r,Op ps L (u :: l) /\ Op ps R (u :: r) /\ ya9 [.ref p,.ref W,.ref V] h = .ok (uv u) (two h W V l r)) \/
  (∃ x L0 y R0,nxF ps 90 L = (x,L0) /\ nxF ps 90 R = (y,R0) /\ ya9 [.ref p,.ref W,.ref V] h = .ok (.str (tkS x (cmN x.cps.toList y.cps.toList))) (two h W V (psh (dpS x (cmN x.cps.toList y.cps.toList)) L0) (psh (dpS y (cmN x.cps.toList y.cps.toList)) R0))):=by
 have a1:=ybv g (okis okL)
 have a2:=ybv g (okis okR)
 rcases zdp g hW hV ne yaQ L R h none none none S okL okR nL nR (Nat.lt_of_le_of_lt (m:=166) (by lia) (by decide)) (by lia) (by lia) eW eV with ⟨u,l,r,e3,e4,e5,q1,q2,q3⟩ | ⟨x,L0,y,R0,q1,q2,q3⟩
 ·refine .inl ⟨u,l,r,q1,q2,?_⟩
  have hWl:=yaL eW
  have hVl:=yaL eV
  have g1 : (two h W V (u :: l) (u :: r))[V]? = some (.lst (r.reverse.map uv++[uv u])):=by
   unfold two
   rw [List.getElem?_set_self (by rw [List.length_set]; exact hVl),ybL]
  have p1:=popU g1
  have h1 : (two h W V (u :: l) (u :: r)).set V (.lst (r.reverse.map uv)) = two h W V (u :: l) r:=by
   unfold two
   rw [List.set_set]
  rw [h1] at p1
  have g2 : (two h W V (u :: l) r)[W]? = some (.lst (l.reverse.map uv++[uv u])):=by
   unfold two
   rw [List.getElem?_set_ne ne.symm,List.getElem?_set_self hWl,ybL]
  have p2:=popU g2
  have h2 : (two h W V (u :: l) r).set W (.lst (l.reverse.map uv)) = two h W V l r:=by
   unfold two
   rw [List.set_comm _ _ ne.symm,List.set_set]
  rw [h2] at p2
  have is1 : yay (.ref V) (two h W V (u :: l) (u :: r)) = true:=by simp [g1]
  have is2 : yay (.ref W) (two h W V (u :: l) r) = true:=by simp [g2]
  unfold ya9
  generalize yar CI ya5 yaQ = WL at *
  generalize two h W V (u :: l) (u :: r) = H1 at *
  generalize two h W V (u :: l) r = H2 at *
  generalize two h W V l r = H3 at *
  generalize uv u = UU at *
  simp [q3,is1,is2,p1,p2,-yay,-mPop]
 ·refine .inr ⟨x,L0,y,R0,q1,q2,?_⟩
  unfold ya9
  generalize yar CI ya5 yaQ = WL at *
  generalize two h W V (psh (dpS x (cmN x.cps.toList y.cps.toList)) L0) (psh (dpS y (cmN x.cps.toList y.cps.toList)) R0) = H1 at *
  generalize tkS x (cmN x.cps.toList y.cps.toList) = XX at *
  simp [q3]
end Sk
namespace Sk
open PySem PySem.Spec L2 Sm
theorem yio {ps : List Pc} (g : Good ps) {s L : List Un} (o : Op ps s L) (ok : ∀ u ∈ s,OkI ps u) : rdS ps s = rdS ps L:=by
 induction o with
 | refl=>rfl
 | @«open» st j a b h e ih =>
  rw [ih]
  cases yc5 g h ok _ (List.mem_cons_self ..) with
  | n T =>
   obtain ⟨ma,mb,y,z,fa,la,fb,lb,_,A,B,x1,_⟩:=zbt g T e
   rw [rdS,rdS,rdS,ycp T,ycp A,ycp B,x1,zal,List.append_assoc]
theorem yip {ps : List Pc} (g : Good ps) {H : Nat} {s L : List Un} (o : Op ps s L) (ok : ∀ u ∈ s,OkI ps u) (b : Bd ps H s) : Bd ps H L:=by
 induction o with
 | refl=>exact b
 | @«open» st j a b h e ih =>
  cases yc5 g h ok _ (List.mem_cons_self ..) with
  | n T =>
   obtain ⟨ma,mb,y,z,fa,la,fb,lb,_,A,B,_,x2⟩:=zbt g T e
   exact zdo T A B x2 ih
theorem Cs.bd {ps : List Pc} (g : Good ps) {one items L : List Un} (c : Cs ps one items L) (ok1 : ∀ u ∈ one,OkU ps u) (b : Bd ps 83 one) : L.length <= 84:=by
 obtain ⟨s,e,ok,o⟩:=c.ex
 exact (yip g o ok (yeK g items ok1 e b)).len
structure Fs (ps : List Pc) (one items L : List Un) : Prop where
 ex : ∃ s,lbF ps items one = some s /\ (∀ u ∈ s,OkI ps u) /\ (L = [] ↔ s = []) /\ nxF ps 90 L = nxF ps 90 s
 ok : ∀ u ∈ L,OkI ps u
 ln : L.length <= 700000
theorem Cs.fs {ps : List Pc} (g : Good ps) {one items L : List Un} (c : Cs ps one items L) (ln : L.length <= 84) : Fs ps one items L:=by
 have ok:=c.oki g
 obtain ⟨s,e,oks,o⟩:=c.ex
 exact ⟨⟨s,e,oks,(yfS o).symm,(yeC g o oks).symm⟩,ok,by lia⟩
theorem yht {ps : List Pc} {z : Str} {st : List Un} (q : ¬ z = "") : nxF ps 90 (psh z st) = (z,st):=by
 unfold psh
 rw [if_neg q,nx_s]
theorem Cs.stop {ps : List Pc} (g : Good ps) {one items L L0 : List Un} {x : Str} (c : Cs ps one items L) (ln : L.length <= 84) (nL : L ≠ []) (e : nxF ps 90 L = (x,L0)) : Fs ps one items (psh (dpS x 0) L0) /\ sg1 ps (psh (dpS x 0) L0) = tkS x 1 /\ 1 <= x.length:=by
 have okL:=c.oki g
 have h82:=ybv g (okis okL)
 have N:=ycH g 90 L (okis okL) (by lia)
 have N2:=ye1 g 90 L okL (by lia)
 rw [e] at N N2
 have z1:=N.z1 nL
 have nl:=N.ln
 dsimp only at z1 nl
 obtain ⟨l1,l8,pl⟩:=zaw (show ybp x = true from N2.2 nL)
 have xn : ¬ x = "" := fun q=>by rw [zaQ] at q; lia
 rw [dp_0]
 have nx:=yht (ps:=ps) (st:=L0) xn
 obtain ⟨s,e1,oks,o⟩:=c.ex
 have pl2:=zdn x L0
 refine ⟨⟨⟨s,e1,oks,⟨fun q=>?_,fun q=>?_⟩,?_⟩,zfV pl l8 N2.1,by lia⟩,?_,l1⟩
 ·unfold psh at q
  rw [if_neg xn] at q
  cases q
 ·exact absurd ((yfS o).mp q) nL
 ·rw [nx,yeC g o oks,e]
 ·unfold sg1
  rw [nx]
theorem yhu {h : AH} {p W V : Nat} {ps : List Pc} {one other items L R : List Un} (S : ShelfAt h p ps) (g : Good ps) (hW : p + 8 < W) (hV : p + 8 < V) (ne : W ≠ V) (cL : Cs ps one items L) (cR : Cs ps other items R) (nL : L ≠ []) (nR : R ≠ []) (lL : L.length <= 84) (lR : R.length <= 84) (eW : h[W]? = some (.lst (L.reverse.map uv))) (eV : h[V]? = some (.lst (R.reverse.map uv))) :
  (∃ i L1 R1,ya9 [.ref p,.ref W,.ref V] h = .ok (uv i) (two h W V L1 R1) /\ OkI ps i /\ Cs ps one (items++[i]) L1 /\ Cs ps other (items++[i]) R1 /\ (rdS ps L1).length < (rdS ps L).length) \/
  (∃ L1 R1,ya9 [.ref p,.ref W,.ref V] h = .ok (.str "") (two h W V L1 R1) /\ Fs ps one items L1 /\ Fs ps other items R1 /\ ¬ sg1 ps L1 = sg1 ps R1):=by
 have okL:=cL.oki g
 have okR:=cR.oki g
 rcases zjm S g hW hV ne okL okR nL nR (by lia) (by lia) eW eV with ⟨u,l,r,o1,o2,f⟩ | ⟨x,L0,y,R0,e1,e2,f⟩
 ·have c1:=cL.opn o1
  have c2:=cR.opn o2
  have ou:=yc5 g o1 okL u (List.mem_cons_self ..)
  have rd:=yio g o1 okL
  have pos:=ou.u.pos
  have lt : (rdS ps l).length < (rdS ps L).length:=by
   rw [rd,rdS,List.length_append]
   lia
  cases u with
  | n k=>exact .inl ⟨.n k,l,r,f,ou,c1.num g,c2.num g,lt⟩
  | s z =>
   cases ou with
   | s a =>
    obtain ⟨a1,a8,apl⟩:=zaw a
    have t:=c1.txt g (nx_s ps 90 z l) a1 (Nat.le_refl _)
    have t2:=c2.txt g (nx_s ps 90 z r) a1 (Nat.le_refl _)
    have et : tkS z z.length = z:=zae (by rw [yb1,zad,List.take_length])
    have ed : dpS z z.length = "" := zae (by rw [yb2,zad,List.drop_length]; rfl)
    have ep : ∀ st,psh "" st = st:=fun st=>by unfold psh; rw [if_pos rfl]
    rw [et,ed,ep] at t t2
    exact .inl ⟨.s z,l,r,f,.s a,t.2,t2.2,lt⟩
 ·obtain ⟨n,en⟩ : ∃ n,n = cmN x.cps.toList y.cps.toList:=⟨_,rfl⟩
  have nl:=yea x.cps.toList y.cps.toList
  rw [<- zad,<- zad,<- en] at nl
  have tt : tkS x n = tkS y n:=zae (by rw [yb1,yb1,en,zfW])
  by_cases q : n = 0
  ·obtain ⟨s1,s2,s3⟩:=cL.stop g lL nL e1
   obtain ⟨t1,t2,t3⟩:=cR.stop g lR nR e2
   have dn:=zji x.cps.toList y.cps.toList
   rw [<- en] at f dn
   rw [q] at f dn
   rw [tk_0] at f
   refine .inr ⟨_,_,f,s1,t1,fun z=>?_⟩
   rw [s2,t2] at z
   have z' := congrArg (fun w : Str=>w.cps.toList) z
   rw [yb1,yb1] at z'
   have:=(dn (by rw [List.drop_zero,List.drop_zero]; exact z')).1
   rw [<- zad] at this
   lia
  ·rw [<- en] at f
   have t:=cL.txt g e1 (show 1 <= n by lia) nl.1
   have t2:=cR.txt g e2 (show 1 <= n by lia) nl.2
   rw [<- tt] at t2
   refine .inl ⟨.s (tkS x n),_,_,f,t.1,t.2,t2.2,?_⟩
   have N:=ycH g 90 L (okis okL) (by have:=ybv g (okis okL); lia)
   have rd:=N.rd
   rw [e1] at rd
   dsimp only at rd
   rw [rd,yeY,List.length_append,List.length_append,yb2,List.length_drop,<- zad]
   lia
theorem yiq {c : SB} {b : SS} {n : Nat} {en e2 : En} {h h2 : AH} (e : c en h = .ok true h) (eb : b en h = .bk e2 h2) : yar c b (n + 1) en h = .nx e2 h2:=by
 simp only [yar,e,eb]
abbrev CW : SB:=sAnd (yaq (sOp2 fNe (sVar 1) (sLst sNil))) (yaq (sOp2 fNe (sVar 2) (sLst sNil)))
structure S3 (n0 : Nat) (h0 h : AH) (p W V B : Nat) (ps : List Pc) (L R items : List Un) : Prop where
 sh : ShelfAt h p ps
 eW : h[W]? = some (.lst (L.reverse.map uv))
 eV : h[V]? = some (.lst (R.reverse.map uv))
 eB : h[B]? = some (.lst (items.map uv))
 fr : ∀ i,i < n0 -> h[i]? = h0[i]?
 nl : n0 <= h.length
theorem S3.put {n0 p W V B : Nat} {h0 h : AH} {ps : List Pc} {L R items L1 R1 : List Un} (s : S3 n0 h0 h p W V B ps L R items) (hW : p + 8 < W) (hV : p + 8 < V) (n1 : W ≠ V) (n2 : W ≠ B) (n3 : V ≠ B) (wn : n0 <= W) (vn : n0 <= V) : S3 n0 h0 (two h W V L1 R1) p W V B ps L1 R1 items:=by
 unfold two
 refine ⟨zar (zar s.sh hW _) hV _,?_,?_,?_,fun i hi=>?_,by rw [List.length_set,List.length_set]; exact s.nl⟩
 ·rw [List.getElem?_set_ne n1.symm,List.getElem?_set_self (yaL s.eW)]
 ·exact List.getElem?_set_self (by rw [List.length_set]; exact yaL s.eV)
 ·rw [List.getElem?_set_ne n3,List.getElem?_set_ne n2]; exact s.eB
 ·rw [List.getElem?_set_ne (by lia),List.getElem?_set_ne (by lia)]; exact s.fr i hi
theorem S3.add {n0 p W V B : Nat} {h0 h : AH} {ps : List Pc} {L R items : List Un} {i : Un} (s : S3 n0 h0 h p W V B ps L R items) (hB : p + 8 < B) (n2 : W ≠ B) (n3 : V ≠ B) (bn : n0 <= B) : S3 n0 h0 (h.set B (.lst ((items++[i]).map uv))) p W V B ps L R (items++[i]) :=
 ⟨zar s.sh hB _,by rw [List.getElem?_set_ne n2.symm]; exact s.eW,by rw [List.getElem?_set_ne n3.symm]; exact s.eV,List.getElem?_set_self (yaL s.eB),fun i hi=>by rw [List.getElem?_set_ne (by lia)]; exact s.fr i hi,by rw [List.length_set]; exact s.nl⟩
theorem ne_e {ps : List Pc} {i : Un} (o : OkI ps i) (h : AH) : fEq (uv i) (.str "") h = .ok (.bl false) h:=by
 cases o with
 | @n k m f l x T=>simp [toD,PyData.eqv]
 | @s z a =>
  have : ¬ z = "" := fun q=>by
   have:=(zaw a).1
   rw [zaQ] at q
   lia
  simp [toD,PyData.eqv,this]
theorem zf0 {p W V B n0 : Nat} {ps : List Pc} {h0 : AH} {one other : List Un} (g : Good ps) (hW : p + 8 < W) (hV : p + 8 < V) (hB : p + 8 < B) (n1 : W ≠ V) (n2 : W ≠ B) (n3 : V ≠ B) (wn : n0 <= W) (vn : n0 <= V) (bn : n0 <= B) (ok1 : ∀ u ∈ one,OkU ps u) (ok2 : ∀ u ∈ other,OkU ps u) (b1 : Bd ps 83 one) (b2 : Bd ps 83 other) : ∀ (fuel : Nat) (items L R : List Un) (h : AH) (o4 : Option AV),S3 n0 h0 h p W V B ps L R items -> Cs ps one items L -> Cs ps other items R -> (∀ i ∈ items,OkI ps i) -> (rdS ps L).length < fuel -> items.length + (rdS ps L).length <= 500000 ->
  ∃ items' L' R' h' o4',yar CW yaD fuel [some (.ref p),some (.ref W),some (.ref V),some (.ref B),o4] h = .nx [some (.ref p),some (.ref W),some (.ref V),some (.ref B),o4'] h' /\ S3 n0 h0 h' p W V B ps L' R' items' /\ Fs ps one items' L' /\ Fs ps other items' R' /\ (∀ i ∈ items',OkI ps i) /\ (L' = [] \/ R' = [] \/ ¬ sg1 ps L' = sg1 ps R')
 | 0,items,L,R,h,o4,s,cL,cR,oi,hf,ln=>absurd hf (Nat.not_lt_zero _)
 | fu + 1,items,[],R,h,o4,s,cL,cR,oi,hf,ln=>by
  have e1:=yez s.eW
  rw [yc2 (by simp [CW,e1,-fNe])]
  exact ⟨items,[],R,h,o4,rfl,s,cL.fs g (cL.bd g ok1 b1),cR.fs g (cR.bd g ok2 b2),oi,.inl rfl⟩
 | fu + 1,items,u :: l,[],h,o4,s,cL,cR,oi,hf,ln=>by
  have e1:=ydV s.eW
  have e2:=yez s.eV
  rw [yc2 (by simp [CW,e1,e2,-fNe])]
  exact ⟨items,u :: l,[],h,o4,rfl,s,cL.fs g (cL.bd g ok1 b1),cR.fs g (cR.bd g ok2 b2),oi,.inr (.inl rfl)⟩
 | fu + 1,items,u :: l,v :: r,h,o4,s,cL,cR,oi,hf,ln=>by
  have e1:=ydV s.eW
  have e2:=ydV s.eV
  have cn : CW [some (.ref p),some (.ref W),some (.ref V),some (.ref B),o4] h = .ok true h:=by simp [CW,e1,e2,-fNe]
  rcases yhu s.sh g hW hV n1 cL cR (fun z=>by cases z) (fun z=>by cases z) (cL.bd g ok1 b1) (cR.bd g ok2 b2) s.eW s.eV with ⟨i,L1,R1,f,o,c1,c2,lt⟩ | ⟨L1,R1,f,c1,c2,df⟩
  ·have s1:=s.put (L1:=L1) (R1:=R1) hW hV n1 n2 n3 wn vn
   obtain ⟨h1,eh1⟩ : ∃ h1,h1 = two h W V L1 R1:=⟨_,rfl⟩
   rw [<- eh1] at f s1
   have eq:=ne_e o h1
   have is1 : yay (.ref B) h1 = true:=by simp [s1.eB]
   have l1 : (items.map uv).length < sizeLine:=Nat.lt_of_le_of_lt (m:=500000) (by rw [List.length_map]; lia) (by decide)
   have ap : yaA (.ref B) [uv i] h1 = .ok .non (h1.set B (.lst ((items++[i]).map uv))):=by
    simp only [yaA,s1.eB,l1,if_true,List.map_append]
    rfl
   have s2:=s1.add (i:=i) hB n2 n3 bn
   obtain ⟨h2,eh2⟩ : ∃ h2,h2 = h1.set B (.lst ((items++[i]).map uv)):=⟨_,rfl⟩
   rw [<- eh2] at ap s2
   have eb : yaD [some (.ref p),some (.ref W),some (.ref V),some (.ref B),o4] h = .nx [some (.ref p),some (.ref W),some (.ref V),some (.ref B),some (uv i)] h2:=by
    generalize uv i = UI at *
    simp [yaD,f,eq,is1,ap,-fEq,-yay,-yaA]
   rw [ydU cn eb]
   have li : (items++[i]).length = items.length + 1:=by simp
   exact zf0 g hW hV hB n1 n2 n3 wn vn bn ok1 ok2 b1 b2 fu (items++[i]) L1 R1 h2 (some (uv i)) s2 c1 c2 (fun j hj=>(List.mem_append.mp hj).elim (oi j) (fun q=>by rw [List.mem_singleton] at q; subst q; exact o)) (by lia) (by lia)
  ·have s1:=s.put (L1:=L1) (R1:=R1) hW hV n1 n2 n3 wn vn
   obtain ⟨h1,eh1⟩ : ∃ h1,h1 = two h W V L1 R1:=⟨_,rfl⟩
   rw [<- eh1] at f s1
   have eq : fEq (.str "") (.str "") h1 = .ok (.bl true) h1:=by simp
   have eb : yaD [some (.ref p),some (.ref W),some (.ref V),some (.ref B),o4] h = .bk [some (.ref p),some (.ref W),some (.ref V),some (.ref B),some (.str "")] h1:=by
    simp [yaD,f,eq,-fEq]
   rw [yiq cn eb]
   exact ⟨items,L1,R1,h1,_,rfl,s1,c1,c2,oi,.inr (.inr df)⟩
end Sk
namespace Sk
open PySem PySem.Spec L2 Sm
def zs (a : Nat) : List Un:=if a = 0 then [] else [.n a]
theorem zs_0 : zs 0 = []:=rfl
theorem yeL {ps : List Pc} {a : Nat} {m f l : Ms} {x : Str} (T : Tx ps a m x f l) : zs a = [.n a]:=by
 have:=T.n1
 unfold zs
 rw [if_neg (by lia)]
theorem yb8 {ps : List Pc} {a : Nat} {x : Str} (T : TxZ ps a x) : (∀ u ∈ zs a,OkI ps u) /\ rdS ps (zs a) = x.cps.toList:=by
 rcases T with ⟨rfl,rfl⟩ | ⟨m,f,l,T⟩
 ·exact ⟨fun u hu=>(by cases hu),rfl⟩
 ·rw [yeL T]
  exact ⟨fun u hu=>(by rw [List.mem_singleton] at hu; subst hu; exact .n T),by show rdU ps (.n a)++[] = _; rw [List.append_nil,ycp T]⟩
theorem yeM {ps : List Pc} (g : Good ps) {a : Nat} {x : Str} (T : TxZ ps a x) : Bd ps 83 (zs a):=by
 rcases T with ⟨rfl,rfl⟩ | ⟨m,f,l,T⟩
 ·trivial
 ·rw [yeL T]; exact bd0 g T
def LfV (p n0 : Nat) (h : AH) (v : AV) (s : List Un) : Prop:=(∃ W,v = .ref W /\ n0 <= W /\ p + 8 < W /\ h[W]? = some (.lst (s.reverse.map uv))) \/ (v = .fl [] /\ s = [])
theorem LfV.isn {p n0 : Nat} {h : AH} {v : AV} {s : List Un} (l : LfV p n0 h v s) : fIsN v .non h = .ok (.bl false) h:=by
 rcases l with ⟨W,rfl,_⟩ | ⟨rfl,_⟩
 ·exact zje W h
 ·simp
theorem LfV.eq {p n0 : Nat} {h : AH} {v : AV} {s : List Un} (l : LfV p n0 h v s) : fEq v (.fl []) h = .ok (.bl (decide (s = []))) h:=by
 rcases l with ⟨W,rfl,_,_,e⟩ | ⟨rfl,rfl⟩
 ·exact yim e
 ·simp [toD,toDs,PyData.eqv,PyData.eqvAll]
theorem LfV.ne {p n0 : Nat} {h : AH} {v : AV} {s : List Un} (l : LfV p n0 h v s) : fNe v (.fl []) h = .ok (.bl (!decide (s = []))) h:=by
 have e:=l.eq
 have q : fEq v (.fl []) h = (match eqA v (.fl []) h with | some b=>.ok (.bl b) h | none=>.bad):=rfl
 rw [q] at e
 show (match eqA v (.fl []) h with | some b=>Out.ok (AV.bl (!b)) h | none=>.bad) = _
 cases hh : eqA v (.fl []) h with
 | none=>rw [hh] at e; cases e
 | some b=>rw [hh] at e; cases e; rfl
theorem LfV.fr {p n0 : Nat} {h h2 : AH} {v : AV} {s : List Un} (l : LfV p n0 h v s) (k : ∀ W,v = .ref W -> h2[W]? = h[W]?) : LfV p n0 h2 v s:=by
 rcases l with ⟨W,rfl,a,b,e⟩ | ⟨rfl,rfl⟩
 ·exact .inl ⟨W,rfl,a,b,(k W rfl).trans e⟩
 ·exact .inr ⟨rfl,rfl⟩
theorem yfU {h : AH} {p : Nat} : ybl [.ref p,.fl []] h = .ok (.str "") h:=by
 have nn : fNe (.fl []) (.fl []) h = .ok (.bl false) h:=by simp [toD,toDs,PyData.eqv,PyData.eqvAll]
 have wl : ∀ n,yar CN yaR (n + 1) [some (.ref p),some (.fl []),none] h = .nx [some (.ref p),some (.fl []),none] h:=fun n=>yc2 (by simp [nn,-fNe])
 have wl' : yar CN yaR yaQ [some (.ref p),some (.fl []),none] h = .nx [some (.ref p),some (.fl []),none] h:=wl _
 unfold ybl
 generalize yar CN yaR yaQ = WL at *
 simp [wl']
theorem LfV.nsg {p n0 : Nat} {ps : List Pc} {h : AH} {v : AV} {s : List Un} (l : LfV p n0 h v s) (S : ShelfAt h p ps) (g : Good ps) (ok : ∀ u ∈ s,OkU ps u) (ls : s.length <= 900000) : ∃ h',ybh [.ref p,v] h = .ok (.str (sg1 ps s)) h' /\ ShelfAt h' p ps /\ (∀ i,v ≠ .ref i -> h'[i]? = h[i]?) /\ (∀ i,i < n0 -> h'[i]? = h[i]?) /\ h'.length = h.length:=by
 rcases l with ⟨W,rfl,a,b,e⟩ | ⟨rfl,rfl⟩
 ·exact ⟨_,zjd S g b ok ls e,zar S b _,fun i hi=>List.getElem?_set_ne (fun q=>hi (by rw [q])),fun i hi=>List.getElem?_set_ne (by lia),List.length_set⟩
 ·refine ⟨h,?_,S,fun _ _=>rfl,fun _ _=>rfl,rfl⟩
  have e : sg1 ps [] = "" := rfl
  rw [e]
  have nn:=yfU (h:=h) (p:=p)
  have c : ybd (.str "") none (some 1) h = .ok (.str "") h:=rfl
  simp [ybh,nn,c,-ybd]
theorem yhv {ps : List Pc} {i : Un} (o : OkI ps i) : itF ps i [] = none:=by
 cases o with
 | n T=>rfl
 | @s z a =>
  show tkF ps 10 z [] = none
  have : ¬ z = "" := fun q=>by
   have:=(zaw a).1
   rw [zaQ] at q
   lia
  rw [tkF,if_neg this,if_pos (.inl (by show min 0 z.length = 0; lia))]
theorem zh5 {h : AH} {p : Nat} {ps : List Pc} {i : Un} (S : ShelfAt h p ps) (oi : OkI ps i) : yaZ [.ref p,.fl [],uv i] h = .ok (.bl false) h:=by
 have ob:=S.ob
 have nn : fNe (.fl []) (.fl []) h = .ok (.bl false) h:=by simp [toD,toDs,PyData.eqv,PyData.eqvAll]
 cases oi with
 | @n k m f l x T =>
  have hp : yaK [.ref p,.int k] h = .ok (.bl true) h:=by
   rw [yev S]
   have:=T.n1
   have:=T.le
   rw [decide_eq_true (by lia)]
  have wl : ∀ n,yar CN yaF (n + 1) [some (.ref p),some (.fl []),some (.int k),none] h = .nx [some (.ref p),some (.fl []),some (.int k),none] h:=fun n=>yc2 (by simp [nn,-fNe])
  have wl' : yar CN yaF yaQ [some (.ref p),some (.fl []),some (.int k),none] h = .nx [some (.ref p),some (.fl []),some (.int k),none] h:=wl _
  have tp : ybo [.ref p,.fl [],.int k] h = .ok (.bl false) h:=by
   unfold ybo
   generalize yar CN yaF yaQ = WL at *
   simp [wl']
  simp [yaZ,ob,hp,tp]
 | @s w a =>
  obtain ⟨w1,w8,_⟩:=zaw a
  have hp : yaK [.ref p,.str w] h = .ok (.bl false) h:=by
   simp [yaK,yck,ob]
  have sh : ybY [.str w] h = .ok (.bl true) h:=by rw [zcl w h (Nat.le_trans w8 (by decide)),a]
  have ne : fNe (.str w) (.str "") h = .ok (.bl true) h:=by
   have : ¬ w = "" := fun q=>by rw [zaQ] at q; lia
   simp [this]
  have cn : CP [some (.ref p),some (.fl []),some (.str w),some (.str w),none,none] h = .ok true h:=by simp [ne,-fNe]
  have nx:=yfU (h:=h) (p:=p)
  have l1 : fLen [.str ""] h = .ok (.int 0) h:=rfl
  have l2 : fLen [.str w] h = .ok (.int w.length) h:=rfl
  have mn : ybO [.int 0,.int w.length] h = .ok (.int 0) h:=by
   have : ybO [.int 0,.int w.length] h = .ok (.int (if (w.length : Int) < 0 then (w.length : Int) else 0)) h:=rfl
   rw [this,if_neg (by lia)]
  have e0 : fEq (.int 0) (.int 0) h = .ok (.bl true) h:=by simp
  have eb : yaJ [some (.ref p),some (.fl []),some (.str w),some (.str w),none,none] h = .rt (.bl false) h:=by
   generalize (w.length : Int) = WL at *
   simp [yaJ,nx,l1,l2,mn,e0,-fLen,-ybO,-fEq]
  have wl : ∀ n,yar CP yaJ (n + 1) [some (.ref p),some (.fl []),some (.str w),some (.str w),none,none] h = .rt (.bl false) h:=fun n=>yc1 cn eb
  have wl' : yar CP yaJ yaQ [some (.ref p),some (.fl []),some (.str w),some (.str w),none,none] h = .rt (.bl false) h:=wl _
  have tp : ybu [.ref p,.fl [],.str w] h = .ok (.bl false) h:=by
   unfold ybu
   generalize yar CP yaJ yaQ = WL at *
   simp [wl']
  simp [yaZ,ob,hp,sh,tp]
theorem zdq {h h' : AH} (k : ∀ i,i < h.length -> h'[i]? = h[i]?) (l : h.length <= h'.length) : ∃ r,h' = h++r:=by
 refine ⟨h'.drop h.length,List.ext_getElem? fun i=>?_⟩
 by_cases q : i < h.length
 ·rw [k i q,List.getElem?_append_left q]
 ·rw [List.getElem?_append_right (by lia),List.getElem?_drop]
  congr 1
  lia
theorem LfV.app {p n0 : Nat} {h : AH} {v : AV} {s : List Un} (l : LfV p n0 h v s) (r : AH) : LfV p n0 (h++r) v s:=by
 rcases l with ⟨W,rfl,a,b,e⟩ | ⟨rfl,rfl⟩
 ·exact .inl ⟨W,rfl,a,b,by rw [List.getElem?_append_left (yaL e)]; exact e⟩
 ·exact .inr ⟨rfl,rfl⟩
theorem LfV.below {p n0 : Nat} {h : AH} {v : AV} {s : List Un} (l : LfV p n0 h v s) {n1 i : Nat} (q : v = .ref i) (hn : h.length <= n1) : i < n1:=by
 rcases l with ⟨W,rfl,a,b,e⟩ | ⟨rfl,rfl⟩
 ·cases q
  exact Nat.lt_of_lt_of_le (yaL e) hn
 ·cases q
theorem LfV.above {p n0 : Nat} {h : AH} {v : AV} {s : List Un} (l : LfV p n0 h v s) {i : Nat} (hi : i < n0) : v ≠ .ref i:=by
 rcases l with ⟨W,rfl,a,b,e⟩ | ⟨rfl,rfl⟩
 ·intro q; cases q; lia
 ·intro q; cases q
theorem ye3 {h : AH} {p : Nat} {ps : List Pc} (S : ShelfAt h p ps) : yaW [.ref p,.int 0] h = .ok (.fl []) h:=by
 have ck : yax [.ref p,.int 0] h = .ok .non h:=zaN S (Nat.zero_le _)
 have t0 : fEq (.int 0) (.int 0) h = .ok (.bl true) h:=by simp
 simp [yaW,S.ob,ck,t0,-fEq]
theorem zcs {h : AH} {p t : Nat} {ps : List Pc} {its : List Un} {v : AV} {w : Option Nat} {x : Str} (S : ShelfAt h p ps) (g : Good ps) (T : TxZ ps t x) (sr : SrcI h its v w) (oi : ∀ i ∈ its,OkI ps i) :
  ∃ r,(∃ s v',lbF ps its (zs t) = some s /\ yaM [.ref p,.int t,v] h = .ok v' (h++r) /\ LfV p h.length (h++r) v' s) \/ (lbF ps its (zs t) = none /\ yaM [.ref p,.int t,v] h = .ok .non (h++r)):=by
 rcases T with ⟨rfl,rfl⟩ | ⟨m,f,l,T⟩
 ·refine ⟨[],?_⟩
  rw [List.append_nil,zs_0]
  have wl:=ye3 S
  have it : iVal (sVar 2) [some (.ref p),some (.int 0),some v,some (.fl []),none] h = .ok (its.map uv,w) h:=by
   cases sr with
   | ref e=>simp [e]
   | fl =>
    generalize its.map uv = Q at *
    simp
  have fo:=ybV (t:=.nm 4) (b:=yau) it
  have lv:=sr.live (hh:=h) (fun _ _=>rfl)
  cases its with
  | nil =>
   refine .inl ⟨[],.fl [],rfl,?_,.inr ⟨rfl,rfl⟩⟩
   have go : ya3 w (([] : List Un).map uv) (.nm 4) yau (([] : List Un).map uv) [some (.ref p),some (.int 0),some v,some (.fl []),none] h = .nx [some (.ref p),some (.int 0),some v,some (.fl []),none] h:=by
    show ya3 w (([] : List Un).map uv) (.nm 4) yau [] _ h = _
    unfold ya3
    rw [if_pos lv]
   have fo' := fo.trans go
   unfold yaM
   generalize sFor (iVal (sVar 2)) (.nm 4) yau = FF at *
   simp [wl,fo']
  | cons i its =>
   have o:=oi i (List.mem_cons_self ..)
   refine .inr ⟨?_,?_⟩
   ·show (itF ps i []).bind _ = none
    rw [yhv o]
    rfl
   ·have tk:=zh5 S o
    have eb : yau [some (.ref p),some (.int 0),some v,some (.fl []),some (uv i)] h = .rt .non h:=by
     generalize uv i = UI at *
     simp [yau,tk]
    have go : ya3 w ((i :: its).map uv) (.nm 4) yau ((i :: its).map uv) [some (.ref p),some (.int 0),some v,some (.fl []),none] h = .rt .non h:=by
     generalize hA : (i :: its).map uv = ALL at lv ⊢
     rw [<- hA]
     show ya3 w ((i :: its).map uv) (.nm 4) yau (uv i :: its.map uv) _ h = _
     rw [hA]
     unfold ya3
     rw [if_pos lv]
     have st : setT (.nm 4) (uv i) [some (.ref p),some (.int 0),some v,some (.fl []),none] = some [some (.ref p),some (.int 0),some v,some (.fl []),some (uv i)]:=rfl
     rw [st]
     dsimp only
     rw [eb]
    have fo' := fo.trans go
    unfold yaM
    generalize sFor (iVal (sVar 2)) (.nm 4) yau = FF at *
    simp [wl,fo']
 ·rw [yeL T]
  have hW : p + 8 < h.length:=yaL S.h8
  rcases yfR S g T sr oi with ⟨s,e,f⟩ | ⟨e,Z,f⟩
  ·exact ⟨_,.inl ⟨s,_,e,f,.inl ⟨h.length,rfl,Nat.le_refl _,hW,by simp⟩⟩⟩
  ·exact ⟨_,.inr ⟨e,f⟩⟩
theorem zh6 {h : AH} {p a b : Nat} {ps : List Pc} {its : List Un} {v : AV} {w : Option Nat} {x y : Str} (S : ShelfAt h p ps) (g : Good ps) (A : TxZ ps a x) (B : TxZ ps b y) (sr : SrcI h its v w) (oi : ∀ i ∈ its,OkI ps i) :
  ∃ (r : AH) (q : Bool),yal [.ref p,.int a,.int b,.tup [.str "alike",v]] h = .ok (.bl q) (h++r) /\ (q = true ↔ (lbF ps its (zs a) = some [] /\ lbF ps its (zs b) = some [])):=by
 have i0 : ∀ hh,fIx (.tup [.str "alike",v]) (.int 0) hh = .ok (.str "alike") hh:=fun _=>rfl
 have i1 : ∀ hh,fIx (.tup [.str "alike",v]) (.int 1) hh = .ok v hh:=fun _=>rfl
 obtain ⟨r1,q1⟩:=zcs S g A sr oi
 have S1:=S.app r1
 have sr1:=sr.mono (hh:=h++r1) (fun i hi=>List.getElem?_append_left hi)
 obtain ⟨h1,eh1⟩ : ∃ h1,h1 = h++r1:=⟨_,rfl⟩
 rw [<- eh1] at q1 S1 sr1
 obtain ⟨r2,q2⟩:=zcs S1 g B sr1 oi
 obtain ⟨H,eH⟩ : ∃ H,H = h1++r2:=⟨_,rfl⟩
 have er : H = h++(r1++r2):=by rw [eH,eh1,List.append_assoc]
 refine ⟨r1++r2,?_⟩
 rw [<- er]
 rw [<- eH] at q2
 rcases q1 with ⟨s1,v1,e1,f1,l1⟩ | ⟨e1,f1⟩
 ·rcases q2 with ⟨s2,v2,e2,f2,l2⟩ | ⟨e2,f2⟩
  ·have l1' := l1.app r2
   rw [<- eH] at l1'
   have t1 : fEq (.str "alike") (.str "alike") H = .ok (.bl true) H:=by simp
   have ln : fLen [.tup [.str "alike",v]] H = .ok (.int 2) H:=rfl
   have t2 : fEq (.int 2) (.int 2) H = .ok (.bl true) H:=by simp
   have n1:=l1'.isn
   have n2:=l2.isn
   have g1:=l1'.eq
   have g2:=l2.eq
   rw [e1,e2]
   clear S S1 sr sr1 l1 l1' l2 eh1 eH er A B
   by_cases z : s1 = []
   ·rw [decide_eq_true z] at g1
    by_cases z2 : s2 = []
    ·rw [decide_eq_true z2] at g2
     refine ⟨true,?_,⟨fun _=>⟨by rw [z],by rw [z2]⟩,fun _=>rfl⟩⟩
     simp [yal,i0,i1,f1,f2,n1,n2,t1,ln,t2,g1,g2,-fIx,-fIsN,-fEq,-fLen]
    ·rw [decide_eq_false z2] at g2
     refine ⟨false,?_,⟨fun q=>(by cases q),fun q=>absurd (Option.some.inj q.2) z2⟩⟩
     simp [yal,i0,i1,f1,f2,n1,n2,t1,ln,t2,g1,g2,-fIx,-fIsN,-fEq,-fLen]
   ·rw [decide_eq_false z] at g1
    refine ⟨false,?_,⟨fun q=>(by cases q),fun q=>absurd (Option.some.inj q.1) z⟩⟩
    simp [yal,i0,i1,f1,f2,n1,n2,t1,ln,t2,g1,g2,-fIx,-fIsN,-fEq,-fLen]
  ·have l1' := l1.app r2
   rw [<- eH] at l1'
   have n1:=l1'.isn
   have n2:=zcq H
   refine ⟨false,?_,⟨fun q=>(by cases q),fun q=>(by rw [e2] at q; cases q.2)⟩⟩
   simp [yal,i1,f1,f2,n1,n2,-fIx,-fIsN]
 ·have n1:=zcq H
  refine ⟨false,?_,⟨fun q=>(by cases q),fun q=>(by rw [e1] at q; cases q.1)⟩⟩
  rcases q2 with ⟨s2,v2,e2,f2,l2⟩ | ⟨e2,f2⟩
  ·simp [yal,i1,f1,f2,n1,-fIx,-fIsN]
  ·simp [yal,i1,f1,f2,n1,-fIx,-fIsN]
def apZ (ps : List Pc) (its : List Un) (a b : Nat) (c d : Str) : Prop:=∃ s1 s2,lbF ps its (zs a) = some s1 /\ lbF ps its (zs b) = some s2 /\ c = sg1 ps s1 /\ d = sg1 ps s2 /\ ¬ c = d
theorem zh7 {h : AH} {p a b : Nat} {ps : List Pc} {its : List Un} {v : AV} {w : Option Nat} {x y c d : Str} (S : ShelfAt h p ps) (g : Good ps) (A : TxZ ps a x) (B : TxZ ps b y) (sr : SrcI h its v w) (oi : ∀ i ∈ its,OkI ps i) :
  ∃ (r : AH) (q : Bool),yal [.ref p,.int a,.int b,.tup [.str "apart",v,.str c,.str d]] h = .ok (.bl q) (h++r) /\ (q = true ↔ apZ ps its a b c d):=by
 have i0 : ∀ hh,fIx (.tup [.str "apart",v,.str c,.str d]) (.int 0) hh = .ok (.str "apart") hh:=fun _=>rfl
 have i1 : ∀ hh,fIx (.tup [.str "apart",v,.str c,.str d]) (.int 1) hh = .ok v hh:=fun _=>rfl
 obtain ⟨r1,q1⟩:=zcs S g A sr oi
 have S1:=S.app r1
 have sr1:=sr.mono (hh:=h++r1) (fun i hi=>List.getElem?_append_left hi)
 obtain ⟨h1,eh1⟩ : ∃ h1,h1 = h++r1:=⟨_,rfl⟩
 rw [<- eh1] at q1 S1 sr1
 obtain ⟨r2,q2⟩:=zcs S1 g B sr1 oi
 have S2:=S1.app r2
 obtain ⟨H,eH⟩ : ∃ H,H = h1++r2:=⟨_,rfl⟩
 have er : H = h++(r1++r2):=by rw [eH,eh1,List.append_assoc]
 rw [<- eH] at q2 S2
 rcases q1 with ⟨s1,v1,e1,f1,l1⟩ | ⟨e1,f1⟩
 ·rcases q2 with ⟨s2,v2,e2,f2,l2⟩ | ⟨e2,f2⟩
  ·have l1' := l1.app r2
   rw [<- eH] at l1'
   have oa:=okis (yb8 A).1
   have ob:=okis (yb8 B).1
   have ok1:=(zaT g its oa e1).2
   have ok2:=(zaT g its ob e2).2
   have b1:=(yeK g its oa e1 (yeM g A)).len
   have b2:=(yeK g its ob e2 (yeM g B)).len
   obtain ⟨h3,ns1,S3,k3,k3',n3⟩:=l1'.nsg S2 g ok1 (by lia)
   have l2' : LfV p h1.length h3 v2 s2:=l2.fr fun W hw=>k3 W (fun q=>by
    have w1:=l1.below q (Nat.le_refl _)
    exact l2.above w1 hw)
   obtain ⟨h4,ns2,S4,k4,k4',n4⟩:=l2'.nsg S3 g ok2 (by lia)
   have hl : h.length <= h1.length:=by rw [eh1,List.length_append]; lia
   obtain ⟨r,hr⟩ : ∃ r,h4 = h++r:=by
    refine zdq (fun i hi=>?_) ?_
    ·rw [k4' i (by lia),k3' i hi,er,List.getElem?_append_left hi]
    ·rw [n4,n3,er,List.length_append]; lia
   have n1:=l1'.isn
   have n2:=l2.isn
   have t1 : fEq (.str "apart") (.str "alike") H = .ok (.bl false) H:=by
    have : ¬ (Str.ofString "apart" : Str) = Str.ofString "alike" := by decide +kernel
    simp [this]
   have t2 : fEq (.str "apart") (.str "apart") h4 = .ok (.bl true) h4:=by simp
   have cu : ybd (.tup [.str "apart",v,.str c,.str d]) (some 2) none h4 = .ok (.tup [.str c,.str d]) h4:=rfl
   have eqp:=zjf c d (sg1 ps s1) (sg1 ps s2) h4
   have j0 : fIx (.tup [.str (sg1 ps s1),.str (sg1 ps s2)]) (.int 0) h4 = .ok (.str (sg1 ps s1)) h4:=rfl
   have j1 : fIx (.tup [.str (sg1 ps s1),.str (sg1 ps s2)]) (.int 1) h4 = .ok (.str (sg1 ps s2)) h4:=rfl
   have ne : fNe (.str (sg1 ps s1)) (.str (sg1 ps s2)) h4 = .ok (.bl (!decide (sg1 ps s1 = sg1 ps s2))) h4:=by simp
   have key : (apZ ps its a b c d ↔ (c = sg1 ps s1 /\ d = sg1 ps s2) /\ ¬ sg1 ps s1 = sg1 ps s2):=by
    constructor
    ·rintro ⟨u1,u2,v1,v2,v3,v4,v5⟩
     rw [e1] at v1; rw [e2] at v2
     cases v1; cases v2
     exact ⟨⟨v3,v4⟩,by rw [<- v3,<- v4]; exact v5⟩
    ·rintro ⟨⟨v3,v4⟩,v5⟩
     exact ⟨s1,s2,e1,e2,v3,v4,by rw [v3,v4]; exact v5⟩
   refine ⟨r,?_⟩
   rw [<- hr]
   clear S S1 S2 S3 S4 A B sr sr1 l1 l1' l2 l2' eh1 eH er hr k3 k3' k4 k4'
   by_cases z : c = sg1 ps s1 /\ d = sg1 ps s2
   ·rw [decide_eq_true z] at eqp
    by_cases z2 : sg1 ps s1 = sg1 ps s2
    ·rw [decide_eq_true z2] at ne
     refine ⟨false,?_,by rw [key]; exact ⟨fun q=>(by cases q),fun q=>absurd z2 q.2⟩⟩
     generalize sg1 ps s1 = G1 at *
     generalize sg1 ps s2 = G2 at *
     simp [yal,i0,i1,f1,f2,n1,n2,t1,ns1,ns2,t2,cu,eqp,j0,j1,ne,-fIx,-fIsN,-fEq,-fNe,-ybd]
    ·rw [decide_eq_false z2] at ne
     refine ⟨true,?_,by rw [key]; exact ⟨fun _=>⟨z,z2⟩,fun _=>rfl⟩⟩
     generalize sg1 ps s1 = G1 at *
     generalize sg1 ps s2 = G2 at *
     simp [yal,i0,i1,f1,f2,n1,n2,t1,ns1,ns2,t2,cu,eqp,j0,j1,ne,-fIx,-fIsN,-fEq,-fNe,-ybd]
   ·rw [decide_eq_false z] at eqp
    refine ⟨false,?_,by rw [key]; exact ⟨fun q=>(by cases q),fun q=>absurd q.1 z⟩⟩
    generalize sg1 ps s1 = G1 at *
    generalize sg1 ps s2 = G2 at *
    simp [yal,i0,i1,f1,f2,n1,n2,t1,ns1,ns2,t2,cu,eqp,-fIx,-fIsN,-fEq,-fNe,-ybd]
  ·have l1' := l1.app r2
   rw [<- eH] at l1'
   have n1:=l1'.isn
   have n2:=zcq H
   refine ⟨r1++r2,false,?_,⟨fun q=>(by cases q),fun q=>(by obtain ⟨_,_,_,z,_⟩:=q; rw [e2] at z; cases z)⟩⟩
   rw [<- er]
   simp [yal,i1,f1,f2,n1,n2,-fIx,-fIsN]
 ·have n1:=zcq H
  refine ⟨r1++r2,false,?_,⟨fun q=>(by cases q),fun q=>(by obtain ⟨_,_,z,_⟩:=q; rw [e1] at z; cases z)⟩⟩
  rw [<- er]
  rcases q2 with ⟨s2,v2,e2,f2,l2⟩ | ⟨e2,f2⟩
  ·simp [yal,i1,f1,f2,n1,-fIx,-fIsN]
  ·simp [yal,i1,f1,f2,n1,-fIx,-fIsN]
end Sk
namespace Sk
open PySem PySem.Spec L2 Sm
theorem zeH {h : AH} {p a : Nat} {ps : List Pc} {x : Str} (S : ShelfAt h p ps) (A : TxZ ps a x) : ∃ r v,yaW [.ref p,.int a] h = .ok v (h++r) /\ LfV p h.length (h++r) v (zs a):=by
 rcases A with ⟨rfl,rfl⟩ | ⟨m,f,l,T⟩
 ·exact ⟨[],.fl [],by rw [List.append_nil]; exact ye3 S,.inr ⟨rfl,rfl⟩⟩
 ·have hW : p + 8 < h.length:=yaL S.h8
  have t1:=T.n1
  have t0 : fEq (.int a) (.int 0) h = .ok (.bl false) h:=by
   have:=eq_n a 0 h
   rw [decide_eq_false (by lia)] at this
   exact this
  have ck : yax [.ref p,.int a] h = .ok .non h:=zaN S (by have:=T.le; lia)
  refine ⟨[.lst [.int a]],.ref h.length,by simp [yaW,S.ob,ck,t0,-fEq],?_⟩
  rw [yeL T]
  exact .inl ⟨h.length,rfl,Nat.le_refl _,hW,by simp⟩
theorem yfV {ps : List Pc} (g : Good ps) {R : List Un} (ok : ∀ u ∈ R,OkI ps u) (ne : R ≠ []) : ¬ sg1 ps R = "" := fun q=>by
 have e:=ye0 g (okis ok)
 rw [q] at e
 cases R with
 | nil=>exact ne rfl
 | cons u r =>
  have:=(okis ok u (List.mem_cons_self ..)).pos
  have l:=congrArg List.length e
  rw [List.length_take,rdS,List.length_append] at l
  have z : ("" : Str).cps.toList.length = 0:=rfl
  lia
structure Ci (ps : List Pc) (p n0 n1 : Nat) (H h' : AH) (v1 v2 : AV) (one other items L R : List Un) : Prop where
 sh : ShelfAt h' p ps
 eB : h'[H.length]? = some (.lst (items.map uv))
 l1 : LfV p n0 h' v1 L
 l2 : LfV p n1 h' v2 R
 f1 : Fs ps one items L
 f2 : Fs ps other items R
 oi : ∀ i ∈ items,OkI ps i
 en : L = [] \/ R = [] \/ ¬ sg1 ps L = sg1 ps R
 fr : ∀ i,i < n0 -> h'[i]? = H[i]?
 nl : H.length <= h'.length
theorem zh8 {H : AH} {p a b n0 n1 : Nat} {ps : List Pc} {x y : Str} {v1 v2 : AV} (S : ShelfAt H p ps) (g : Good ps) (A : TxZ ps a x) (B : TxZ ps b y) (lx : x.length <= 10000) (l1 : LfV p n0 H v1 (zs a)) (l2 : LfV p n1 H v2 (zs b)) (n01 : n0 <= n1) (nH : n1 <= H.length) (df : ∀ i,v1 = .ref i -> i < n1) :
  ∃ items L R h',ybx [.ref p,v1,v2] H = .ok (.ref H.length) h' /\ Ci ps p n0 n1 H h' v1 v2 (zs a) (zs b) items L R:=by
 have oa:=(yb8 A).1
 have ob:=(yb8 B).1
 have hW : p + 8 < H.length:=yaL S.h8
 have S1:=S.app [.lst []]
 have l1' := l1.app [.lst []]
 have l2' := l2.app [.lst []]
 have eB : (H++[AO.lst []])[H.length]? = some (.lst (([] : List Un).map uv)):=by simp
 have cA : Cs ps (zs a) [] (zs a):=⟨zs a,rfl,oa,.refl _⟩
 have cB : Cs ps (zs b) [] (zs b):=⟨zs b,rfl,ob,.refl _⟩
 have ba:=yeM g A
 have bb:=yeM g B
 have key : ∃ items L R h' o4,yar CW yaD yaQ [some (.ref p),some v1,some v2,some (.ref H.length),none] (H++[.lst []]) = .nx [some (.ref p),some v1,some v2,some (.ref H.length),o4] h' /\ Ci ps p n0 n1 H h' v1 v2 (zs a) (zs b) items L R:=by
  have out : (zs a = [] \/ zs b = []) -> ∃ items L R h' o4,yar CW yaD yaQ [some (.ref p),some v1,some v2,some (.ref H.length),none] (H++[.lst []]) = .nx [some (.ref p),some v1,some v2,some (.ref H.length),o4] h' /\ Ci ps p n0 n1 H h' v1 v2 (zs a) (zs b) items L R:=fun q=>by
   have cn : CW [some (.ref p),some v1,some v2,some (.ref H.length),none] (H++[.lst []]) = .ok false (H++[.lst []]):=by
    have e1:=l1'.ne
    have e2:=l2'.ne
    by_cases z : zs a = []
    ·rw [decide_eq_true z] at e1
     simp [CW,e1,-fNe]
    ·rw [decide_eq_false z] at e1
     rw [decide_eq_true (q.resolve_left z)] at e2
     simp [CW,e1,e2,-fNe]
   have wl : ∀ n,yar CW yaD (n + 1) [some (.ref p),some v1,some v2,some (.ref H.length),none] (H++[.lst []]) = .nx [some (.ref p),some v1,some v2,some (.ref H.length),none] (H++[.lst []]):=fun n=>yc2 cn
   refine ⟨[],zs a,zs b,_,none,wl _,S1,eB,l1',l2',cA.fs g (cA.bd g (okis oa) ba),cB.fs g (cB.bd g (okis ob) bb),fun i hi=>(by cases hi),?_,fun i hi=>List.getElem?_append_left (by lia),by rw [List.length_append]; lia⟩
   exact q.elim .inl fun z=>.inr (.inl z)
  rcases id l1' with ⟨W,rfl,w1,w2,eW⟩ | ⟨_,z⟩
  ·rcases id l2' with ⟨V,rfl,u1,u2,eV⟩ | ⟨_,z⟩
   ·have wlt:=df W rfl
    have vlt : V < H.length:=by
     rcases l2 with ⟨V',q,_,_,e⟩ | ⟨q,_⟩
     ·cases q; exact yaL e
     ·cases q
    obtain ⟨items,L,R,h',o4,lp,s3,f1,f2,oi,en⟩:=zf0 (n0:=n0) (h0:=H) (one:=zs a) (other:=zs b) g w2 u2 hW (by lia) (by lia) (by lia) w1 (by lia) (by lia) (okis oa) (okis ob) ba bb yaQ [] (zs a) (zs b) (H++[.lst []]) none
     ⟨S1,eW,eV,eB,fun i hi=>List.getElem?_append_left (by lia),by rw [List.length_append]; lia⟩ cA cB (fun i hi=>(by cases hi)) (by rw [(yb8 A).2,<- zad]; exact Nat.lt_of_le_of_lt lx (by decide)) (by rw [(yb8 A).2,<- zad]; show 0 + _ <= _; lia)
    exact ⟨items,L,R,h',o4,lp,s3.sh,s3.eB,.inl ⟨W,rfl,w1,w2,s3.eW⟩,.inl ⟨V,rfl,u1,u2,s3.eV⟩,f1,f2,oi,en,s3.fr,Nat.le_of_lt (yaL s3.eB)⟩
   ·exact out (.inr z)
  ·exact out (.inl z)
 obtain ⟨items,L,R,h',o4,lp,ci⟩:=key
 refine ⟨items,L,R,h',?_,ci⟩
 clear ci cA cB l1 l2 l1' l2' df S S1 eB oa ob A B ba bb
 unfold ybx
 generalize yar CW yaD yaQ = WL at *
 simp [lp]
theorem yhw {h : AH} {p a b : Nat} {ps : List Pc} {x y : Str} (S : ShelfAt h p ps) (g : Good ps) (A : TxZ ps a x) (B : TxZ ps b y) (lx : x.length <= 10000) (ly : y.length <= 10000) :
  ∃ (r : AH) (items : List Un) (I : Nat),(h++r)[I]? = some (.lst (items.map uv)) /\ (∀ i ∈ items,OkI ps i) /\
  ((yaj [.ref p,.int a,.int b] h = .ok (.tup [.str "alike",.ref I]) (h++r) /\ lbF ps items (zs a) = some [] /\ lbF ps items (zs b) = some []) \/
  (∃ c d,yaj [.ref p,.int a,.int b] h = .ok (.tup [.str "apart",.ref I,.str c,.str d]) (h++r) /\ apZ ps items a b c d)):=by
 obtain ⟨ma,ema,sga⟩:=A.meas
 obtain ⟨mb,emb,sgb⟩:=B.meas
 have ob:=S.ob
 have fa:=zav S ema
 have fb:=zav S emb
 obtain ⟨M,hM,mx⟩ : ∃ M : Int,M <= 10000 /\ ybN [.int ma.sg,.int mb.sg] h = .ok (.int M) h:=by
  refine ⟨if (mb.sg : Int) > ma.sg then (mb.sg : Int) else ma.sg,?_,rfl⟩
  split<;>lia
 have gt : fGt (.int M) (.int 10000) h = .ok (.bl false) h:=by
  show Out.ok (AV.bl (decide (M > 10000))) h = _
  rw [decide_eq_false (by lia)]
 obtain ⟨nb,ne⟩ : ∃ q : Bool,fNe (.int a) (.int b) h = .ok (.bl q) h:=by
  by_cases q : a = b
  ·exact ⟨false,by subst q; simp [toD,PyData.eqv]⟩
  ·exact ⟨true,by simp [toD,PyData.eqv]; lia⟩
 obtain ⟨r1,v1,w1,l1⟩:=zeH S A
 have S1:=S.app r1
 obtain ⟨h1,eh1⟩ : ∃ h1,h1 = h++r1:=⟨_,rfl⟩
 rw [<- eh1] at w1 l1 S1
 obtain ⟨r2,v2,w2,l2⟩:=zeH S1 B
 have S2:=S1.app r2
 have l1' := l1.app r2
 have hl1 : h.length <= h1.length:=by rw [eh1,List.length_append]; lia
 obtain ⟨H,eH⟩ : ∃ H,H = h1++r2:=⟨_,rfl⟩
 rw [<- eH] at w2 l2 S2 l1'
 have hl2 : h1.length <= H.length:=by rw [eH,List.length_append]; lia
 obtain ⟨items,L,R,h3,fc,ci⟩:=zh8 S2 g A B lx l1' l2 hl1 hl2 (fun i q=>l1.below q (Nat.le_refl _))
 have hk : ∀ i,i < h.length -> h3[i]? = h[i]? := fun i hi=>by
  rw [ci.fr i hi,eH,List.getElem?_append_left (by lia),eh1,List.getElem?_append_left hi]
 have q1:=ci.l1.eq
 have q2:=ci.l2.eq
 obtain ⟨s1,e1,ok1,z1,x1⟩:=ci.f1.ex
 obtain ⟨s2,e2,ok2,z2,x2⟩:=ci.f2.ex
 by_cases c1 : L = [] /\ R = []
 ·rw [decide_eq_true c1.1] at q1
  rw [decide_eq_true c1.2] at q2
  obtain ⟨r,hr⟩:=zdq hk (Nat.le_trans hl1 (Nat.le_trans hl2 ci.nl))
  refine ⟨r,items,H.length,by rw [<- hr]; exact ci.eB,ci.oi,.inl ⟨?_,by rw [e1,z1.mp c1.1],by rw [e2,z2.mp c1.2]⟩⟩
  rw [<- hr]
  clear ci S S1 S2 l1 l1' l2 A B hk hr eh1 eH
  cases nb with
  | true=>simp [yaj,ob,fa,fb,mx,ne,gt,w1,w2,fc,q1,q2,-ybN,-fNe,-fGt,-fEq]
  | false=>simp [yaj,ob,fa,fb,mx,ne,w1,w2,fc,q1,q2,-ybN,-fNe,-fGt,-fEq]
 ·obtain ⟨h4,n1,S4,k4,k4',m4⟩:=ci.l1.nsg ci.sh g (okis ci.f1.ok) (Nat.le_trans ci.f1.ln (by decide))
  have l2' : LfV p h1.length h4 v2 R:=ci.l2.fr fun W hw=>k4 W (fun q=>ci.l2.above (l1.below q (Nat.le_refl _)) hw)
  obtain ⟨h5,n2,S5,k5,k5',m5⟩:=l2'.nsg S4 g (okis ci.f2.ok) (Nat.le_trans ci.f2.ln (by decide))
  obtain ⟨r,hr⟩ : ∃ r,h5 = h++r:=zdq (fun i hi=>by rw [k5' i (by lia),k4' i hi,hk i hi]) (by rw [m5,m4]; exact Nat.le_trans hl1 (Nat.le_trans hl2 ci.nl))
  have eI : h5[H.length]? = some (.lst (items.map uv)):=by
   have b1 : v1 ≠ .ref H.length:=fun q=>absurd (l1.below q (Nat.le_refl _)) (by lia)
   have b2 : v2 ≠ .ref H.length:=fun q=>absurd (l2.below q (Nat.le_refl _)) (by lia)
   rw [k5 _ b2,k4 _ b1]
   exact ci.eB
  have g1 : sg1 ps L = sg1 ps s1:=by unfold sg1; rw [x1]
  have g2 : sg1 ps R = sg1 ps s2:=by unfold sg1; rw [x2]
  refine ⟨r,items,H.length,by rw [<- hr]; exact eI,ci.oi,.inr ⟨sg1 ps L,sg1 ps R,?_,s1,s2,e1,e2,g1,g2,?_⟩⟩
  ·rw [<- hr]
   clear S S1 S2 S4 S5 l1 l1' l2 l2' A B hk hr eh1 eH k4 k4' k5 k5' g1 g2
   generalize sg1 ps L = G1 at *
   generalize sg1 ps R = G2 at *
   by_cases z : L = []
   ·rw [decide_eq_true z] at q1
    rw [decide_eq_false (fun w=>c1 ⟨z,w⟩)] at q2
    clear ci
    cases nb with
    | true=>simp [yaj,ob,fa,fb,mx,ne,gt,w1,w2,fc,q1,q2,n1,n2,-ybN,-fNe,-fGt,-fEq]
    | false=>simp [yaj,ob,fa,fb,mx,ne,w1,w2,fc,q1,q2,n1,n2,-ybN,-fNe,-fGt,-fEq]
   ·rw [decide_eq_false z] at q1
    clear ci
    cases nb with
    | true=>simp [yaj,ob,fa,fb,mx,ne,gt,w1,w2,fc,q1,n1,n2,-ybN,-fNe,-fGt,-fEq]
    | false=>simp [yaj,ob,fa,fb,mx,ne,w1,w2,fc,q1,n1,n2,-ybN,-fNe,-fGt,-fEq]
  ·have n0 : sg1 ps [] = "" := rfl
   rcases ci.en with z | z | z
   ·rw [z,n0]
    exact fun w=>yfV g ci.f2.ok (fun q=>c1 ⟨z,q⟩) w.symm
   ·rw [z,n0]
    exact fun w=>yfV g ci.f1.ok (fun q=>c1 ⟨q,z⟩) w
   ·exact z
end Sk
namespace Sk
open PySem PySem.Spec L2 Sm
theorem zjn (c k : Int) (h : AH) : ∃ m,ycZ [.int c,.int k] h = .ok (.int m) h:=by
 have b1 : 0 <= (c % 1000000007 + 7919 * k + 101) * 48271 % 2147483647:=Int.emod_nonneg _ (by decide)
 have b2 : (c % 1000000007 + 7919 * k + 101) * 48271 % 2147483647 < 2147483647:=Int.emod_lt_of_pos _ (by decide)
 refine ⟨(c % 1000000007 + 7919 * k + 101) * 48271 % 2147483647 * ((c % 1000000007 + 7919 * k + 101) * 48271 % 2147483647) % 2147483629 * 69621 % 2147483647,?_⟩
 generalize he : (c % 1000000007 + 7919 * k + 101) * 48271 % 2147483647 = v at *
 have c1 : v.natAbs < 18446744073709551616:=by lia
 simp [ycZ,he,c1]
theorem yhx {i j : Int} {h : AH} (hi : i.natAbs < 2 ^ 4000) (hj : j.natAbs < 2 ^ 4000) : fMul (.int i) (.int j) h = .ok (.int (i * j)) h:=if_pos (.inr ⟨hi,hj⟩)
theorem zc3 (ns : List Int) : yd1 (ns.map AV.int) = some ns:=by
 induction ns with
 | nil=>rfl
 | cons n r ih=>simp [ih]
abbrev T60 : Int:=1000000000000000000000000000000000000000000000000000000000000000000000000000000000000000000000000000000000000000000000000
theorem yhy : (10 : Nat) ^ 960 < 2 ^ 4000:=by decide +kernel
theorem yir : T60.natAbs < 2 ^ 4000:=by decide +kernel
theorem ze1 (ns : List Int) (k : Nat) (i : Nat) (c : Nat) (o : Option AV) (h : AH) (hi : i < 8) (hc : c < 10 ^ (120 * i)) (hj : k + i * 8 < ns.length) :
  ∃ c' : Nat,c' < 10 ^ (120 * (i + 1)) /\ ybD [some (.fl (ns.map AV.int)),some (.int k),some (.int c),some (.int ((k : Int) + i * 8)),o] h = .nx [some (.fl (ns.map AV.int)),some (.int k),some (.int c'),some (.int ((k : Int) + i * 8)),o] h:=by
 obtain ⟨s,es⟩ : ∃ s,ns[k + i * 8]? = some s:=⟨ns[k + i * 8],by simp [hj]⟩
 have ix : fIx (.fl (ns.map AV.int)) (.int ((k : Int) + i * 8)) h = .ok (.int s) h:=by
  rw [show ((k : Int) + i * 8) = ((k + i * 8 : Nat) : Int) by simp]
  simp only [fIx,zhR es]
 have p1 : (10 : Nat) ^ (120 * i) <= 10 ^ 960:=Nat.pow_le_pow_right (by decide) (by lia)
 have m1 : ((c : Int)).natAbs < 2 ^ 4000:=by
  have:=yhy
  exact Nat.lt_trans (show c < 10 ^ 960 by lia) this
 have mu : fMul (.int c) (.int T60) h = .ok (.int (c * T60)) h:=yhx m1 yir
 have r0 : 0 <= s % T60:=Int.emod_nonneg _ (by decide)
 have r1 : s % T60 < T60:=Int.emod_lt_of_pos _ (by decide)
 obtain ⟨r,er⟩ : ∃ r : Nat,s % T60 = (r : Int):=⟨(s % T60).toNat,(Int.toNat_of_nonneg r0).symm⟩
 have rl : r < 10 ^ 120:=by
  have : (r : Int) < T60:=er ▸ r1
  have e : T60 = ((10 ^ 120 : Nat) : Int):=by decide +kernel
  rw [e] at this; exact Int.ofNat_lt.mp this
 obtain ⟨c',ec,lc⟩ : ∃ c' : Nat,(c : Int) * T60 + r = (c' : Int) /\ c' < 10 ^ (120 * (i + 1)):=by
  refine ⟨c * 10 ^ 120 + r,?_,?_⟩
  ·have e : T60 = ((10 ^ 120 : Nat) : Int):=by decide +kernel
   rw [e,Int.natCast_add,Int.natCast_mul]
  ·rw [show 120 * (i + 1) = 120 * i + 120 by lia,Nat.pow_add]
   have : (c + 1) * 10 ^ 120 <= 10 ^ (120 * i) * 10 ^ 120:=Nat.mul_le_mul_right _ hc
   have e2 : (c + 1) * 10 ^ 120 = c * 10 ^ 120 + 10 ^ 120:=Nat.succ_mul _ _
   lia
 refine ⟨c',lc,?_⟩
 have pw : (sOp2 fMul (sOp2 fPow (sLit (.int 10)) (sLit (.int 60))) (sOp2 fPow (sLit (.int 10)) (sLit (.int 60)))) [some (.fl (ns.map AV.int)),some (.int k),some (.int c),some (.int ((k : Int) + i * 8)),o] h = .ok (.int T60) h:=by simp
 have md : fMod (.int s) (.int T60) h = .ok (.int r) h:=by simp only [fMod]; rw [if_pos (by decide),er]
 clear p1 m1 r0 r1 er rl hc lc hi
 unfold ybD
 generalize sOp2 fMul (sOp2 fPow (sLit (.int 10)) (sLit (.int 60))) (sOp2 fPow (sLit (.int 10)) (sLit (.int 60))) = PW at *
 generalize T60 = t60 at *
 simp [pw,mu,ix,md,ec,-fMul,-fIx,-fMod]
theorem zeI (en0 : Option AV) (ns : List Int) (k c f j : Int) (h : AH) : ∃ f',ybE [some (.fl (ns.map AV.int)),some (.int k),some (.int c),some (.int j),some (.int f)] h = .nx [some (.fl (ns.map AV.int)),some (.int k),some (.int c),some (.int j),some (.int f')] h:=by
 obtain ⟨m,hm⟩:=zjn (c + 1009 * k + ns.length) j h
 refine ⟨f * 2147483647 + m,?_⟩
 have m1 : fMul (.int f) (.int 2147483647) h = .ok (.int (f * 2147483647)) h:=yfH (by decide)
 have m2 : fMul (.int 1009) (.int k) h = .ok (.int (1009 * k)) h:=yhe (by decide)
 simp [ybE,hm,m1,m2,-fMul]
theorem zh9 (ns : List Int) (hl : ns.length <= 63) (k : Nat) (hk : k <= 10) (h : AH) : ∃ N : Int,ybG [.fl (ns.map AV.int),.int k] h = .ok (.ref h.length) (h++[.lst [.int N]]):=by
 obtain ⟨M,eM⟩ : ∃ M : Nat,M = (if (k : Int) < (ns.length : Int) then ((ns.length : Int) - k - 1) / 8 + 1 else 0).toNat:=⟨_,rfl⟩
 have hM : M <= 8 /\ ∀ i,i < M -> k + i * 8 < ns.length:=by
  rw [eM]
  split
  ·refine ⟨by lia,fun i hi=>by lia⟩
  ·refine ⟨by lia,fun i hi=>by simp at hi⟩
 obtain ⟨e1,h1,r1,r2⟩:=ydk (w:=none) (all:=(List.range M).map (fun m : Nat=>AV.int ((k : Int) + m * 8))) (t:=.nm 3) (b:=ybD) (xs:=(List.range M).map (fun m : Nat=>AV.int ((k : Int) + m * 8))) (en:=[some (.fl (ns.map AV.int)),some (.int k),some (.int 0),none,none]) (h:=h)
  (fun i en h' => h' = h /\ ∃ (c : Nat) (o : Option AV),c < 10 ^ (120 * i) /\ en = [some (.fl (ns.map AV.int)),some (.int k),some (.int c),o,none]) ⟨rfl,0,none,by decide,rfl⟩ (fun _ _ _ _=>rfl) (by
   rintro j x en h' hx ⟨rfl,c,o,hc,rfl⟩
   rw [List.getElem?_map] at hx
   obtain ⟨m,em,rfl⟩:=Option.map_eq_some_iff.mp hx
   have hj : j < M:=by
    have:=(List.getElem?_eq_some_iff.mp em).1; simpa using this
   rw [List.getElem?_range hj] at em
   cases em
   obtain ⟨c',l',e⟩:=ze1 ns k j c none h' (by have:=hM.1; lia) hc (hM.2 j hj)
   show thn (ybD [some (.fl (ns.map AV.int)),some (.int k),some (.int c),some (.int ((k : Int) + j * 8)),none] h') _
   rw [e]
   exact ⟨rfl,c',_,l',rfl⟩)
 obtain ⟨rfl,c,o,hc,rfl⟩:=r2
 have z1 : (k : Int).natAbs < 1099511627776:=by lia
 have z2 : ((ns.length : Nat) : Int).natAbs < 1099511627776:=by lia
 have it3 : yci (sVar 1) (yag fLen (yaa (sVar 0) sNil)) (sLit (.int 8)) [some (.fl (ns.map AV.int)),some (.int k),some (.int 0),none,none] h1 = .ok ((List.range M).map (fun m : Nat=>AV.int ((k : Int) + m * 8)),none) h1:=by
  simp only [yci,sVar,yag,yaa,sNil,sLit,Out.bind,fLen,List.getElem?_cons_zero,List.getElem?_cons_succ,lenA]
  rw [if_pos ⟨z1,z2,by decide,by decide⟩,<- eM]
 have f1:=(ybV (t:=.nm 3) (b:=ybD) it3).trans r1
 clear r1 it3
 by_cases hb : (1000000000000000000 : Int) <= c
 ·exact ⟨c,by simp [ybG,f1,hb,-sFor]⟩
 ·have cm:=zhQ (js:=[]) (en:=[some (.fl (ns.map AV.int)),some (.int k),some (.int c),o,none]) (w:=none) (all:=ns.map AV.int) (e:=sOp2 fMod (sVar 0) (sOp2 fPow (sLit (.int 10)) (sLit (.int 18)))) (g:=AV.int) (f:=fun i=>AV.int (i % 1000000000000000000)) (h:=h1) rfl ns [] (by intro i _; simp) (by
    simp only [List.length_nil]; exact Nat.le_trans (show 0 + ns.length <= 63 by lia) (by decide))
  have im : (ns.map fun i=>AV.int (i % 1000000000000000000)) = (ns.map fun i=>i % 1000000000000000000).map AV.int:=by simp
  obtain ⟨S,eS⟩ : ∃ S : Int,S = (ns.map fun i=>i % 1000000000000000000).sum:=⟨_,rfl⟩
  have sm : fSum [.fl (ns.map fun i=>AV.int (i % 1000000000000000000))] h1 = .ok (.int S) h1:=by
   rw [im,eS]; simp only [fSum,zc3]
  obtain ⟨e2,h2,s1,s2⟩:=ydk (w:=none) (all:=ybk 0 16) (t:=.nm 3) (b:=ybE) (xs:=ybk 0 16) (en:=[some (.fl (ns.map AV.int)),some (.int k),some (.int (c + S)),o,some (.int 0)]) (h:=h1)
   (fun i en h' => h' = h1 /\ ∃ (f : Int) (o : Option AV),en = [some (.fl (ns.map AV.int)),some (.int k),some (.int (c + S)),o,some (.int f)]) ⟨rfl,0,o,rfl⟩ (fun _ _ _ _=>rfl) (by
    rintro j x en h' hx ⟨rfl,f,o,rfl⟩
    rw [zdT] at hx
    by_cases q : j < 16
    ·rw [if_pos q] at hx
     cases hx
     obtain ⟨f',e⟩:=zeI none ns k (c + S) f (0 + (j : Int)) h'
     show thn (ybE [some (.fl (ns.map AV.int)),some (.int k),some (.int (c + S)),some (.int (0 + (j : Int))),some (.int f)] h') _
     rw [e]
     exact ⟨rfl,f',_,rfl⟩
    ·rw [if_neg q] at hx; cases hx)
  obtain ⟨rfl,f,o',rfl⟩:=s2
  have f2:=(ybV (t:=.nm 3) (b:=ybE) (zbp (a:=sLit (.int 16)) (en:=[some (.fl (ns.map AV.int)),some (.int k),some (.int (c + S)),o,some (.int 0)]) (h:=h2) (n:=16) rfl (by decide))).trans s1
  refine ⟨f,?_⟩
  simp at cm
  simp [ybG,f1,hb,cm,sm,f2,-sFor,-fSum]
theorem zjo {h : AH} {st : Nat} {n : Int} (m : Nat) (e : h[st]? = some (.lst [.int n])) (hm : 0 < m) (hm2 : m <= 10 ^ 50) : ∃ v : Nat,v < m /\ ybi [.ref st,.int m] h = .ok (.int v) (h.set st (.lst [.int (n / m)])):=by
 have a0 : atI [AV.int n] 0 = some (.int n):=rfl
 have i0 : ixN 1 0 = some 0:=rfl
 have hm0 : (0 : Int) < m:=Int.ofNat_lt.mpr hm
 have hm3 : m < 1606938044258990275541962092341162602522202993782792835301376:=Nat.lt_of_le_of_lt hm2 (by decide)
 refine ⟨(n % m).toNat,?_,?_⟩
 ·have:=Int.emod_lt_of_pos n hm0; have:=Int.emod_nonneg n (show (m : Int) ≠ 0 by lia); lia
 ·rw [Int.toNat_of_nonneg (Int.emod_nonneg n (show (m : Int) ≠ 0 by lia))]
  simp [ybi,e,a0,hm0,hm,hm3,i0]
theorem zct {hh : AH} {L : Nat} {N : Int} (m : Nat) (e : hh[L]? = some (.lst [.int N])) (hm : 0 < m) (hm2 : m <= 10 ^ 50) : ∃ (v : Nat) (N' : Int),v < m /\ ybi [.ref L,.int m] hh = .ok (.int v) (hh.set L (.lst [.int N'])):=by
 obtain ⟨v,hv,e1⟩:=zjo m e hm hm2
 exact ⟨v,N / m,hv,e1⟩
theorem zgr {y : Str} {c : Nat} (hy : yaC y = true) (hc : ydo c = true) : yaC (y++⟨#[c]⟩) = true /\ (y++(⟨#[c]⟩ : Str)).length = y.length + 1:=by
 refine ⟨?_,by rw [zaq]; rfl⟩
 rw [zaU,hy]
 simp [yaC,hc]
def sg64 : List Str:=["ab", "aaab", "a\n", "ab \n", "abcdefghijklmnopqrstuvwxyz 0123456789.,~\n"]
theorem zbF : ∀ x ∈ sg64,yaC x = true /\ 1 <= x.length /\ x.length <= 200 /\ 35 ∉ x.cps.toList:=by decide +kernel
theorem yhz (v : Nat) (hv : v < 5) : ∃ z : Str,(∀ h,fIx (.fl [.str "ab",.str "aaab",.str "a\n",.str "ab \n",.str "abcdefghijklmnopqrstuvwxyz 0123456789.,~\n"]) (.int (v : Int)) h = .ok (.str z) h) /\ yaC z = true /\ 1 <= z.length /\ z.length <= 200 /\ 35 ∉ z.cps.toList:=by
 have : v = 0 \/ v = 1 \/ v = 2 \/ v = 3 \/ v = 4:=by lia
 rcases this with rfl | rfl | rfl | rfl | rfl
 ·exact ⟨_,fun _=>rfl,zbF _ (by simp [sg64])⟩
 ·exact ⟨_,fun _=>rfl,zbF _ (by simp [sg64])⟩
 ·exact ⟨_,fun _=>rfl,zbF _ (by simp [sg64])⟩
 ·exact ⟨_,fun _=>rfl,zbF _ (by simp [sg64])⟩
 ·exact ⟨_,fun _=>rfl,zbF _ (by simp [sg64])⟩
theorem zd0 {x : Str} {v : Nat} (hv : v < x.length) (hx : yaC x = true) (h : AH) : ∃ c,c ∈ x.cps.toList /\ ydo c = true /\ fIx (.str x) (.int v) h = .ok (.str ⟨#[c]⟩) h:=by
 have hv' : v < x.cps.toList.length:=by rw [<- zad]; exact hv
 refine ⟨x.cps.toList[v],List.getElem_mem hv',List.all_eq_true.mp hx _ (List.getElem_mem hv'),?_⟩
 have e : x.cps.toList[v]? = some x.cps.toList[v]:=List.getElem?_eq_getElem hv'
 simp only [fIx,zba e]
theorem zha {hh : AH} {L : Nat} {N : Int} (most : Nat) (hm : most <= 1000) (e : hh[L]? = some (.lst [.int N])) : ∃ (y : Str) (N' : Int),yb4 [.ref L,.int most] hh = .ok (.str y) (hh.set L (.lst [.int N'])) /\ yaC y = true /\ y.length <= most /\ 35 ∉ y.cps.toList:=by
 have Ll:=yaL e
 obtain ⟨v,N1,hv,t1⟩:=zct 5 e (by decide) (by decide)
 have t1' : ybi [.ref L,.int 5] hh = .ok (.int v) (hh.set L (.lst [.int N1])):=t1
 obtain ⟨z,ez,pz,z1,z2,z3⟩:=yhz v hv
 have e1 : (hh.set L (.lst [.int N1]))[L]? = some (.lst [.int N1]):=List.getElem?_set_self Ll
 obtain ⟨k,N2,hk,t2⟩:=zct (most + 1) e1 (Nat.succ_pos _) (Nat.le_trans (Nat.succ_le_succ hm) (by decide))
 rw [List.set_set] at t2
 have t2' : ybi [.ref L,.int ((most : Int) + 1)] (hh.set L (.lst [.int N1])) = .ok (.int k) (hh.set L (.lst [.int N2])):=by
  have:=t2; rw [Int.natCast_succ] at this; exact this
 obtain ⟨e',h',r1,y,N3,o4,r2,r3,r4,r5,b3⟩:=ydk (w:=none) (all:=ybk 0 k) (t:=.nm 4) (b:=ybA) (xs:=ybk 0 k) (en:=[some (.ref L),some (.int most),some (.str z),some (.str ""),none]) (h:=hh.set L (.lst [.int N2]))
  (fun j en h' => ∃ (y : Str) (N' : Int) (o4 : Option AV),en = [some (.ref L),some (.int most),some (.str z),some (.str y),o4] /\ h' = hh.set L (.lst [.int N']) /\ yaC y = true /\ y.length = j /\ 35 ∉ y.cps.toList) ⟨"",N2,none,rfl,rfl,rfl,rfl,by decide⟩ (fun _ _ _ _=>rfl) (by
   rintro j u en h' hu ⟨y,N',o4,rfl,rfl,py,ly,bb⟩
   have jk : j < k:=by have:=(List.getElem?_eq_some_iff.mp hu).1; rwa [zbM] at this
   have e3 : (hh.set L (.lst [.int N']))[L]? = some (.lst [.int N']):=List.getElem?_set_self Ll
   obtain ⟨t,N4,ht,et⟩:=zct z.length e3 (by lia) (Nat.le_trans z2 (by decide))
   rw [List.set_set] at et
   obtain ⟨c,mc,pc,ec⟩:=zd0 ht pz (hh.set L (.lst [.int N4]))
   have ad : fAdd (.str y) (.str ⟨#[c]⟩) (hh.set L (.lst [.int N4])) = .ok (.str (y++⟨#[c]⟩)) (hh.set L (.lst [.int N4])):=by
    have : y.length + (⟨#[c]⟩ : Str).length <= sizeLine:=Nat.le_trans (m:=1001) (by show y.length + 1 <= _; lia) (by decide)
    simp only [fAdd,this,if_true]
   have es : ybA [some (.ref L),some (.int most),some (.str z),some (.str y),some u] (hh.set L (.lst [.int N'])) = .nx [some (.ref L),some (.int most),some (.str z),some (.str (y++⟨#[c]⟩)),some u] (hh.set L (.lst [.int N4])):=by
    generalize hh.set L (.lst [.int N4]) = h2 at *
    generalize hh.set L (.lst [.int N']) = h1 at *
    simp [ybA,et,ec,ad,-fIx,-fAdd]
   show thn (ybA [some (.ref L),some (.int most),some (.str z),some (.str y),some u] (hh.set L (.lst [.int N']))) _
   rw [es]
   obtain ⟨q1,q2⟩:=zgr py pc
   exact ⟨_,N4,_,rfl,rfl,q1,by rw [q2,ly],fun z=>by
    rw [zal,List.mem_append] at z
    rcases z with z | z
    ·exact bb z
    ·have : 35 = c:=by simpa using z
     exact z3 (this ▸ mc)⟩)
 rw [zbM] at r5
 have f1:=(ybV (t:=.nm 4) (b:=ybA) (zbp (a:=yag ybi (yaa (sVar 0) (yaa (sOp2 fAdd (sVar 1) (sLit (.int 1))) sNil))) (en:=[some (.ref L),some (.int most),some (.str z),some (.str ""),none]) (h:=hh.set L (.lst [.int N1])) (n:=k) (by simp [t2']) (by lia))).trans r1
 refine ⟨y,N3,?_,r4,by lia,b3⟩
 rw [<- r3]
 subst r2
 unfold yb4
 generalize sFor (ycg (yag ybi (yaa (sVar 0) (yaa (sOp2 fAdd (sVar 1) (sLit (.int 1))) sNil)))) (.nm 4) ybA = F1 at *
 generalize hh.set L (.lst [.int N1]) = h1 at *
 simp [t1',ez,f1,-fAdd,-fIx]
structure Zq (L : Nat) (h : AH) (ps : List Pc) : Prop where
 sh : ShelfAt h 0 ps
 gd : Good ps
 hl : 8 < L
 ro : ∃ N : Int,h[L]? = some (.lst [.int N])
theorem Zq.dd {L : Nat} {h h' : AH} {ps ps' : List Pc} {k : Nat} (z : Zq L h ps) (d : Dd 0 h h' ps ps' k) : Zq L h' ps' := by
 obtain ⟨N,e⟩:=z.ro
 exact ⟨d.sh,d.gd,z.hl,N,(d.fr L (.inr (by have:=z.hl; lia))).trans e⟩
end Sk
namespace Sk
open PySem PySem.Spec L2 Sm
theorem yis {ps : List Pc} (g : Good ps) {its : List Un} {a b : Nat} {x y : Str} (A : TxZ ps a x) (B : TxZ ps b y) (q : lbF ps its (zs a) = some [] /\ lbF ps its (zs b) = some []) : x = y:=by
 have q1:=(zaT g its (okis (yb8 A).1) q.1).1
 have q2:=(zaT g its (okis (yb8 B).1) q.2).1
 rw [(yb8 A).2] at q1
 rw [(yb8 B).2] at q2
 exact zae (q1.trans q2.symm)
theorem yhA {ps : List Pc} (g : Good ps) {its : List Un} {a b : Nat} {x y c d : Str} (A : TxZ ps a x) (B : TxZ ps b y) (q : apZ ps its a b c d) : ¬ x = y:=by
 obtain ⟨s1,s2,e1,e2,e3,e4,e5⟩:=q
 obtain ⟨q1,o1⟩:=zaT g its (okis (yb8 A).1) e1
 obtain ⟨q2,o2⟩:=zaT g its (okis (yb8 B).1) e2
 rw [(yb8 A).2] at q1
 rw [(yb8 B).2] at q2
 intro z
 rw [z,q2] at q1
 exact e5 (by rw [e3,e4,yhq g o1 o2 (by rw [List.append_cancel_left q1])])
section
variable {h : AH} {p : Nat} {ps : List Pc}
theorem zia {i : Int} (S : ShelfAt h p ps) (hi : ¬ (0 <= i /\ i <= ps.length)) : yaW [.ref p,.int i] h = .ex 2 h:=by
 have hs : yaK [.ref p,.int i] h = .ok (.bl false) h:=by
  have:=yev (i:=i) S
  rw [decide_eq_false (by lia)] at this; exact this
 have ne : ¬ i = 0:=by lia
 have cp : yaN [.ref p,.int i] h = .ex 2 h:=by simp [yaN,S.ob,hs]
 have ct : yax [.ref p,.int i] h = .ex 2 h:=by simp [yax,ne,S.ob,cp]
 simp [yaW,S.ob,ct]
theorem zf1 {i : Int} {v : AV} (S : ShelfAt h p ps) (hi : ¬ (0 <= i /\ i <= ps.length)) : yaM [.ref p,.int i,v] h = .ex 2 h:=by
 have e:=zia S hi
 unfold yaM
 generalize sFor (iVal (sVar 2)) (.nm 4) yau = FO
 simp [e]
theorem yhB {a : Nat} {x : Str} (S : ShelfAt h p ps) (g : Good ps) (A : TxZ ps a x) : ∃ (v : AV) (r : AH),yaM [.ref p,.int a,.fl []] h = .ok v (h++r):=by
 rcases A with ⟨rfl,rfl⟩ | ⟨m,f,l,A⟩
 ·have e:=ye3 S
  have e' : yaW [.ref p,.int ((0 : Nat) : Int)] h = .ok (.fl []) h:=e
  refine ⟨.fl [],[],?_⟩
  have it : iVal (sVar 2) [some (.ref p),some (.int ((0 : Nat) : Int)),some (.fl []),some (.fl []),none] h = .ok ([],none) h:=rfl
  have l1:=ybV (t:=.nm 4) (b:=yau) it
  have l2 : ya3 none [] (.nm 4) yau [] [some (.ref p),some (.int ((0 : Nat) : Int)),some (.fl []),some (.fl []),none] h = .nx [some (.ref p),some (.int ((0 : Nat) : Int)),some (.fl []),some (.fl []),none] h:=by simp [ya3]
  rw [l2] at l1
  unfold yaM
  generalize sFor (iVal (sVar 2)) (.nm 4) yau = FO at *
  generalize ((0 : Nat) : Int) = z0 at *
  simp [e',l1]
 ·rcases yfR (its:=[]) (v:=.fl []) (w:=none) S g A .fl (fun _ z=>(nomatch z)) with ⟨st,_,e⟩ | ⟨_,Z,e⟩
  ·exact ⟨_,_,e⟩
  ·exact ⟨_,_,e⟩
theorem zib {i : Int} {v : AV} (S : ShelfAt h p ps) (hi : ¬ (0 <= i /\ i <= ps.length)) : yaj [.ref p,.int i,v] h = .ex 2 h:=by
 have e:=zdZ S hi
 simp [yaj,S.ob,e]
theorem zic {a : Nat} {x : Str} {i : Int} (S : ShelfAt h p ps) (A : TxZ ps a x) (hi : ¬ (0 <= i /\ i <= ps.length)) : yaj [.ref p,.int a,.int i] h = .ex 2 h:=by
 obtain ⟨m,em,_⟩:=A.meas
 have e:=zdZ S hi
 have e1:=zav S em
 simp [yaj,S.ob,e,e1]
abbrev T65a : AV:=.tup [.str "alike",.fl []]
abbrev T65b : AV:=.tup [.str "apart",.fl [],.str "",.str "a"]
theorem zeJ {i : Int} {v : AV} {t : AV} (S : ShelfAt h p ps) (hi : ¬ (0 <= i /\ i <= ps.length)) (ht : fIx t (.int 1) h = .ok (.fl []) h) : yal [.ref p,.int i,v,t] h = .ex 2 h:=by
 have e:=zf1 (v:=.fl []) S hi
 unfold yal
 generalize yaM = FL at *
 generalize ybh = FN at *
 simp [ht,e,-fIx]
theorem zeK {a : Nat} {x : Str} {i : Int} {t : AV} (S : ShelfAt h p ps) (g : Good ps) (A : TxZ ps a x) (hi : ¬ (0 <= i /\ i <= ps.length)) (ht : ∀ hh,fIx t (.int 1) hh = .ok (.fl []) hh) : ∃ r,yal [.ref p,.int a,.int i,t] h = .ex 2 (h++r):=by
 obtain ⟨v,r,e1⟩:=yhB S g A
 have e:=zf1 (v:=.fl []) (S.app r) hi
 refine ⟨r,?_⟩
 unfold yal
 generalize yaM = FL at *
 generalize ybh = FN at *
 generalize h++r = h1 at *
 simp [ht,e,e1,-fIx]
theorem zdr {u v : AV} {c : Nat} {h' : AH} (e : yaj [.ref p,u,v] h = .ex c h') (hc : c = 2 \/ c = 5) : yas [.ref p,u,v,.int 0] h = .ok (.fl [.bl (decide (c = 2)),.bl (decide (c = 5)),.bl true,.bl false]) h' := by
 have z0 : fEq (.int 0) (.int 0) h = .ok (.bl true) h:=by simp
 unfold yas
 generalize yaj = FH at *
 generalize yal = FT at *
 rcases hc with rfl | rfl<;>simp [z0,e,ybF,ycA,ycC,ycB,yb0,-fEq]
theorem zf2 {u v z : AV} {h' : AH} (e : yaj [.ref p,u,v] h = .ok z h') : yas [.ref p,u,v,.int 0] h = .ok (.fl []) h' := by
 have z0 : fEq (.int 0) (.int 0) h = .ok (.bl true) h:=by simp
 unfold yas
 generalize yaj = FH at *
 generalize yal = FT at *
 simp [z0,e,-fEq]
theorem zf3 {u v : AV} {h' : AH} (e : yal [.ref p,u,v,T65a] h = .ex 2 h') : yas [.ref p,u,v,.int 1] h = .ok (.fl [.bl true,.bl false,.bl true,.bl false]) h' := by
 have z0 : fEq (.int 1) (.int 0) h = .ok (.bl false) h:=by simp
 have z1 : fEq (.int 1) (.int 1) h = .ok (.bl true) h:=by simp
 unfold yas
 generalize yaj = FH at *
 generalize yal = FT at *
 simp [z0,z1,e,ybF,ycA,ycC,ycB,yb0,-fEq]
theorem zjp {u v z : AV} {h' : AH} (e : yal [.ref p,u,v,T65a] h = .ok z h') : yas [.ref p,u,v,.int 1] h = .ok (.fl []) h' := by
 have z0 : fEq (.int 1) (.int 0) h = .ok (.bl false) h:=by simp
 have z1 : fEq (.int 1) (.int 1) h = .ok (.bl true) h:=by simp
 unfold yas
 generalize yaj = FH at *
 generalize yal = FT at *
 simp [z0,z1,e,-fEq]
theorem zf4 {u v : AV} {h' : AH} (e : yal [.ref p,u,v,T65b] h = .ex 2 h') : yas [.ref p,u,v,.int 2] h = .ok (.fl [.bl true,.bl false,.bl true,.bl false]) h' := by
 have z0 : fEq (.int 2) (.int 0) h = .ok (.bl false) h:=by simp
 have z1 : fEq (.int 2) (.int 1) h = .ok (.bl false) h:=by simp
 unfold yas
 generalize yaj = FH at *
 generalize yal = FT at *
 simp [z0,z1,e,ybF,ycA,ycC,ycB,yb0,-fEq]
theorem zjq {u v z : AV} {h' : AH} (e : yal [.ref p,u,v,T65b] h = .ok z h') : yas [.ref p,u,v,.int 2] h = .ok (.fl []) h' := by
 have z0 : fEq (.int 2) (.int 0) h = .ok (.bl false) h:=by simp
 have z1 : fEq (.int 2) (.int 1) h = .ok (.bl false) h:=by simp
 unfold yas
 generalize yaj = FH at *
 generalize yal = FT at *
 simp [z0,z1,e,-fEq]
theorem zjr {i j : Int} {w : Nat} (S : ShelfAt h p ps) (g : Good ps) (hw : w < 3) (hb : ¬ (0 <= i /\ i <= ps.length) \/ ((∃ (a : Nat) (x : Str),i = a /\ TxZ ps a x) /\ ¬ (0 <= j /\ j <= ps.length))) :
  ∃ r,yas [.ref p,.int i,.int j,.int w] h = .ok (.fl [.bl true,.bl false,.bl true,.bl false]) (h++r):=by
 have i1 : ∀ hh,fIx T65a (.int 1) hh = .ok (.fl []) hh:=fun _=>rfl
 have i2 : ∀ hh,fIx T65b (.int 1) hh = .ok (.fl []) hh:=fun _=>rfl
 have hw' : w = 0 \/ w = 1 \/ w = 2:=by lia
 rcases hb with hb | ⟨⟨a,x,rfl,A⟩,hb⟩
 ·rcases hw' with rfl | rfl | rfl
  ·exact ⟨[],by rw [List.append_nil]; exact zdr (zib S hb) (.inl rfl)⟩
  ·exact ⟨[],by rw [List.append_nil]; exact zf3 (zeJ S hb (i1 _))⟩
  ·exact ⟨[],by rw [List.append_nil]; exact zf4 (zeJ S hb (i2 _))⟩
 ·rcases hw' with rfl | rfl | rfl
  ·exact ⟨[],by rw [List.append_nil]; exact zdr (zic S A hb) (.inl rfl)⟩
  ·obtain ⟨r,e⟩:=zeK S g A hb i1
   exact ⟨r,zf3 e⟩
  ·obtain ⟨r,e⟩:=zeK S g A hb i2
   exact ⟨r,zf4 e⟩
theorem zid {a b w : Nat} {x y : Str} (S : ShelfAt h p ps) (g : Good ps) (A : TxZ ps a x) (B : TxZ ps b y) (hw : w = 1 \/ w = 2) : ∃ r,yas [.ref p,.int a,.int b,.int w] h = .ok (.fl []) (h++r):=by
 rcases hw with rfl | rfl
 ·obtain ⟨r,q,e,_⟩:=zh6 (its:=[]) (v:=.fl []) (w:=none) S g A B .fl (fun _ z=>(nomatch z))
  exact ⟨r,zjp e⟩
 ·obtain ⟨r,q,e,_⟩:=zh7 (its:=[]) (v:=.fl []) (w:=none) (c := "") (d := "a") S g A B .fl (fun _ z=>(nomatch z))
  exact ⟨r,zjq e⟩
theorem zcQ {a b : Nat} {x y : Str} (S : ShelfAt h p ps) (g : Good ps) (A : TxZ ps a x) (B : TxZ ps b y) (lx : x.length <= 10000) (ly : y.length <= 10000) :
  ∃ (r : AH) (t : List AV),yaj [.ref p,.int a,.int b] h = .ok (.tup (.str (if x = y then "alike" else "apart") :: t)) (h++r):=by
 obtain ⟨r,its,I,_,_,⟨e,q⟩ | ⟨c,d,e,q⟩⟩:=yhw S g A B lx ly
 ·rw [if_pos (yis g A B q)]
  exact ⟨r,_,e⟩
 ·rw [if_neg (yhA g A B q)]
  exact ⟨r,_,e⟩
theorem zhb {a b : Nat} {x y : Str} (S : ShelfAt h p ps) (A : TxZ ps a x) (B : TxZ ps b y) (ne : ¬ x.length = y.length) (l : 10000 < max x.length y.length) : yaj [.ref p,.int a,.int b] h = .ex 5 h:=by
 obtain ⟨ma,ea,sa⟩:=A.meas
 obtain ⟨mb,eb,sb⟩:=B.meas
 have e1:=zav S ea
 have e2:=zav S eb
 have ab : ¬ a = b:=fun z=>by
  subst z
  rw [ea] at eb
  cases eb
  exact ne (sa.symm.trans sb)
 have n1 : fNe (.int a) (.int b) h = .ok (.bl true) h:=by
  have : ¬ (a : Int) = b:=by lia
  simp [this,ab]
 obtain ⟨M,eM⟩ : ∃ M : Int,M = max (ma.sg : Int) mb.sg:=⟨_,rfl⟩
 have mx : ybN [.int ma.sg,.int mb.sg] h = .ok (.int M) h:=by
  have : (if (mb.sg : Int) > ma.sg then (mb.sg : Int) else ma.sg) = M:=by rw [eM]; split<;>lia
  simp only [ybN,this]
 have gt : fGt (.int M) (.int 10000) h = .ok (.bl true) h:=by
  have : M > 10000:=by rw [eM]; lia
  simp only [fGt,this,decide_true]
 simp [yaj,S.ob,e1,e2,mx,n1,gt,-ybN,-fNe,-fGt]
theorem zie {c : SB} {b : SS} {en : En} (e : c en h = .ok false h) : yar c b yaQ en h = .nx en h:=by
 obtain ⟨e',h',r1,rfl,rfl⟩:=zfy (c:=c) (b:=b) (fuel:=yaQ) (n:=0) (en:=en) (h:=h) (fun _ en' hh=>hh = h /\ en' = en) (fun en' hh=>hh = h /\ en' = en) ⟨rfl,rfl⟩ (by decide) (by
  rintro N en' hh ⟨rfl,rfl⟩
  rw [e]
  exact ⟨rfl,rfl⟩)
 exact r1
end
theorem zhc {h : AH} {p L R a : Nat} (eL : h[L]? = some (.lst [.int a])) (eR : h[R]? = some (.lst [.int a])) (ne : L ≠ R) : ya9 [.ref p,.ref L,.ref R] h = .ok (.int a) ((h.set R (.lst [])).set L (.lst [])):=by
 have ng : fNeg (.int 1) h = .ok (.int (-1)) h:=rfl
 have x1 : fIx (.ref L) (.int (-1)) h = .ok (.int a) h:=by
  have : atI [AV.int a] (-1) = some (.int a):=rfl
  simp only [fIx,eL,this]
 have x2 : fIx (.ref R) (.int (-1)) h = .ok (.int a) h:=by
  have : atI [AV.int a] (-1) = some (.int a):=rfl
  simp only [fIx,eR,this]
 have n1 : fNe (.int a) (.int a) h = .ok (.bl false) h:=by simp
 have c : yaq (sOp2 fNe (sOp2 fIx (sVar 1) (sOp1 fNeg (sLit (.int 1)))) (sOp2 fIx (sVar 2) (sOp1 fNeg (sLit (.int 1))))) [some (.ref p),some (.ref L),some (.ref R),none,none,none] h = .ok false h:=by
  simp [ng,x1,x2,n1,-fIx,-fNe,-fNeg]
 have w:=zie (b:=ya5) c
 have eL2 : (h.set R (.lst []))[L]? = some (.lst [.int a]):=by rw [List.getElem?_set_ne (Ne.symm ne)]; exact eL
 have i1 : yay (.ref R) h = true:=by simp [eR]
 have i2 : yay (.ref L) (h.set R (.lst [])) = true:=by simp [eL2]
 have p1 : mPop (.ref R) [] h = .ok (.int a) (h.set R (.lst [])):=by simp [mPop,eR]
 have p2 : mPop (.ref L) [] (h.set R (.lst [])) = .ok (.int a) ((h.set R (.lst [])).set L (.lst [])):=by simp [mPop,eL2]
 unfold ya9
 generalize yar (yaq (sOp2 fNe (sOp2 fIx (sVar 1) (sOp1 fNeg (sLit (.int 1)))) (sOp2 fIx (sVar 2) (sOp1 fNeg (sLit (.int 1)))))) ya5 yaQ = WH at *
 generalize (h.set R (.lst [])).set L (.lst []) = h2 at *
 generalize h.set R (.lst []) = h1 at *
 simp [w,i1,i2,p1,p2,-yay,-mPop]
theorem zgs {h : AH} {p L R a : Nat} (eL : h[L]? = some (.lst [.int a])) (eR : h[R]? = some (.lst [.int a])) (ne : L ≠ R) :
  ∃ h' : AH,ybx [.ref p,.ref L,.ref R] h = .ok (.ref h.length) h' /\ h'[L]? = some (.lst []) /\ h'[R]? = some (.lst []) /\ ∀ i,i ≠ L -> i ≠ R -> i < h.length -> h'[i]? = h[i]? := by
 have Ll:=yaL eL
 have Rl:=yaL eR
 obtain ⟨h0,eh0⟩ : ∃ h0,h0 = h++[AO.lst []]:=⟨_,rfl⟩
 have L0 : h0[L]? = some (.lst [.int a]):=by rw [eh0,List.getElem?_append_left Ll]; exact eL
 have R0 : h0[R]? = some (.lst [.int a]):=by rw [eh0,List.getElem?_append_left Rl]; exact eR
 have I0 : h0[h.length]? = some (.lst []):=by rw [eh0]; simp
 obtain ⟨h1,eh1⟩ : ∃ h1,h1 = (h0.set R (.lst [])).set L (.lst []):=⟨_,rfl⟩
 have it:=zhc (p:=p) L0 R0 ne
 rw [<- eh1] at it
 have k1 : ∀ i,i ≠ L -> i ≠ R -> h1[i]? = h0[i]? := fun i n1 n2=>by rw [eh1,List.getElem?_set_ne (Ne.symm n1),List.getElem?_set_ne (Ne.symm n2)]
 have L1 : h1[L]? = some (.lst []):=by rw [eh1]; exact List.getElem?_set_self (by rw [List.length_set]; exact yaL L0)
 have R1 : h1[R]? = some (.lst []):=by rw [eh1,List.getElem?_set_ne ne]; exact List.getElem?_set_self (yaL R0)
 have I1 : h1[h.length]? = some (.lst []):=(k1 _ (by lia) (by lia)).trans I0
 obtain ⟨h2,eh2⟩ : ∃ h2,h2 = h1.set h.length (.lst [.int a]):=⟨_,rfl⟩
 have L2 : h2[L]? = some (.lst []):=by rw [eh2,List.getElem?_set_ne (by lia)]; exact L1
 have R2 : h2[R]? = some (.lst []):=by rw [eh2,List.getElem?_set_ne (by lia)]; exact R1
 have ap : yaA (.ref h.length) [.int a] h1 = .ok .non h2:=by
  have : ([] : List AV).length < sizeLine:=by decide
  rw [eh2]
  simp only [yaA,I1,this,if_true]; rfl
 have is1 : yay (.ref h.length) h1 = true:=by simp [I1]
 have neL : ∀ {hh : AH} {K : Nat} {l : List AV},hh[K]? = some (.lst l) -> l = [] \/ l = [.int a] -> fNe (.ref K) (.fl []) hh = .ok (.bl (decide (¬ l = []))) hh:=by
  intro hh K l e q
  have t0 : toD 8 hh (.fl []) = some (.list []):=rfl
  rcases q with rfl | rfl
  ·have t : toD 8 hh (.ref K) = some (.list []):=by simp [toD,e,toDs]
   have q : eqA (.ref K) (.fl []) hh = some true:=by
    show (match toD 8 hh (.ref K),toD 8 hh (.fl []) with | some d,some e=>some (PyData.eqv d e) | _,_=>none) = _
    rw [t,t0]
    simp [PyData.eqv,PyData.eqvAll]
   show (match eqA (.ref K) (.fl []) hh with | some b=>Out.ok (AV.bl (!b)) hh | none=>Out.bad) = _
   rw [q]; rfl
  ·have t : toD 8 hh (.ref K) = some (.list [.int a]):=by simp [toD,e,toDs]
   have q : eqA (.ref K) (.fl []) hh = some false:=by
    show (match toD 8 hh (.ref K),toD 8 hh (.fl []) with | some d,some e=>some (PyData.eqv d e) | _,_=>none) = _
    rw [t,t0]
    simp [PyData.eqv,PyData.eqvAll]
   show (match eqA (.ref K) (.fl []) hh with | some b=>Out.ok (AV.bl (!b)) hh | none=>Out.bad) = _
   rw [q]; rfl
 have ea : fEq (.int a) (.str "") h1 = .ok (.bl false) h1:=by
  have q : eqA (.int a) (.str "") h1 = some false:=by
   show some (PyData.eqv (.int a) (.str "")) = some false
   simp [PyData.eqv]
  show (match eqA (.int a) (.str "") h1 with | some b=>Out.ok (AV.bl b) h1 | none=>Out.bad) = _
  rw [q]
 obtain ⟨e',h',r1,rfl,o4,rfl⟩:=zfy (c:=sAnd (yaq (sOp2 fNe (sVar 1) (sLst sNil))) (yaq (sOp2 fNe (sVar 2) (sLst sNil)))) (b:=yaD) (fuel:=yaQ) (n:=1) (en:=[some (.ref p),some (.ref L),some (.ref R),some (.ref h.length),none]) (h:=h0)
  (fun N en hh=>(N = 1 /\ hh = h0 /\ en = [some (.ref p),some (.ref L),some (.ref R),some (.ref h.length),none]) \/ (N = 0 /\ hh = h2 /\ ∃ o4,en = [some (.ref p),some (.ref L),some (.ref R),some (.ref h.length),o4]))
  (fun en hh=>hh = h2 /\ ∃ o4,en = [some (.ref p),some (.ref L),some (.ref R),some (.ref h.length),o4]) (.inl ⟨rfl,rfl,rfl⟩) (by decide) (by
   rintro N en hh (⟨rfl,rfl,rfl⟩ | ⟨rfl,rfl,o4,rfl⟩)
   ·have n1:=neL L0 (.inr rfl)
    have n2:=neL R0 (.inr rfl)
    rw [decide_eq_true (by simp)] at n1 n2
    have c : (sAnd (yaq (sOp2 fNe (sVar 1) (sLst sNil))) (yaq (sOp2 fNe (sVar 2) (sLst sNil)))) [some (.ref p),some (.ref L),some (.ref R),some (.ref h.length),none] hh = .ok true hh:=by
     simp [n1,n2,-fNe]
    rw [c]
    have eB : yaD [some (.ref p),some (.ref L),some (.ref R),some (.ref h.length),none] hh = .nx [some (.ref p),some (.ref L),some (.ref R),some (.ref h.length),some (.int a)] h2:=by
     unfold yaD
     generalize ya9 = FC at *
     simp [it,ea,is1,ap,-fEq,-yay,-yaA]
    show thn (yaD _ hh) _
    rw [eB]
    exact ⟨0,by decide,.inr ⟨rfl,rfl,_,rfl⟩⟩
   ·have n1:=neL L2 (.inl rfl)
    rw [decide_eq_false (by simp)] at n1
    have c : (sAnd (yaq (sOp2 fNe (sVar 1) (sLst sNil))) (yaq (sOp2 fNe (sVar 2) (sLst sNil)))) [some (.ref p),some (.ref L),some (.ref R),some (.ref h.length),o4] hh = .ok false hh:=by
     simp [n1,-fNe]
    rw [c]
    exact ⟨rfl,o4,rfl⟩)
 refine ⟨h',?_,L2,R2,fun i n1 n2 hi=>by rw [eh2,List.getElem?_set_ne (by lia),k1 i n1 n2,eh0,List.getElem?_append_left hi]⟩
 rw [eh0] at r1
 unfold ybx
 generalize yar (sAnd (yaq (sOp2 fNe (sVar 1) (sLst sNil))) (yaq (sOp2 fNe (sVar 2) (sLst sNil)))) yaD yaQ = WH at *
 simp [r1]
end Sk
namespace Sk
open PySem PySem.Spec L2 Sm
structure Kf (h h' : AH) : Prop where
 fr : ∀ i,i < h.length -> h'[i]? = h[i]?
 hl : h.length <= h'.length
theorem Kf.refl (h : AH) : Kf h h:=⟨fun _ _=>rfl,Nat.le_refl _⟩
theorem Kf.app (h r : AH) : Kf h (h++r):=⟨fun i hi=>List.getElem?_append_left hi,by rw [List.length_append]; lia⟩
theorem Kf.trans {h h' h'' : AH} (a : Kf h h') (b : Kf h' h'') : Kf h h'' := ⟨fun i hi=>(b.fr i (Nat.lt_of_lt_of_le hi a.hl)).trans (a.fr i hi),Nat.le_trans a.hl b.hl⟩
theorem Kf.sh {h h' : AH} {p : Nat} {ps : List Pc} (a : Kf h h') (S : ShelfAt h p ps) : ShelfAt h' p ps:=S.keep fun i _ i8=>a.fr i (by have:=yaL S.h8; lia)
theorem zeL {h : AH} {p t : Nat} {ps : List Pc} {m f l : Ms} {x : Str} (S : ShelfAt h p ps) (T : Tx ps t m x f l) : yaW [.ref p,.int t] h = .ok (.ref h.length) (h++[.lst [.int t]]):=by
 have t1:=T.n1
 have t0 : fEq (.int t) (.int 0) h = .ok (.bl false) h:=by
  have:=eq_n t 0 h
  rw [decide_eq_false (by lia)] at this
  exact this
 have ck : yax [.ref p,.int t] h = .ok .non h:=zaN S (by have:=T.le; lia)
 simp [yaW,S.ob,ck,t0,-fEq]
theorem eqE {hh : AH} {K : Nat} (e : hh[K]? = some (.lst [])) : fEq (.ref K) (.fl []) hh = .ok (.bl true) hh:=by
 have t0 : toD 8 hh (.fl []) = some (.list []):=rfl
 have t : toD 8 hh (.ref K) = some (.list []):=by simp [toD,e,toDs]
 have q : eqA (.ref K) (.fl []) hh = some true:=by
  show (match toD 8 hh (.ref K),toD 8 hh (.fl []) with | some d,some e=>some (PyData.eqv d e) | _,_=>none) = _
  rw [t,t0]
  simp [PyData.eqv,PyData.eqvAll]
 show (match eqA (.ref K) (.fl []) hh with | some b=>Out.ok (AV.bl b) hh | none=>Out.bad) = _
 rw [q]
theorem zd1 {h : AH} {p a : Nat} {ps : List Pc} {m f l : Ms} {x : Str} (S : ShelfAt h p ps) (A : Tx ps a m x f l) : ∃ (v : AV) (h' : AH),yaj [.ref p,.int a,.int a] h = .ok (.tup [.str "alike",v]) h' /\ Kf h h' := by
 have fs:=zav S A.ms
 have mx : ybN [.int m.sg,.int m.sg] h = .ok (.int m.sg) h:=by
  have : (if (m.sg : Int) > m.sg then (m.sg : Int) else m.sg) = m.sg:=by split<;>rfl
  simp only [ybN,this]
 have ne : fNe (.int a) (.int a) h = .ok (.bl false) h:=by simp
 have w1:=zeL S A
 have w2:=zeL (S.app [.lst [.int a]]) A
 obtain ⟨h2,eh2⟩ : ∃ h2,h2 = (h++[AO.lst [.int a]])++[AO.lst [.int a]]:=⟨_,rfl⟩
 rw [<- eh2] at w2
 have l1 : (h++[AO.lst [.int a]]).length = h.length + 1:=by simp
 rw [l1] at w2
 have eL : h2[h.length]? = some (.lst [.int a]):=by rw [eh2,List.getElem?_append_left (by rw [l1]; lia)]; simp
 have eR : h2[h.length + 1]? = some (.lst [.int a]):=by rw [eh2,<- l1]; simp
 obtain ⟨h3,e3,L3,R3,k3⟩:=zgs (p:=p) eL eR (by lia)
 have q1:=eqE L3
 have q2:=eqE R3
 have l2 : h2.length = h.length + 2:=by rw [eh2]; simp
 refine ⟨.ref h2.length,h3,?_,⟨fun i hi=>?_,?_⟩⟩
 ·have ob:=S.ob
  clear k3 L3 R3 eL eR eh2 l2 l1
  unfold yaj
  generalize ybx = FC at *
  generalize yaW = FW at *
  generalize ybh = FN at *
  simp [ob,fs,mx,ne,w1,w2,e3,q1,q2,-ybN,-fNe,-fEq]
 ·rw [k3 i (by lia) (by lia) (by lia),eh2,List.append_assoc,List.getElem?_append_left hi]
 ·have:=yaL R3
  lia
theorem mulK {x : Str} {k : Nat} (lx : x.length = 1) (hk : k <= 10000) (h : AH) : ycj (.str x) (.int k) h = .ok (.str (repS x k)) h:=by
 have c1 : ((k : Nat) : Int).natAbs < 2 ^ 40:=by
  have : ((k : Nat) : Int).natAbs = k:=by lia
  rw [this]; exact Nat.lt_of_le_of_lt hk (by decide)
 have c2 : ((k : Nat) : Int).toNat = k:=by lia
 have c3 : x.length * k <= 1000000:=by rw [lx]; lia
 show (if ((k : Nat) : Int).natAbs < 2 ^ 40 /\ x.length * ((k : Nat) : Int).toNat <= 1000000 then Out.ok (AV.str (repS x ((k : Nat) : Int).toNat)) h else .bad) = _
 rw [c2,if_pos ⟨c1,c3⟩]
def One (c : Nat) (x : Str) (n : Nat) : Prop:=x.cps.toList = List.replicate n c
theorem One.len {c n : Nat} {x : Str} (o : One c x n) : x.length = n:=by rw [zad,o,List.length_replicate]
theorem One.app {c n m : Nat} {x y : Str} (a : One c x n) (b : One c y m) : One c (x++y) (n + m):=by
 unfold One at *
 rw [zal,a,b,List.replicate_append_replicate]
theorem One.rep {c n : Nat} {x : Str} (a : One c x n) : ∀ k,One c (repS x k) (n * k)
 | 0=>by unfold One; rw [zbV]; rfl
 | k + 1=>by
  rw [<- zbE,zco,Nat.mul_succ]
  exact (a.rep k).app a
theorem One.plain {c n : Nat} {x : Str} (a : One c x n) (pc : ydo c = true) : yaC x = true:=by
 unfold yaC
 rw [a,List.all_eq_true]
 intro d hd
 rw [List.eq_of_mem_replicate hd]; exact pc
theorem zds (l : List AV) (bs : List Bool) (e : l = bs.map AV.bl) (h : AH) : fNe (.fl l) (.fl l) h = .ok (.bl false) h:=by
 subst e
 have t : ∀ bs : List Bool,toDs (toD 7 h) (bs.map AV.bl) = some (bs.map PyData.bool):=by
  intro bs
  induction bs with
  | nil=>rfl
  | cons b bs ih =>
   rw [List.map_cons,List.map_cons]
   show (match toD 7 h (.bl b),toDs (toD 7 h) (bs.map AV.bl) with | some d,some ds=>some (d :: ds) | _,_=>none) = _
   rw [ih]; rfl
 have t8 : toD 8 h (.fl (bs.map AV.bl)) = some (.list (bs.map PyData.bool)):=by
  show (toDs (toD 7 h) (bs.map AV.bl)).map PyData.list = _
  rw [t]; rfl
 have q : ∀ bs : List Bool,PyData.eqvAll (bs.map PyData.bool) (bs.map PyData.bool) = true:=by
  intro bs
  induction bs with
  | nil=>simp [PyData.eqvAll]
  | cons b bs ih=>cases b<;>simp [PyData.eqvAll,PyData.eqv,ih]
 have e : eqA (.fl (bs.map AV.bl)) (.fl (bs.map AV.bl)) h = some true:=by
  show (match toD 8 h (.fl (bs.map AV.bl)),toD 8 h (.fl (bs.map AV.bl)) with | some d,some e=>some (PyData.eqv d e) | _,_=>none) = _
  rw [t8]
  show some (PyData.eqv (.list _) (.list _)) = _
  rw [PyData.eqv,q]
 show (match eqA (.fl (bs.map AV.bl)) (.fl (bs.map AV.bl)) h with | some b=>Out.ok (AV.bl (!b)) h | none=>Out.bad) = _
 rw [e]; rfl
abbrev eB (V : List (Option AV)) (o11 o12 o13 : Option AV) : En:=[V.getD 0 none,V.getD 1 none,some (.ref 1),V.getD 2 none,V.getD 3 none,V.getD 4 none,V.getD 5 none,V.getD 6 none,V.getD 7 none,V.getD 8 none,V.getD 9 none,o11,o12,o13]
abbrev pvq (q : Int × Int) : AV:=.tup [.int q.1,.int q.2]
def ycq (ps : List Pc) (i j : Int) (w : Nat) (l : List Bool) : Prop:=∀ h : AH,ShelfAt h 1 ps -> ∃ h',yas [.ref 1,.int i,.int j,.int w] h = .ok (.fl (l.map AV.bl)) h' /\ Kf h h'
theorem lp1 {V : List (Option AV)} {ps : List Pc} {w : Nat} {o11 o13 : Option AV} {h : AH} (S : ShelfAt h 1 ps) (qs : List (Int × Int)) (hq : ∀ q ∈ qs,ycq ps q.1 q.2 w [true,false,true,false]) :
  ∃ (h' : AH) (o : Option AV),ya3 none (qs.map pvq) (.nm 13) ycP (qs.map pvq) (eB V o11 (some (.int w)) o13) h = .nx (eB V o11 (some (.int w)) o) h' /\ Kf h h' := by
 obtain ⟨e',h',r1,r2⟩:=ydk (w:=none) (all:=qs.map pvq) (t:=.nm 13) (b:=ycP) (xs:=qs.map pvq) (en:=eB V o11 (some (.int w)) o13) (h:=h)
  (fun _ en hh=>Kf h hh /\ ∃ o,en = eB V o11 (some (.int w)) o) ⟨.refl h,o13,rfl⟩ (fun _ _ _ _=>rfl) (by
   rintro j u en hh hu ⟨k,o,rfl⟩
   rw [List.getElem?_map] at hu
   obtain ⟨q,eq,rfl⟩:=Option.map_eq_some_iff.mp hu
   obtain ⟨h2,e,k2⟩:=hq q (List.mem_of_getElem? eq) hh (k.sh S)
   have e' : yas [.ref 1,.int q.1,.int q.2,.int w] hh = .ok (.fl [.bl true,.bl false,.bl true,.bl false]) h2:=e
   have ne:=zds [.bl true,.bl false,.bl true,.bl false] [true,false,true,false] rfl h2
   have x0 : fIx (pvq q) (.int 0) hh = .ok (.int q.1) hh:=rfl
   have x1 : fIx (pvq q) (.int 1) hh = .ok (.int q.2) hh:=rfl
   have eb : ycP (eB V o11 (some (.int w)) (some (pvq q))) hh = .nx (eB V o11 (some (.int w)) (some (pvq q))) h2:=by
    unfold ycP
    generalize yas = FR at *
    generalize pvq q = PV at *
    simp only [eB]
    simp [x0,x1,e',ne,-fIx,-fNe]
   show thn (ycP (eB V o11 (some (.int w)) (some (pvq q))) hh) _
   rw [eb]
   exact ⟨k.trans k2,_,rfl⟩)
 obtain ⟨k,o,rfl⟩:=r2
 exact ⟨h',o,r1,k⟩
theorem lp6 {V : List (Option AV)} {ps : List Pc} {q : Int × Int} {o11 o12 : Option AV} {h : AH} (S : ShelfAt h 1 ps) (ws : List Nat) (hq : ∀ w ∈ ws,ycq ps q.1 q.2 w []) {B : SS} (hB : B = ydO) :
  ∃ (h' : AH) (o : Option AV),ya3 none (ws.map fun w : Nat=>AV.int w) (.nm 12) B (ws.map fun w : Nat=>AV.int w) (eB V o11 o12 (some (pvq q))) h = .nx (eB V o11 o (some (pvq q))) h' /\ Kf h h' := by
 obtain ⟨e',h',r1,r2⟩:=ydk (w:=none) (all:=ws.map fun w : Nat=>AV.int w) (t:=.nm 12) (b:=B) (xs:=ws.map fun w : Nat=>AV.int w) (en:=eB V o11 o12 (some (pvq q))) (h:=h)
  (fun _ en hh=>Kf h hh /\ ∃ o,en = eB V o11 o (some (pvq q))) ⟨.refl h,o12,rfl⟩ (fun _ _ _ _=>rfl) (by
   rintro j u en hh hu ⟨k,o,rfl⟩
   rw [List.getElem?_map] at hu
   obtain ⟨w,eq,rfl⟩:=Option.map_eq_some_iff.mp hu
   obtain ⟨h2,e,k2⟩:=hq w (List.mem_of_getElem? eq) hh (k.sh S)
   have e' : yas [.ref 1,.int q.1,.int q.2,.int w] hh = .ok (.fl []) h2:=e
   have ne:=zds [] [] rfl h2
   have x0 : fIx (pvq q) (.int 0) hh = .ok (.int q.1) hh:=rfl
   have x1 : fIx (pvq q) (.int 1) hh = .ok (.int q.2) hh:=rfl
   have eb : B (eB V o11 (some (.int w)) (some (pvq q))) hh = .nx (eB V o11 (some (.int w)) (some (pvq q))) h2:=by
    rw [hB]
    unfold ydO
    generalize yas = FR at *
    generalize pvq q = PV at *
    simp only [eB]
    simp [x0,x1,e',ne,-fIx,-fNe]
   show thn (B (eB V o11 (some (.int w)) (some (pvq q))) hh) _
   rw [eb]
   exact ⟨k.trans k2,_,rfl⟩)
 obtain ⟨k,o,rfl⟩:=r2
 exact ⟨h',o,r1,k⟩
theorem B46 : yd9 = ydO:=rfl
theorem r3 : ybk 0 3 = ([0,1,2] : List Nat).map fun w : Nat=>AV.int w:=rfl
theorem lp7 {V : List (Option AV)} {ps : List Pc} {o11 o12 o13 : Option AV} {h : AH} (S : ShelfAt h 1 ps) (qs : List (Int × Int)) (hq : ∀ q ∈ qs,∀ w,w < 3 -> ycq ps q.1 q.2 w []) :
  ∃ (h' : AH) (o o' : Option AV),ya3 none (qs.map pvq) (.nm 13) ycQ (qs.map pvq) (eB V o11 o12 o13) h = .nx (eB V o11 o o') h' /\ Kf h h' := by
 obtain ⟨e',h',r1,r2⟩:=ydk (w:=none) (all:=qs.map pvq) (t:=.nm 13) (b:=ycQ) (xs:=qs.map pvq) (en:=eB V o11 o12 o13) (h:=h)
  (fun _ en hh=>Kf h hh /\ ∃ o o',en = eB V o11 o o') ⟨.refl h,o12,o13,rfl⟩ (fun _ _ _ _=>rfl) (by
   rintro j u en hh hu ⟨k,o,o',rfl⟩
   rw [List.getElem?_map] at hu
   obtain ⟨q,eq,rfl⟩:=Option.map_eq_some_iff.mp hu
   obtain ⟨h2,o2,e,k2⟩:=lp6 (V:=V) (o11:=o11) (o12:=o) (q:=q) (k.sh S) [0,1,2] (fun w hw=>hq q (List.mem_of_getElem? eq) w (by simp at hw; lia)) rfl
   have f1:=(ybV (t:=.nm 12) (b:=ydO) (zbp (a:=sLit (.int 3)) (en:=eB V o11 o (some (pvq q))) (h:=hh) (n:=3) rfl (by decide))).trans (r3 ▸ e)
   show thn (ycQ (eB V o11 o (some (pvq q))) hh) _
   unfold ycQ
   rw [f1]
   exact ⟨k.trans k2,_,_,rfl⟩)
 obtain ⟨k,o,o',rfl⟩:=r2
 exact ⟨h',o,o',r1,k⟩
theorem lp5 {V : List (Option AV)} {ps : List Pc} {o11 o12 o13 : Option AV} {h : AH} (S : ShelfAt h 1 ps) (qs : List (Int × Int)) (hq : ∀ q ∈ qs,ycq ps q.1 q.2 0 [false,true,true,false] /\ ∀ w,w = 1 \/ w = 2 -> ycq ps q.1 q.2 w []) :
  ∃ (h' : AH) (o o' : Option AV),ya3 none (qs.map pvq) (.nm 13) ycv (qs.map pvq) (eB V o11 o12 o13) h = .nx (eB V o11 o o') h' /\ Kf h h' := by
 obtain ⟨e',h',r1,r2⟩:=ydk (w:=none) (all:=qs.map pvq) (t:=.nm 13) (b:=ycv) (xs:=qs.map pvq) (en:=eB V o11 o12 o13) (h:=h)
  (fun _ en hh=>Kf h hh /\ ∃ o o',en = eB V o11 o o') ⟨.refl h,o12,o13,rfl⟩ (fun _ _ _ _=>rfl) (by
   rintro j u en hh hu ⟨k,o,o',rfl⟩
   rw [List.getElem?_map] at hu
   obtain ⟨q,eq,rfl⟩:=Option.map_eq_some_iff.mp hu
   obtain ⟨t0,t1⟩:=hq q (List.mem_of_getElem? eq)
   obtain ⟨h1,e1,k1⟩:=t0 hh (k.sh S)
   have e1' : yas [.ref 1,.int q.1,.int q.2,.int 0] hh = .ok (.fl [.bl false,.bl true,.bl true,.bl false]) h1:=e1
   have ne:=zds [.bl false,.bl true,.bl true,.bl false] [false,true,true,false] rfl h1
   have x0 : fIx (pvq q) (.int 0) hh = .ok (.int q.1) hh:=rfl
   have x1 : fIx (pvq q) (.int 1) hh = .ok (.int q.2) hh:=rfl
   obtain ⟨h2,o2,e,k2⟩:=lp6 (V:=V) (o11:=o11) (o12:=o) (q:=q) ((k.trans k1).sh S) [1,2] (fun w hw=>t1 w (by simp at hw; lia)) B46
   have it : iVal (sLst (yaa (sLit (.int 1)) (yaa (sLit (.int 2)) sNil))) (eB V o11 o (some (pvq q))) h1 = .ok ([1,2].map fun w : Nat=>AV.int w,none) h1:=rfl
   have f1:=(ybV (t:=.nm 12) (b:=yd9) it).trans e
   have eb : ycv (eB V o11 o (some (pvq q))) hh = .nx (eB V o11 o2 (some (pvq q))) h2:=by
    unfold ycv
    generalize sFor (iVal (sLst (yaa (sLit (.int 1)) (yaa (sLit (.int 2)) sNil)))) (.nm 12) yd9 = FO at *
    generalize yas = FR at *
    generalize pvq q = PV at *
    simp only [eB] at *
    generalize V.getD 0 none = v0 at *
    generalize V.getD 1 none = v1 at *
    generalize V.getD 2 none = v2 at *
    generalize V.getD 3 none = v3 at *
    generalize V.getD 4 none = v4 at *
    generalize V.getD 5 none = v5 at *
    generalize V.getD 6 none = v6 at *
    generalize V.getD 7 none = v7 at *
    generalize V.getD 8 none = v8 at *
    generalize V.getD 9 none = v9 at *
    simp [x0,x1,e1',ne,f1,-fIx,-fNe]
   show thn (ycv (eB V o11 o (some (pvq q))) hh) _
   rw [eb]
   exact ⟨(k.trans k1).trans k2,_,_,rfl⟩)
 obtain ⟨k,o,o',rfl⟩:=r2
 exact ⟨h',o,o',r1,k⟩
end Sk
namespace Sk
open PySem PySem.Spec L2 Sm
theorem lp2 {V : List (Option AV)} {ps : List Pc} {bad : Int} {o12 o13 : Option AV} {h : AH} (S : ShelfAt h 1 ps) (qs : List (Int × Int)) (hq : ∀ q ∈ qs,∀ w,w < 3 -> ycq ps q.1 q.2 w [true,false,true,false])
  (it : ∀ o12 o13 hh,iVal (sLst (yaa (sTup (yaa (sVar 11) (yaa (sVar 3) sNil))) (yaa (sTup (yaa (sVar 3) (yaa (sVar 11) sNil))) (yaa (sTup (yaa (sVar 11) (yaa (sLit (.int 0)) sNil))) (yaa (sTup (yaa (sLit (.int 0)) (yaa (sVar 11) sNil))) (yaa (sTup (yaa (sVar 11) (yaa (sVar 11) sNil))) (yaa (sTup (yaa (sVar 11) (yaa (sVar 8) sNil))) (yaa (sTup (yaa (sVar 7) (yaa (sVar 11) sNil))) sNil)))))))) (eB V (some (.int bad)) o12 o13) hh = .ok (qs.map pvq,none) hh) :
  ∃ (h' : AH) (o o' : Option AV),ycu (eB V (some (.int bad)) o12 o13) h = .nx (eB V (some (.int bad)) o o') h' /\ Kf h h' := by
 obtain ⟨e',h',r1,r2⟩:=ydk (w:=none) (all:=([0,1,2] : List Nat).map fun w : Nat=>AV.int w) (t:=.nm 12) (b:=ydN) (xs:=([0,1,2] : List Nat).map fun w : Nat=>AV.int w) (en:=eB V (some (.int bad)) o12 o13) (h:=h)
  (fun _ en hh=>Kf h hh /\ ∃ o o',en = eB V (some (.int bad)) o o') ⟨.refl h,o12,o13,rfl⟩ (fun _ _ _ _=>rfl) (by
   rintro j u en hh hu ⟨k,o,o',rfl⟩
   rw [List.getElem?_map] at hu
   obtain ⟨w,eq,rfl⟩:=Option.map_eq_some_iff.mp hu
   have hw : w < 3:=by
    have:=List.mem_of_getElem? eq
    simp at this
    lia
   obtain ⟨h2,o2,e,k2⟩:=lp1 (V:=V) (w:=w) (o11:=some (.int bad)) (o13:=o') (k.sh S) qs (fun q h=>hq q h w hw)
   have f1:=(ybV (t:=.nm 13) (b:=ycP) (it (some (.int w)) o' hh)).trans e
   show thn (ydN (eB V (some (.int bad)) (some (.int w)) o') hh) _
   unfold ydN
   rw [f1]
   exact ⟨k.trans k2,_,_,rfl⟩)
 obtain ⟨k,o,o',rfl⟩:=r2
 refine ⟨h',o,o',?_,k⟩
 have f1:=(ybV (t:=.nm 12) (b:=ydN) (zbp (a:=sLit (.int 3)) (en:=eB V (some (.int bad)) o12 o13) (h:=h) (n:=3) rfl (by decide))).trans (r3 ▸ r1)
 unfold ycu
 exact f1
theorem lp3 {V : List (Option AV)} {ps : List Pc} {o11 o12 o13 : Option AV} {h : AH} (S : ShelfAt h 1 ps) (bs : List Int) (qs : Int -> List (Int × Int)) (hq : ∀ b ∈ bs,∀ q ∈ qs b,∀ w,w < 3 -> ycq ps q.1 q.2 w [true,false,true,false])
  (it : ∀ b o12 o13 hh,iVal (sLst (yaa (sTup (yaa (sVar 11) (yaa (sVar 3) sNil))) (yaa (sTup (yaa (sVar 3) (yaa (sVar 11) sNil))) (yaa (sTup (yaa (sVar 11) (yaa (sLit (.int 0)) sNil))) (yaa (sTup (yaa (sLit (.int 0)) (yaa (sVar 11) sNil))) (yaa (sTup (yaa (sVar 11) (yaa (sVar 11) sNil))) (yaa (sTup (yaa (sVar 11) (yaa (sVar 8) sNil))) (yaa (sTup (yaa (sVar 7) (yaa (sVar 11) sNil))) sNil)))))))) (eB V (some (.int b)) o12 o13) hh = .ok ((qs b).map pvq,none) hh) :
  ∃ (h' : AH) (o o' o'' : Option AV),ya3 none (bs.map AV.int) (.nm 11) ycu (bs.map AV.int) (eB V o11 o12 o13) h = .nx (eB V o o' o'') h' /\ Kf h h' := by
 obtain ⟨e',h',r1,r2⟩:=ydk (w:=none) (all:=bs.map AV.int) (t:=.nm 11) (b:=ycu) (xs:=bs.map AV.int) (en:=eB V o11 o12 o13) (h:=h)
  (fun _ en hh=>Kf h hh /\ ∃ o o' o'',en = eB V o o' o'') ⟨.refl h,o11,o12,o13,rfl⟩ (fun _ _ _ _=>rfl) (by
   rintro j u en hh hu ⟨k,o,o',o'',rfl⟩
   rw [List.getElem?_map] at hu
   obtain ⟨b,eq,rfl⟩:=Option.map_eq_some_iff.mp hu
   obtain ⟨h2,o2,o3,e,k2⟩:=lp2 (V:=V) (bad:=b) (o12:=o') (o13:=o'') (k.sh S) (qs b) (hq b (List.mem_of_getElem? eq)) (it b)
   show thn (ycu (eB V (some (.int b)) o' o'') hh) _
   rw [e]
   exact ⟨k.trans k2,_,_,_,rfl⟩)
 obtain ⟨k,o,o',o'',rfl⟩:=r2
 exact ⟨h',o,o',o'',r1,k⟩
structure Tn (ps : List Pc) (a : Nat) (x : Str) (n : Nat) : Prop where
 tx : TxZ ps a x
 ln : x.length = n
theorem Tn.pre {ps ps' : List Pc} {a : Nat} {x : Str} {n : Nat} (t : Tn ps a x n) (pr : ps <+: ps') : Tn ps' a x n:=⟨t.tx.pre pr,t.ln⟩
theorem zaO {ps : List Pc} (g : Good ps) {i j : Int} {w : Nat} (hw : w < 3) (hb : ¬ (0 <= i /\ i <= ps.length) \/ ((∃ (a : Nat) (x : Str),i = a /\ TxZ ps a x) /\ ¬ (0 <= j /\ j <= ps.length))) : ycq ps i j w [true,false,true,false]:=fun h S=>by
 obtain ⟨r,e⟩:=zjr S g hw hb
 exact ⟨_,e,Kf.app h r⟩
theorem zaF {ps : List Pc} (g : Good ps) {a b w : Nat} {x y : Str} (A : TxZ ps a x) (B : TxZ ps b y) (hw : w = 1 \/ w = 2) : ycq ps a b w []:=fun h S=>by
 obtain ⟨r,e⟩:=zid S g A B hw
 exact ⟨_,e,Kf.app h r⟩
theorem zaR {ps : List Pc} {a b : Nat} {x y : Str} (A : TxZ ps a x) (B : TxZ ps b y) (ne : ¬ x.length = y.length) (l : 10000 < max x.length y.length) : ycq ps a b 0 [false,true,true,false]:=fun h S =>
 ⟨h,zdr (zhb S A B ne l) (.inr rfl),Kf.refl h⟩
theorem zbu {ps : List Pc} (g : Good ps) {a b w : Nat} {x y : Str} (A : TxZ ps a x) (B : TxZ ps b y) (lx : x.length <= 10000) (ly : y.length <= 10000) (hw : w < 3) : ycq ps a b w []:=fun h S=>by
 by_cases q : w = 0
 ·subst q
  obtain ⟨r,t,e⟩:=zcQ S g A B lx ly
  exact ⟨_,zf2 e,Kf.app h r⟩
 ·exact zaF g A B (by lia) h S
theorem zc4 {ps : List Pc} (g : Good ps) {a w : Nat} {x : Str} (A : TxZ ps a x) (l1 : 1 <= x.length) (hw : w < 3) : ycq ps a a w []:=fun h S=>by
 by_cases q : w = 0
 ·subst q
  rcases A with ⟨rfl,rfl⟩ | ⟨m,f,l,A⟩
  ·exact absurd l1 (by decide)
  ·obtain ⟨v,h',e,k⟩:=zd1 S A
   exact ⟨_,zf2 e,k⟩
 ·exact zaF g A A (by lia) h S
end Sk
namespace Sk
open PySem PySem.Spec L2 Sm
theorem law_true (ns : List Int) (hl : ns.length <= 63) : ∃ h',yfh [.fl (ns.map AV.int)] [] = .ok (.bl true) h' := by
 obtain ⟨N,st⟩:=zh9 ns hl 0 (by decide) []
 have st' : ybG [.fl (ns.map AV.int),.int 0] [] = .ok (.ref 0) [.lst [.int N]]:=st
 have mk:=yhj [some (.fl (ns.map AV.int)),some (.ref 0),none,none,none,none,none,none,none,none,none,none,none,none] [.lst [.int N]]
 have S1 : ShelfAt ([AO.lst [.int N]]++ydS 1) 1 []:=by have:=yhk [AO.lst [.int N]] []; simpa using this
 have e1 : ([AO.lst [.int N]]++ydS 1)[0]? = some (.lst [.int N]):=rfl
 have mk' : yen 0 8 ybS sNil [some (.fl (ns.map AV.int)),some (.ref 0),none,none,none,none,none,none,none,none,none,none,none,none] [.lst [.int N]] = .ok (.ref 1) ([AO.lst [.int N]]++ydS 1):=mk
 obtain ⟨H1,eH1⟩ : ∃ H1,H1 = [AO.lst [.int N]]++ydS 1:=⟨_,rfl⟩
 rw [<- eH1] at S1 e1 mk'
 obtain ⟨y,N2,p2,py,ly,_⟩:=zha 30 (by decide) e1
 have p2' : yb4 [.ref 0,.int 30] H1 = .ok (.str y) (H1.set 0 (.lst [.int N2])):=p2
 have S2 : ShelfAt (H1.set 0 (.lst [.int N2])) 1 []:=S1.keep fun i i1 i8=>List.getElem?_set_ne (by lia)
 have e2 : (H1.set 0 (.lst [.int N2]))[0]? = some (.lst [.int N2]):=List.getElem?_set_self (yaL e1)
 generalize H1.set 0 (.lst [.int N2]) = H2 at *
 obtain ⟨x,ex⟩ : ∃ x,x = Str.ofString "x" ++ y:=⟨_,rfl⟩
 have lx1 : (Str.ofString "x").length = 1:=by decide +kernel
 have px1 : yaC "x" = true:=by decide +kernel
 have lx : x.length = 1 + y.length:=by rw [ex,zaq,lx1]
 have px : yaC x = true:=by rw [ex,zaU,px1,py]; rfl
 have ax : fAdd (.str "x") (.str y) H2 = .ok (.str x) H2:=by
  have : (Str.ofString "x").length + y.length <= sizeLine:=Nat.le_trans (m:=1000) (by lia) (by decide)
  rw [ex]
  simp only [fAdd,this,if_true]
 obtain ⟨a3,ps3,H3,f3,D3,T3⟩:=zaY S2 .nil px (by lia) (by simp; lia)
 have z3 : ps3.length <= 62:=by have:=D3.len; simp at this; lia
 have e3 : H3[0]? = some (.lst [.int N2]):=(D3.fr 0 (.inl (by lia))).trans e2
 obtain ⟨v,N4,hv,t4⟩:=zct 6 e3 (by decide) (by decide)
 have t4' : ybi [.ref 0,.int 6] H3 = .ok (.int v) (H3.set 0 (.lst [.int N4])):=t4
 have S4 : ShelfAt (H3.set 0 (.lst [.int N4])) 1 ps3:=D3.sh.keep fun i i1 i8=>List.getElem?_set_ne (by lia)
 generalize H3.set 0 (.lst [.int N4]) = H4 at *
 have ws : yaC "abc\n~ " = true /\ Str.length "abc\n~ " = 6:=by decide +kernel
 obtain ⟨c,_,pc,ic⟩:=zd0 (x := "abc\n~ ") (v:=v) (by rw [ws.2]; exact hv) ws.1 H4
 obtain ⟨s,es⟩ : ∃ s : Str,s = ⟨#[c]⟩:=⟨_,rfl⟩
 rw [<- es] at ic
 have o1 : One c s 1:=by rw [es]; rfl
 have ls1:=o1.len
 have m10 : ∀ hh,ycj (.str s) (.int 10) hh = .ok (.str (repS s 10)) hh:=fun hh=>mulK (k:=10) ls1 (by decide) hh
 have m3 : ∀ hh,ycj (.str s) (.int 3) hh = .ok (.str (repS s 3)) hh:=fun hh=>mulK (k:=3) ls1 (by decide) hh
 have m7 : ∀ hh,ycj (.str s) (.int 7) hh = .ok (.str (repS s 7)) hh:=fun hh=>mulK (k:=7) ls1 (by decide) hh
 have m3004 : ∀ hh,ycj (.str s) (.int 3004) hh = .ok (.str (repS s 3004)) hh:=fun hh=>mulK (k:=3004) ls1 (by decide) hh
 have q10:=o1.rep 10
 have q3:=o1.rep 3
 have q7:=o1.rep 7
 have q3004:=o1.rep 3004
 obtain ⟨x10,ex10⟩ : ∃ z,z = repS s 10:=⟨_,rfl⟩
 obtain ⟨x3,ex3⟩ : ∃ z,z = repS s 3:=⟨_,rfl⟩
 obtain ⟨x7,ex7⟩ : ∃ z,z = repS s 7:=⟨_,rfl⟩
 obtain ⟨xb,exb⟩ : ∃ z,z = repS s 3004:=⟨_,rfl⟩
 rw [<- ex10] at m10 q10
 rw [<- ex3] at m3 q3
 rw [<- ex7] at m7 q7
 rw [<- exb] at m3004 q3004
 clear ex10 ex3 ex7 exb
 have l10:=q10.len
 have l3:=q3.len
 have l7:=q7.len
 have lb:=q3004.len
 obtain ⟨a5,ps5,H5,f5,D5,T5⟩:=zaY S4 D3.gd (q10.plain pc) (by lia) (by lia)
 have z5:=D5.len
 have qf:=q10.rep 1000
 obtain ⟨a6,ps6,H6,d6,T6⟩:=zbW (e:=10) (k:=1000) D5.sh D5.gd T5 (by decide) (by decide) (by rw [l10]; decide) (by lia)
 have z6:=d6.dd.len
 have f6 : ybn [.ref 1,.int a5,.int 1000] H5 = .ok (.int a6) H6:=d6.ev
 obtain ⟨xf,exf⟩ : ∃ z,z = repS x10 1000:=⟨_,rfl⟩
 rw [<- exf] at qf T6
 clear exf
 have lf:=qf.len
 obtain ⟨a7,ps7,H7,f7,D7,T7⟩:=zaY d6.dd.sh d6.dd.gd (q3.plain pc) (by lia) (by lia)
 have z7:=D7.len
 obtain ⟨a8,ps8,H8,f8,D8,T8⟩:=zaY D7.sh D7.gd (q7.plain pc) (by lia) (by lia)
 have z8:=D8.len
 have q9:=q7.rep 999
 obtain ⟨a9,ps9,H9,d9,T9⟩:=zbW (e:=10) (k:=999) D8.sh D8.gd T8 (by decide) (by decide) (by rw [l7]; decide) (by lia)
 have z9:=d9.dd.len
 have f9 : ybn [.ref 1,.int a8,.int 999] H8 = .ok (.int a9) H9:=d9.ev
 obtain ⟨x9,ex9⟩ : ∃ z,z = repS x7 999:=⟨_,rfl⟩
 rw [<- ex9] at q9 T9
 clear ex9
 have l9:=q9.len
 have T7b:=(T7.pre D8.pre).pre d9.dd.pre
 obtain ⟨aa,psa,Ha,da,Ta⟩:=zbg d9.dd.sh d9.dd.gd T7b T9 (by lia) (by lia)
 have za:=da.dd.len
 have ja:=zbh d9.dd.gd T7b T9
 have fa:=da.ev
 have qa:=q3.app q9
 obtain ⟨ab,psb,Hb,fb,Db,Tb⟩:=zaY da.dd.sh da.dd.gd (q3004.plain pc) (by lia) (by lia)
 have zb:=Db.len
 have Tab:=Ta.pre Db.pre
 have la:=qa.len
 obtain ⟨ac,psc,Hc,dc,Tc⟩:=zbg Db.sh Db.gd Tab Tb (by lia) (by lia)
 have zc:=dc.dd.len
 have jc:=zbh Db.gd Tab Tb
 have fc:=dc.ev
 have qc:=qa.app q3004
 obtain ⟨xl,exl⟩ : ∃ z,z = x3++x9++xb:=⟨_,rfl⟩
 rw [<- exl] at qc Tc
 clear exl
 have ll:=qc.len
 have same : xf = xl:=zae (by rw [qf,qc])
 have pz : yaC "z" = true:=by decide +kernel
 have lz : (Str.ofString "z").length = 1:=by decide +kernel
 obtain ⟨ad,psd,Hd,fd,Dd',Td⟩:=zaY dc.dd.sh dc.dd.gd pz (by rw [lz]; decide) (by rw [lz]; lia)
 have zd:=Dd'.len
 rw [lz] at zd
 have T6d:=(((((T6.pre D7.pre).pre D8.pre).pre d9.dd.pre).pre da.dd.pre).pre Db.pre).pre (dc.dd.pre.trans Dd'.pre)
 obtain ⟨ae,pse,He,de,Te⟩:=zbg Dd'.sh Dd'.gd T6d Td (by rw [lz]; lia) (by lia)
 have ze:=de.dd.len
 have je:=zbh Dd'.gd T6d Td
 have fe:=de.ev
 have le : (xf++Str.ofString "z").length = 10001:=by rw [zaq,lf,lz]
 obtain ⟨xe,exe⟩ : ∃ z,z = xf++Str.ofString "z" := ⟨_,rfl⟩
 rw [<- exe] at Te le
 clear exe
 obtain ⟨ag,psg,Hg,fg,Dg,Tg⟩:=zaY de.dd.sh de.dd.gd (q10.plain pc) (by lia) (by lia)
 have zg:=Dg.len
 obtain ⟨ah,psh,Hh,dh,Th⟩:=zbW (e:=57) (k:=100000000000000000) Dg.sh Dg.gd Tg (by decide) (by decide) (by rw [l10]; decide) (by lia)
 have fh : ybn [.ref 1,.int ag,.int 100000000000000000] Hg = .ok (.int ah) Hh:=dh.ev
 have lh : (repS x10 100000000000000000).length = 1000000000000000000:=by rw [zcp,l10]
 obtain ⟨xh,exh⟩ : ∃ z,z = repS x10 100000000000000000:=⟨_,rfl⟩
 rw [<- exh] at Th lh
 clear exh
 have gg:=dh.dd.gd
 have S:=dh.dd.sh
 have Pe : pse <+: psh:=Dg.pre.trans dh.dd.pre
 have Pd : psd <+: psh:=de.dd.pre.trans Pe
 have Pc : psc <+: psh:=Dd'.pre.trans Pd
 have Ts : TxZ psh a3 x:=T3.pre (D5.pre.trans (d6.dd.pre.trans (D7.pre.trans (D8.pre.trans (d9.dd.pre.trans (da.dd.pre.trans (Db.pre.trans (dc.dd.pre.trans Pc))))))))
 have Tf : TxZ psh a6 xf:=T6d.pre Pd
 have Tl : TxZ psh ac xl:=Tc.pre Pc
 have To : TxZ psh ae xe:=Te.pre Pe
 have T0 : TxZ psh 0 "" := .inl ⟨rfl,rfl⟩
 have l0 : (Str.ofString "").length = 0:=rfl
 have mn:=yfJ S
 obtain ⟨M,eM⟩ : ∃ M,M = psh.length:=⟨_,rfl⟩
 rw [<- eM] at mn
 obtain ⟨F,eF⟩ : ∃ F : Int,F = ns.sum % 10000000000000000000000000000:=⟨_,rfl⟩
 have F0 : 0 <= F:=by rw [eF]; exact Int.emod_nonneg _ (by decide)
 have sm : fSum [.fl (ns.map AV.int)] Hh = .ok (.int ns.sum) Hh:=by simp only [fSum,zc3]
 have pw28 : fPow (.int 10) (.int 28) Hh = .ok (.int 10000000000000000000000000000) Hh:=by simp
 have md : fMod (.int ns.sum) (.int 10000000000000000000000000000) Hh = .ok (.int F) Hh:=by rw [eF]; rfl
 have pw17 : ∀ hh,fPow (.int 10) (.int 17) hh = .ok (.int 100000000000000000) hh:=fun hh=>by simp
 obtain ⟨V,eV⟩ : ∃ V : List (Option AV),V = [some (.fl (ns.map AV.int)),some (.ref 0),some (.int a3),some (.str s),some (.int a6),some (.int ac),some (.int ae),some (.int ah),some (.int M),some (.int F)]:=⟨_,rfl⟩
 obtain ⟨bs,ebs⟩ : ∃ bs : List Int,bs = [(-1 : Int),(M : Int) + 1,(M : Int) + 1 + F,(-1 : Int) - F]:=⟨_,rfl⟩
 have hbs : ∀ b ∈ bs,¬ (0 <= b /\ b <= psh.length):=by
  rw [ebs]
  intro b hb
  simp at hb
  lia
 obtain ⟨h7,o1',o2',o3',L1,k1⟩:=lp3 (V:=V) (o11:=none) (o12:=none) (o13:=none) S bs (fun b=>[(b,(a3 : Int)),((a3 : Int),b),(b,0),(0,b),(b,b),(b,(ah : Int)),((ae : Int),b)]) (by
  intro b hb q hq w hw
  have nb:=hbs b hb
  simp at hq
  rcases hq with rfl | rfl | rfl | rfl | rfl | rfl | rfl
  ·exact zaO gg hw (.inl nb)
  ·exact zaO gg hw (.inr ⟨⟨a3,x,rfl,Ts⟩,nb⟩)
  ·exact zaO gg hw (.inl nb)
  ·exact zaO gg hw (.inr ⟨⟨0, "",rfl,T0⟩,nb⟩)
  ·exact zaO gg hw (.inl nb)
  ·exact zaO gg hw (.inl nb)
  ·exact zaO gg hw (.inr ⟨⟨ae,xe,rfl,To⟩,nb⟩)) (by
  intro b o12 o13 hh
  rw [eV]
  rfl)
 have S7:=k1.sh S
 obtain ⟨h8,o4',o5',L2,k2⟩:=lp5 (V:=V) (o11:=o1') (o12:=o2') (o13:=o3') S7 [((ae : Int),(a3 : Int)),((a3 : Int),(ae : Int)),((ah : Int),(ae : Int)),((ae : Int),(a6 : Int)),((ah : Int),0),(0,(ae : Int))] (by
  intro q hq
  simp at hq
  rcases hq with rfl | rfl | rfl | rfl | rfl | rfl
  ·exact ⟨zaR To Ts (by lia) (by lia),fun w hw=>zaF gg To Ts hw⟩
  ·exact ⟨zaR Ts To (by lia) (by lia),fun w hw=>zaF gg Ts To hw⟩
  ·exact ⟨zaR Th To (by lia) (by lia),fun w hw=>zaF gg Th To hw⟩
  ·exact ⟨zaR To Tf (by lia) (by lia),fun w hw=>zaF gg To Tf hw⟩
  ·exact ⟨zaR Th T0 (by lia) (by lia),fun w hw=>zaF gg Th T0 hw⟩
  ·exact ⟨zaR T0 To (by lia) (by lia),fun w hw=>zaF gg T0 To hw⟩)
 have S8:=k2.sh S7
 obtain ⟨h9,o6',o7',L3,k3⟩:=lp7 (V:=V) (o11:=o1') (o12:=o4') (o13:=o5') S8 [((ae : Int),(ae : Int)),((ah : Int),(ah : Int)),((a6 : Int),(ac : Int)),((ac : Int),(a6 : Int)),((a6 : Int),(a3 : Int)),(0,(a6 : Int))] (by
  intro q hq w hw
  simp at hq
  rcases hq with rfl | rfl | rfl | rfl | rfl | rfl
  ·exact zc4 gg To (by lia) hw
  ·exact zc4 gg Th (by lia) hw
  ·exact zbu gg Tf Tl (by lia) (by lia) hw
  ·exact zbu gg Tl Tf (by lia) (by lia) hw
  ·exact zbu gg Tf Ts (by lia) (by lia) hw
  ·exact zbu gg T0 Tf (by lia) (by lia) hw)
 have S9:=k3.sh S8
 obtain ⟨mh,fh2,lh2,Th'⟩ : ∃ m f l,Tx psh ah m xh f l:=by
  rcases Th with ⟨rfl,rfl⟩ | T
  ·lia
  ·exact T
 obtain ⟨v1,h10,g1,k10⟩:=zd1 S9 Th'
 have S10:=k10.sh S9
 obtain ⟨r11,t11,g2⟩:=zcQ S10 gg Tf Tl (by lia) (by lia)
 rw [if_pos same] at g2
 have S11:=S10.app r11
 have mn11:=yfJ S11
 rw [<- eM] at mn11
 obtain ⟨r12,t12,g3⟩:=zcQ S11 gg Tf T0 (by lia) (by lia)
 rw [if_neg (fun z=>by have:=congrArg Str.length z; lia)] at g3
 have g3' : yaj [.ref 1,.int a6,.int 0] (h10++r11) = .ok (.tup (.str "apart" :: t12)) (h10++r11++r12):=g3
 have i1 : ∀ hh,fIx (.tup [.str "alike",v1]) (.int 0) hh = .ok (.str "alike") hh:=fun _=>rfl
 have at0 : ∀ (u : AV) (t : List AV) hh,fIx (.tup (u :: t)) (.int 0) hh = .ok u hh:=fun u t hh=>by
  have : atI (u :: t) ((0 : Nat) : Int) = some u:=zba rfl
  have this' : atI (u :: t) 0 = some u:=this
  simp only [fIx,this']
 have i2:=at0 (.str "alike") t11
 have i3:=at0 (.str "apart") t12
 have n1 : ∀ hh,fNe (.str "alike") (.str "alike") hh = .ok (.bl false) hh:=fun _=>by simp
 have n2 : ∀ hh,fEq (.str "apart") (.str "apart") hh = .ok (.bl true) hh:=fun _=>by simp
 have n3 : ∀ hh,fEq (.int M) (.int M) hh = .ok (.bl true) hh:=fun _=>by simp
 have ob11:=S11.ob
 have obh:=S.ob
 have it1 : iVal (sLst (yaa (sOp1 fNeg (sLit (.int 1))) (yaa (sOp2 fAdd (sVar 9) (sLit (.int 1))) (yaa (sOp2 fAdd (sOp2 fAdd (sVar 9) (sLit (.int 1))) (sVar 10)) (yaa (sOp2 fSub (sOp1 fNeg (sLit (.int 1))) (sVar 10)) sNil))))) (eB V none none none) Hh = .ok (bs.map AV.int,none) Hh:=by
  rw [eV,ebs]; rfl
 have LA:=(ybV (t:=.nm 11) (b:=ycu) it1).trans L1
 have it2 : iVal (sLst (yaa (sTup (yaa (sVar 7) (yaa (sVar 3) sNil))) (yaa (sTup (yaa (sVar 3) (yaa (sVar 7) sNil))) (yaa (sTup (yaa (sVar 8) (yaa (sVar 7) sNil))) (yaa (sTup (yaa (sVar 7) (yaa (sVar 5) sNil))) (yaa (sTup (yaa (sVar 8) (yaa (sLit (.int 0)) sNil))) (yaa (sTup (yaa (sLit (.int 0)) (yaa (sVar 7) sNil))) sNil))))))) (eB V o1' o2' o3') h7 = .ok ([((ae : Int),(a3 : Int)),((a3 : Int),(ae : Int)),((ah : Int),(ae : Int)),((ae : Int),(a6 : Int)),((ah : Int),0),(0,(ae : Int))].map pvq,none) h7:=by
  rw [eV]; rfl
 have LB:=(ybV (t:=.nm 13) (b:=ycv) it2).trans L2
 have it3 : iVal (sLst (yaa (sTup (yaa (sVar 7) (yaa (sVar 7) sNil))) (yaa (sTup (yaa (sVar 8) (yaa (sVar 8) sNil))) (yaa (sTup (yaa (sVar 5) (yaa (sVar 6) sNil))) (yaa (sTup (yaa (sVar 6) (yaa (sVar 5) sNil))) (yaa (sTup (yaa (sVar 5) (yaa (sVar 3) sNil))) (yaa (sTup (yaa (sLit (.int 0)) (yaa (sVar 5) sNil))) sNil))))))) (eB V o1' o4' o5') h8 = .ok ([((ae : Int),(ae : Int)),((ah : Int),(ah : Int)),((a6 : Int),(ac : Int)),((ac : Int),(a6 : Int)),((a6 : Int),(a3 : Int)),(0,(a6 : Int))].map pvq,none) h8:=by
  rw [eV]; rfl
 have LC:=(ybV (t:=.nm 13) (b:=ycQ) it3).trans L3
 refine ⟨h10++r11++r12,?_⟩
 clear it1 it2 it3 L1 L2 L3 S7 S8 S9 S10 S11 k1 k2 k3 k10 g3 mk st T3 T5 T6 T7 T8 T9 Ta Tb Tc Td Te Tg Th Th' Ts Tf Tl To T0 Tab T7b T6d D3 D5 d6 D7 D8 d9 da Db dc Dd' de Dg dh S S1 S2 S4 gg p2 t4 e1 e2 e3 hbs ebs Pe Pd Pc q10 q3 q7 q3004 qf q9 qa qc o1
 unfold yfh
 generalize sFor (iVal (sLst (yaa (sOp1 fNeg (sLit (.int 1))) (yaa (sOp2 fAdd (sVar 9) (sLit (.int 1))) (yaa (sOp2 fAdd (sOp2 fAdd (sVar 9) (sLit (.int 1))) (sVar 10)) (yaa (sOp2 fSub (sOp1 fNeg (sLit (.int 1))) (sVar 10)) sNil)))))) (.nm 11) ycu = FA at *
 generalize sFor (iVal (sLst (yaa (sTup (yaa (sVar 7) (yaa (sVar 3) sNil))) (yaa (sTup (yaa (sVar 3) (yaa (sVar 7) sNil))) (yaa (sTup (yaa (sVar 8) (yaa (sVar 7) sNil))) (yaa (sTup (yaa (sVar 7) (yaa (sVar 5) sNil))) (yaa (sTup (yaa (sVar 8) (yaa (sLit (.int 0)) sNil))) (yaa (sTup (yaa (sLit (.int 0)) (yaa (sVar 7) sNil))) sNil)))))))) (.nm 13) ycv = FB at *
 generalize sFor (iVal (sLst (yaa (sTup (yaa (sVar 7) (yaa (sVar 7) sNil))) (yaa (sTup (yaa (sVar 8) (yaa (sVar 8) sNil))) (yaa (sTup (yaa (sVar 5) (yaa (sVar 6) sNil))) (yaa (sTup (yaa (sVar 6) (yaa (sVar 5) sNil))) (yaa (sTup (yaa (sVar 5) (yaa (sVar 3) sNil))) (yaa (sTup (yaa (sLit (.int 0)) (yaa (sVar 5) sNil))) sNil)))))))) (.nm 13) ycQ = FC at *
 generalize yen 0 8 ybS sNil = MK at *
 generalize ybG = F1 at *
 generalize yb4 = F2 at *
 generalize ybM = F3 at *
 generalize ybn = F4 at *
 generalize yaU = F5 at *
 generalize yaj = F6 at *
 subst eV
 simp only [eB,List.getD_cons_zero,List.getD_cons_succ] at LA LB LC
 generalize ns.map AV.int = NS at *
 generalize h10++r11++r12 = h12 at *
 generalize h10++r11 = h11 at *
 simp [st',mk',p2',ax,f3,t4',ic,m10,f5,f6,m3,f7,m7,f8,f9,fa,m3004,fb,fc,fd,fe,fg,pw17,fh,obh,mn,sm,pw28,md,LA,LB,LC,g1,i1,n1,g2,i2,ob11,mn11,n3,g3',i3,n2,-fAdd,-fIx,-ycj,-fPow,-fSum,-fMod,-fNe,-fEq]
end Sk
namespace Sk
open PySem PySem.Spec L2 Sm
def top (i : Nat) : Stmt:=PySem.Challenge.pw_skeinwood_k65_likes_refused.main.body.getD i (.Pass ⟨0,0,0,0⟩)
abbrev ydE : Stmt:=top 51
abbrev ycI : Stmt:=top 52
abbrev ydp : Stmt:=ybt (top 35) 0
abbrev ydW : Stmt:=top 11
abbrev ycl : Stmt:=ybt (top 35) 11
abbrev yb5 : Stmt:=ybt (top 35) 12
abbrev ycd : Stmt:=ybt (top 35) 14
abbrev ydF : Stmt:=ybt (top 35) 17
abbrev ycs : Stmt:=ybt (top 35) 16
abbrev ydq : Stmt:=ybt (top 35) 2
abbrev yed : Stmt:=top 48
abbrev ycJ : Stmt:=top 13
abbrev ydm : Stmt:=top 12
abbrev ydX : Stmt:=top 14
abbrev yd4 : Stmt:=top 15
abbrev yct : Stmt:=ybt (top 35) 15
abbrev ydr : Stmt:=ybt (top 35) 1
abbrev yeb : Stmt:=top 38
abbrev yce : Stmt:=ybt (top 35) 13
abbrev yc6 : Stmt:=ybt (top 35) 5
abbrev ycR : Stmt:=top 40
abbrev ycm : Stmt:=ybt (top 35) 10
abbrev ycf : Stmt:=ybt (top 35) 9
abbrev ydG : Stmt:=top 41
abbrev yc7 : Stmt:=ybt (top 35) 4
abbrev ydH : Stmt:=top 46
abbrev ycS : Stmt:=ybt (top 35) 8
abbrev yc8 : Stmt:=top 43
abbrev ycK : Stmt:=top 47
abbrev ycT : Stmt:=top 44
abbrev yee : Stmt:=top 42
abbrev yef : Stmt:=top 45
abbrev yeg : Stmt:=top 37
abbrev yd5 : Stmt:=top 49
abbrev ydY : Stmt:=top 39
abbrev yds : Stmt:=ybt (top 35) 3
abbrev ydZ : Stmt:=top 53
abbrev ydI : Stmt:=top 54
abbrev ydt : Stmt:=top 18
abbrev yd6 : Stmt:=top 26
abbrev ydu : Stmt:=top 23
abbrev ydv : Stmt:=top 22
abbrev ydJ : Stmt:=top 28
abbrev ycU : Stmt:=top 27
abbrev yc9 : Stmt:=top 25
abbrev ycV : Stmt:=top 24
abbrev ydK : Stmt:=top 32
abbrev ycL : Stmt:=top 30
abbrev yda : Stmt:=top 20
abbrev ydb : Stmt:=top 21
abbrev ydw : Stmt:=top 19
abbrev ydc : Stmt:=top 17
abbrev ydd : Stmt:=top 31
abbrev yde : Stmt:=top 55
abbrev yeN : Stmt:=top 56
def flds : Nat -> List Str
 | 0=>["pieces", "numbers", "sign_counts", "end_counts", "leaf_counts", "heights", "first_leaves", "last_leaves"]
 | _=>[]
theorem zjs : ∀ c,(flds c).Nodup
 | 0=>by decide +kernel
 | _ + 1=>List.nodup_nil
theorem zif : ∀ c,(flds c).length <= 500
 | 0=>by decide +kernel
 | _ + 1=>Nat.zero_le _
abbrev mkT (K : PySem.W.Frag) (cls exc : Nat -> Option Addr) : Tb:=⟨K,cls,exc,flds,zjs,zif⟩
structure Facts (P : Program) (w : World) (K : PySem.W.Frag) (cls exc : Nat -> Option Addr) (mg : Str -> Option Value) (base : Heap) : Prop where
 b_ValueError : mg "ValueError" = none
 b_abs : mg "abs" = none
 b_all : mg "all" = none
 b_bool : mg "bool" = none
 b_int : mg "int" = none
 b_isinstance : mg "isinstance" = none
 b_len : mg "len" = none
 b_max : mg "max" = none
 b_min : mg "min" = none
 b_range : mg "range" = none
 b_str : mg "str" = none
 b_sum : mg "sum" = none
 c_LEAF_SIGNS : ∃ t,mg "LEAF_SIGNS" = some (.int 8 t)
 c_MOST_PLAIN : ∃ t,mg "MOST_PLAIN" = some (.int 10000 t)
 c_MOST_SIGNS : ∃ t,mg "MOST_SIGNS" = some (.int 1000000000000000000 t)
 cf_Shelf : CF (mkT K cls exc) 0
 x_NoText : GX (mkT K cls exc) mg base 1 "NoText"
 x_NoPiece : GX (mkT K cls exc) mg base 2 "NoPiece"
 x_Loose : GX (mkT K cls exc) mg base 3 "Loose"
 x_Unlevel : GX (mkT K cls exc) mg base 4 "Unlevel"
 x_TooLong : GX (mkT K cls exc) mg base 5 "TooLong"
 x_NoPlace : GX (mkT K cls exc) mg base 6 "NoPlace"
 kx_NoPiece : ∃ C,mg "NoPiece" = some (.ref C) /\ ∀ c C',exc c = some C' -> ExcK K C' /\ PySem.W.kitOne K (.ref C') (.ref C) = some (ycA c)
 kx_NoPlace : ∃ C,mg "NoPlace" = some (.ref C) /\ ∀ c C',exc c = some C' -> ExcK K C' /\ PySem.W.kitOne K (.ref C') (.ref C) = some (ycB c)
 kx_TooLong : ∃ C,mg "TooLong" = some (.ref C) /\ ∀ c C',exc c = some C' -> ExcK K C' /\ PySem.W.kitOne K (.ref C') (.ref C) = some (ycC c)
 kx_ValueError : ∀ c C',exc c = some C' -> ExcK K C' /\ PySem.W.kitOne K (.ref C') (.type "ValueError") = some (yb0 c)
 ct_SkeinError : ∃ C,mg "SkeinError" = some (.ref C) /\ ∀ c C',ybF c = true -> exc c = some C' -> PySem.W.exmOne K (.ref C') (.ref C) = some true
 d_law_mixed : DG K mg "_law_mixed" ydE ["cell", "k"]
 d_law_stream : DG K mg "_law_stream" ycI ["script", "k"]
 d_Shelf_init : DI K cls mg 0 "Shelf" "Shelf.__init__" ydp ["self"]
 d_is_whole : DG K mg "is_whole" ydW ["thing"]
 d_Shelf_has_piece : DMm K cls 0 "has_piece" "Shelf.has_piece" ycl ["self", "number"]
 d_Shelf_check_piece : DMm K cls 0 "check_piece" "Shelf.check_piece" yb5 ["self", "number"]
 d_Shelf_check_fork : DMm K cls 0 "check_fork" "Shelf.check_fork" ycd ["self", "one", "other"]
 d_Shelf_lay : DMm K cls 0 "lay" "Shelf.lay" ydF ["self", "made"]
 d_Shelf_lay_fork : DMm K cls 0 "lay_fork" "Shelf.lay_fork" ycs ["self", "made"]
 d_Shelf_fork : DMm K cls 0 "fork" "Shelf.fork" ydq ["self", "one", "other"]
 d_halved : DG K mg "halved" yed ["shelf", "leaves"]
 d_is_plain_sign : DG K mg "is_plain_sign" ycJ ["sign"]
 d_is_plain : DG K mg "is_plain" ydm ["thing"]
 d_is_short : DG K mg "is_short" ydX ["thing"]
 d_ends_in : DG K mg "ends_in" yd4 ["plain"]
 d_Shelf_lay_leaf : DMm K cls 0 "lay_leaf" "Shelf.lay_leaf" yct ["self", "made"]
 d_Shelf_leaf : DMm K cls 0 "leaf" "Shelf.leaf" ydr ["self", "plain"]
 d_built : DG K mg "built" yeb ["shelf", "plain"]
 d_Shelf_check_text : DMm K cls 0 "check_text" "Shelf.check_text" yce ["self", "text"]
 d_Shelf_signs : DMm K cls 0 "signs" "Shelf.signs" yc6 ["self", "text"]
 d_check_length : DG K mg "check_length" ycR ["signs"]
 d_Shelf_last_leaf : DMm K cls 0 "last_leaf" "Shelf.last_leaf" ycm ["self", "text"]
 d_Shelf_first_leaf : DMm K cls 0 "first_leaf" "Shelf.first_leaf" ycf ["self", "text"]
 d_are_close : DG K mg "are_close" ydG ["shelf", "one", "other"]
 d_Shelf_piece : DMm K cls 0 "piece" "Shelf.piece" yc7 ["self", "number"]
 d_with_last : DG K mg "with_last" ydH ["shelf", "text", "leaf"]
 d_Shelf_height : DMm K cls 0 "height" "Shelf.height" ycS ["self", "text"]
 d_turned_left : DG K mg "turned_left" yc8 ["shelf", "one", "other"]
 d_without_first : DG K mg "without_first" ycK ["shelf", "text"]
 d_turned_right : DG K mg "turned_right" ycT ["shelf", "one", "other"]
 d_linked : DG K mg "linked" yee ["shelf", "one", "other"]
 d_welded : DG K mg "welded" yef ["shelf", "one", "other"]
 d_joined : DG K mg "joined" yeg ["shelf", "one", "other"]
 d_doubled : DG K mg "doubled" yd5 ["shelf", "text", "many"]
 d_repeated : DG K mg "repeated" ydY ["shelf", "text", "many"]
 d_Shelf_many : DMm K cls 0 "many" "Shelf.many" yds ["self"]
 d_law_take : DG K mg "_law_take" ydZ ["stream", "many"]
 d_law_plain : DG K mg "_law_plain" ydI ["stream", "most"]
 d_whole_left : DG K mg "whole_left" ydt ["shelf", "text"]
 d_size_of : DG K mg "size_of" yd6 ["shelf", "thing"]
 d_opens_fork : DG K mg "opens_fork" ydu ["shelf", "left", "first"]
 d_next_signs : DG K mg "next_signs" ydv ["shelf", "left"]
 d_puts_back : DG K mg "puts_back" ydJ ["left", "signs"]
 d_common_signs : DG K mg "common_signs" ycU ["shelf", "left", "other_left"]
 d_common_item : DG K mg "common_item" yc9 ["shelf", "left", "other_left"]
 d_common_items : DG K mg "common_items" ycV ["shelf", "left", "other_left"]
 d_next_sign : DG K mg "next_sign" ydK ["shelf", "left"]
 d_held_together : DG K mg "held_together" ycL ["shelf", "one", "other"]
 d_takes_piece : DG K mg "takes_piece" yda ["shelf", "left", "number"]
 d_takes_plain : DG K mg "takes_plain" ydb ["shelf", "left", "plain"]
 d_takes_item : DG K mg "takes_item" ydw ["shelf", "left", "item"]
 d_left_behind : DG K mg "left_behind" ydc ["shelf", "text", "items"]
 d_told_stands : DG K mg "told_stands" ydd ["shelf", "one", "other", "told"]
 d_law_refused : DG K mg "_law_refused" yde ["shelf", "one", "other", "way"]
 d_law : DG K mg "law" yeN ["script"]
theorem zeM : FnScope ["cell", "k", "one"] ["cell", "k"] (yah ydE):=fsk
theorem zd8 : FnScope ["script", "k", "cell", "j", "found"] ["script", "k"] (yah ycI):=fsk
theorem zd9 : FnScope ["self"] ["self"] (yah ydp):=fsk
theorem ze2 : FnScope ["thing"] ["thing"] (yah ydW):=fsk
theorem zcc : FnScope ["self", "number"] ["self", "number"] (yah ycl):=fsk
theorem zbX : FnScope ["self", "number"] ["self", "number"] (yah yb5):=fsk
theorem zb3 : FnScope ["self", "one", "other", "seam"] ["self", "one", "other"] (yah ycd):=fsk
theorem zeN : FnScope ["self", "made", "number"] ["self", "made"] (yah ydF):=fsk
theorem zcv : FnScope ["self", "made", "one", "other"] ["self", "made"] (yah ycs):=fsk
theorem zea : FnScope ["self", "one", "other", "made"] ["self", "one", "other"] (yah ydq):=fsk
theorem zd2 : FnScope ["shelf", "leaves", "middle"] ["shelf", "leaves"] (yah yed):=fsk
theorem zcR : FnScope ["sign"] ["sign"] (yah ycJ):=fsk
theorem ze3 : FnScope ["thing"] ["thing"] (yah ydm):=fsk
theorem ze4 : FnScope ["thing"] ["thing"] (yah ydX):=fsk
theorem zgt : FnScope ["plain"] ["plain"] (yah yd4):=fsk
theorem zcw : FnScope ["self", "made", "number", "plain"] ["self", "made"] (yah yct):=fsk
theorem zeb : FnScope ["self", "plain", "made"] ["self", "plain"] (yah ydr):=fsk
theorem zig : FnScope ["shelf", "plain", "leaves"] ["shelf", "plain"] (yah yeb):=fsk
theorem zb4 : FnScope ["self", "text"] ["self", "text"] (yah yce):=fsk
theorem zdt : FnScope ["self", "text"] ["self", "text"] (yah yc6):=fsk
theorem zc5 : FnScope ["signs"] ["signs"] (yah ycR):=fsk
theorem zcd : FnScope ["self", "text"] ["self", "text"] (yah ycm):=fsk
theorem zb5 : FnScope ["self", "text"] ["self", "text"] (yah ycf):=fsk
theorem zeO : FnScope ["shelf", "one", "other"] ["shelf", "one", "other"] (yah ydG):=fsk
theorem zdu : FnScope ["self", "number"] ["self", "number"] (yah yc7):=fsk
theorem zce : FnScope ["shelf", "text", "leaf", "piece"] ["shelf", "text", "leaf"] (yah ydH):=fsk
theorem zc6 : FnScope ["self", "text"] ["self", "text"] (yah ycS):=fsk
theorem zdv : FnScope ["shelf", "one", "other", "piece", "near", "far", "inner"] ["shelf", "one", "other"] (yah yc8):=fsk
theorem zbi : FnScope ["shelf", "text", "piece", "rest"] ["shelf", "text"] (yah ycK):=fsk
theorem zc7 : FnScope ["shelf", "one", "other", "piece", "far", "near", "inner"] ["shelf", "one", "other"] (yah ycT):=fsk
theorem zd3 : FnScope ["shelf", "one", "other", "tilt", "piece"] ["shelf", "one", "other"] (yah yee):=fsk
theorem zhd : FnScope ["shelf", "one", "other", "seam", "front", "back"] ["shelf", "one", "other"] (yah yef):=fsk
theorem zhe : FnScope ["shelf", "one", "other"] ["shelf", "one", "other"] (yah yeg):=fsk
theorem zc8 : FnScope ["shelf", "text", "many", "half", "twice"] ["shelf", "text", "many"] (yah yd5):=fsk
theorem ze5 : FnScope ["shelf", "text", "many", "signs"] ["shelf", "text", "many"] (yah ydY):=fsk
theorem zec : FnScope ["self"] ["self"] (yah yds):=fsk
theorem ze6 : FnScope ["stream", "many", "digit"] ["stream", "many"] (yah ydZ):=fsk
theorem zeP : FnScope ["stream", "most", "kinds", "found", "k"] ["stream", "most"] (yah ydI):=fsk
theorem zed : FnScope ["shelf", "text"] ["shelf", "text"] (yah ydt):=fsk
theorem zgu : FnScope ["shelf", "thing"] ["shelf", "thing"] (yah yd6):=fsk
theorem zee : FnScope ["shelf", "left", "first", "piece"] ["shelf", "left", "first"] (yah ydu):=fsk
theorem zef : FnScope ["shelf", "left", "first"] ["shelf", "left"] (yah ydv):=fsk
theorem zeQ : FnScope ["left", "signs"] ["left", "signs"] (yah ydJ):=fsk
theorem zc9 : FnScope ["shelf", "left", "other_left", "one", "other", "many"] ["shelf", "left", "other_left"] (yah ycU):=fsk
theorem zdw : FnScope ["shelf", "left", "other_left", "shorter", "longer", "first"] ["shelf", "left", "other_left"] (yah yc9):=fsk
theorem zda : FnScope ["shelf", "left", "other_left", "items", "item"] ["shelf", "left", "other_left"] (yah ycV):=fsk
theorem zeR : FnScope ["shelf", "left"] ["shelf", "left"] (yah ydK):=fsk
theorem zcS : FnScope ["shelf", "one", "other", "longest", "left", "other_left", "items"] ["shelf", "one", "other"] (yah ycL):=fsk
theorem zdx : FnScope ["shelf", "left", "number", "first"] ["shelf", "left", "number"] (yah yda):=fsk
theorem zdy : FnScope ["shelf", "left", "plain", "rest", "signs", "both"] ["shelf", "left", "plain"] (yah ydb):=fsk
theorem zeg : FnScope ["shelf", "left", "item"] ["shelf", "left", "item"] (yah ydw):=fsk
theorem zdz : FnScope ["shelf", "text", "items", "left", "item"] ["shelf", "text", "items"] (yah ydc):=fsk
theorem zdA : FnScope ["shelf", "one", "other", "told", "left", "other_left", "signs"] ["shelf", "one", "other", "told"] (yah ydd):=fsk
theorem zdB : FnScope ["shelf", "one", "other", "way", "told", "e"] ["shelf", "one", "other", "way"] (yah yde):=fsk
theorem yhC : FnScope ["script", "stream", "shelf", "short", "sign", "full", "like", "longer", "huge", "many", "far", "bad", "way", "pair"] ["script"] (yah yeN):=fsk
section
variable {P : Program} {w : World} {K : PySem.W.Frag} {cls exc : Nat -> Option Addr} {mg : Str -> Option Value} {base : Heap} (Z : Facts P w K cls exc mg base)
include Z
theorem ze7 : GF P w (mkT K cls exc) mg base 1 "_law_mixed" ycZ:=gf Z.d_law_mixed zeM fun hr C hu nd =>
 (zab (yap (i:=2) nd (yav ydi (yav ycY (yav (ybq rfl) (yav (ybq rfl) (yav ydi (yab 0) yaf) (yav ycY yaf (yab 1))) yaf) yaf) yaf))
  (yad (yak (yav ydi (yav ycY (yav ydi (yav ycY (yab 2) (yab 2)) yaf) yaf) yaf))))
theorem zeS : GF P w (mkT K cls exc) mg base 2 "_law_stream" ybG:=gf Z.d_law_stream zd8 fun {f cdv A outer s H E} hr C hu nd =>
 (zab (yap (i:=2) nd yaf)
  (zab (ycz rfl (zdR (E:=EN) rfl Z.b_range (yab 1) (r_bi (b_len rfl) rfl Z.b_len PySem.boot_len (zaa (yab 0) yac)) yaf) (zaG (i:=3) nd) (yad (yap (i:=2) nd (yav (ybq rfl) (yav ycY (yab 2) (yav ycY (yav ydx yaf yaf) (yav ydx yaf yaf))) (yav ydi (r_ix rfl hu (yab 0) (yab 3)) (yav ycY (yav ydx yaf yaf) (yav ydx yaf yaf)))))))
  (zab (r_if (yat o_ge (yab 2) (yav ydx yaf yaf) (yan _)) (yad (yak (yca (zaa (yab 2) yac)))) yaw)
  (zab (yap (i:=2) nd (yav (ybq rfl) (yab 2) (r_bi (b_sum rfl) rfl Z.b_sum PyProof.Rows.boot_sum (zaa (yfA (jf:=[]) (zb8 (N:=["script", "k", "cell", "j", "found"]) (sc:=yah ycI) rfl (fun _=>rfl) (by decide +kernel)) rfl (yc4 (E:=(fun _=>E)) rfl (yab 0)) (fun _ _ _ _ _=>zdh) (fun _ _ _ _ _=>(yav ydi (yab 0) (yav ydx yaf yaf)))) yac))))
  (zab (yap (i:=4) nd yaf)
  (zab (ycz rfl (zbo (E:=EN) rfl Z.b_range yaf) (zaG (i:=3) nd) (yad (yap (i:=4) nd (yav (ybq rfl) (yav ycY (yab 4) yaf) (yai rfl (C.nox) (ze7 Z) hr.m rfl (zaa (yav (ybq rfl) (yav (ybq rfl) (yab 2) (yav ycY yaf (yab 1))) (r_bi (b_len rfl) rfl Z.b_len PySem.boot_len (zaa (yab 0) yac))) (zaa (yab 3) yac)))))))
  (yad (yak (yca (zaa (yab 4) yac))))))))))
theorem zeT : GK P w (mkT K cls exc) mg base 1 0 "Shelf" ybS:=gk Z.d_Shelf_init zd9 fun hr C hu nd =>
 (zab (zaL rfl Z.cf_Shelf (yab 0) (yca yac))
  (zab (zaL rfl Z.cf_Shelf (yab 0) ziQ)
  (zab (zaL rfl Z.cf_Shelf (yab 0) (yca (zaa yaf yac)))
  (zab (zaL rfl Z.cf_Shelf (yab 0) (yca (zaa yaf yac)))
  (zab (zaL rfl Z.cf_Shelf (yab 0) (yca (zaa yaf yac)))
  (zab (zaL rfl Z.cf_Shelf (yab 0) (yca (zaa (ydy yaf) yac)))
  (zab (zaL rfl Z.cf_Shelf (yab 0) (yca (zaa yaf yac)))
  (yad (zaL rfl Z.cf_Shelf (yab 0) (yca (zaa yaf yac)))))))))))
theorem zgv : GF P w (mkT K cls exc) mg base 1 "is_whole" yck:=gf Z.d_is_whole ze2 fun hr C hu nd =>
 (yad (yak (ydj (yd8 rfl rfl Z.b_isinstance (yab 0) rfl Z.b_int ygX (by decide)) (ydz (yh7 (yd8 rfl rfl Z.b_isinstance (yab 0) rfl Z.b_bool ziI (by decide)))))))
theorem za5 : GM P w (mkT K cls exc) mg base 2 0 "has_piece" yaK:=gm Z.d_Shelf_has_piece zcc (show ("has_piece" : Str) ∉ flds 0 by decide +kernel) fun hr C hu nd =>
 (yad (yak (ydj (yai rfl C (zgv Z) hr.m rfl (zaa (yab 1) yac)) (ydz (zdg o_le o_le yaf (yab 1) (r_bi (b_len rfl) rfl Z.b_len PySem.boot_len (zaa (yaP rfl Z.cf_Shelf (yab 0)) yac)))))))
theorem zaB : GM P w (mkT K cls exc) mg base 3 0 "check_piece" yaN:=gm Z.d_Shelf_check_piece zbX (show ("check_piece" : Str) ∉ flds 0 by decide +kernel) fun hr C hu nd =>
 (yad (r_if (yc3 (zau rfl (yam rfl C (za5 Z) hr.m (yab 0) (zaa (yab 1) yac)))) (yad (zaJ Z.x_NoPiece zaI rfl (zaa yaO yac))) yaw))
theorem zcf : GM P w (mkT K cls exc) mg base 4 0 "check_fork" ya6:=gm Z.d_Shelf_check_fork zb3 (show ("check_fork" : Str) ∉ flds 0 by decide +kernel) fun hr C hu nd =>
 (zab (yaI (yam rfl C (zaB Z) hr.m (yab 0) (zaa (yab 1) yac)))
  (zab (yaI (yam rfl C (zaB Z) hr.m (yab 0) (zaa (yab 2) yac)))
  (zab (yap (i:=3) nd (yav (ybq rfl) (r_ix rfl hu (yaP rfl Z.cf_Shelf (yab 0)) (r_ix rfl hu (yaP rfl Z.cf_Shelf (yab 0)) (yab 1))) (r_ix rfl hu (yaP rfl Z.cf_Shelf (yab 0)) (r_ix rfl hu (yaP rfl Z.cf_Shelf (yab 0)) (yab 2)))))
  (zab (r_if (yat o_le (yab 3) (r_gI rfl Z.c_LEAF_SIGNS) (yan _)) (yad (zaJ Z.x_Loose zaI rfl (zaa yaO yac))) yaw)
  (zab (r_if (yat o_gt (r_bi (b_abs) rfl Z.b_abs PyProof.Rows.boot_abs (zaa (yav yd7 (r_ix rfl hu (yaP rfl Z.cf_Shelf (yab 0)) (yab 1)) (r_ix rfl hu (yaP rfl Z.cf_Shelf (yab 0)) (yab 2))) yac)) yaf (yan _)) (yad (zaJ Z.x_Unlevel zaI rfl (zaa yaO yac))) yaw)
  (yad (r_if (yat o_gt (yav (ybq rfl) (r_ix rfl hu (yaP rfl Z.cf_Shelf (yab 0)) (yab 1)) (r_ix rfl hu (yaP rfl Z.cf_Shelf (yab 0)) (yab 2))) (r_gI rfl Z.c_MOST_SIGNS) (yan _)) (yad (zaJ Z.x_TooLong zaI rfl (zaa yaO yac))) yaw)))))))
theorem zcE : GM P w (mkT K cls exc) mg base 1 0 "lay" ycn:=gm Z.d_Shelf_lay zeN (show ("lay" : Str) ∉ flds 0 by decide +kernel) fun hr C hu nd =>
 (zab (yaI (r_bm rfl PySem.F.plainAttrs_list PySem.F.slot_list_append PySem.F.type_list_append (zan) zak (yaP rfl Z.cf_Shelf (yab 0)) (zaa (yab 1) yac)))
  (zab (yap (i:=2) nd (r_bi (b_len rfl) rfl Z.b_len PySem.boot_len (zaa (yaP rfl Z.cf_Shelf (yab 0)) yac)))
  (zab (zft hu (yaP rfl Z.cf_Shelf (yab 0)) (yab 1) (yab 2))
  (yad (yak (yab 2))))))
theorem zcT : GM P w (mkT K cls exc) mg base 2 0 "lay_fork" ybH:=gm Z.d_Shelf_lay_fork zcv (show ("lay_fork" : Str) ∉ flds 0 by decide +kernel) fun hr C hu nd =>
 (zab (yaI (yam rfl C (zcE Z) hr.m (yab 0) (zaa (yab 1) yac)))
  (zab (yap (i:=2) nd (r_ix rfl hu (yab 1) yaf))
  (zab (yap (i:=3) nd (r_ix rfl hu (yab 1) yaf))
  (zab (yaI (r_bm rfl PySem.F.plainAttrs_list PySem.F.slot_list_append PySem.F.type_list_append (zan) zak (yaP rfl Z.cf_Shelf (yab 0)) (zaa (yav (ybq rfl) (r_ix rfl hu (yaP rfl Z.cf_Shelf (yab 0)) (yab 2)) (r_ix rfl hu (yaP rfl Z.cf_Shelf (yab 0)) (yab 3))) yac)))
  (zab (yaI (r_bm rfl PySem.F.plainAttrs_list PySem.F.slot_list_append PySem.F.type_list_append (zan) zak (yaP rfl Z.cf_Shelf (yab 0)) (zaa (yav (ybq rfl) (r_ix rfl hu (yaP rfl Z.cf_Shelf (yab 0)) (yab 2)) (r_ix rfl hu (yaP rfl Z.cf_Shelf (yab 0)) (yab 3))) yac)))
  (zab (yaI (r_bm rfl PySem.F.plainAttrs_list PySem.F.slot_list_append PySem.F.type_list_append (zan) zak (yaP rfl Z.cf_Shelf (yab 0)) (zaa (yav (ybq rfl) (r_ix rfl hu (yaP rfl Z.cf_Shelf (yab 0)) (yab 2)) (r_ix rfl hu (yaP rfl Z.cf_Shelf (yab 0)) (yab 3))) yac)))
  (zab (yaI (r_bm rfl PySem.F.plainAttrs_list PySem.F.slot_list_append PySem.F.type_list_append (zan) zak (yaP rfl Z.cf_Shelf (yab 0)) (zaa (yav (ybq rfl) (r_bi (yfD) rfl Z.b_max PyProof.Rows.boot_max (zaa (r_ix rfl hu (yaP rfl Z.cf_Shelf (yab 0)) (yab 2)) (zaa (r_ix rfl hu (yaP rfl Z.cf_Shelf (yab 0)) (yab 3)) yac))) yaf) yac)))
  (zab (yaI (r_bm rfl PySem.F.plainAttrs_list PySem.F.slot_list_append PySem.F.type_list_append (zan) zak (yaP rfl Z.cf_Shelf (yab 0)) (zaa (r_ix rfl hu (yaP rfl Z.cf_Shelf (yab 0)) (yab 2)) yac)))
  (yad (yaI (r_bm rfl PySem.F.plainAttrs_list PySem.F.slot_list_append PySem.F.type_list_append (zan) zak (yaP rfl Z.cf_Shelf (yab 0)) (zaa (r_ix rfl hu (yaP rfl Z.cf_Shelf (yab 0)) (yab 3)) yac))))))))))))
theorem zag : GM P w (mkT K cls exc) mg base 5 0 "fork" yae:=gm Z.d_Shelf_fork zea (show ("fork" : Str) ∉ flds 0 by decide +kernel) fun hr C hu nd =>
 (zab (yaI (yam rfl C (zcf Z) hr.m (yab 0) (zaa (yab 1) (zaa (yab 2) yac))))
  (zab (yap (i:=3) nd (ybj (zaa yaO (zaa (yab 1) (zaa (yab 2) yac)))))
  (zab (r_if (yat (zfu rfl hu) (yab 3) (yaP rfl Z.cf_Shelf (yab 0)) rfl) (yad (yaI (yam rfl C (zcT Z) hr.m (yab 0) (zaa (yab 3) yac)))) yaw)
  (yad (yak (r_ix rfl hu (yaP rfl Z.cf_Shelf (yab 0)) (yab 3)))))))
theorem zcU : ∀ d,GF P w (mkT K cls exc) mg base (5 + d + 1) "halved" (ybI d)
 | 0=>gf Z.d_halved zd2 fun _ _ _ _=>yd2
 | d + 1=>gf Z.d_halved zd2 fun hr C hu nd =>
  (zab (r_if (yat (o_eq rfl hu) (r_bi (b_len rfl) rfl Z.b_len PySem.boot_len (zaa (yab 1) yac)) yaf (yan _)) (yad (yak (r_ix rfl hu (yab 1) yaf))) yaw)
  (zab (yap (i:=2) nd (yav yfb (r_bi (b_len rfl) rfl Z.b_len PySem.boot_len (zaa (yab 1) yac)) yaf))
  (yad (yak (yam rfl C (zag Z) (hr.mono (show 5 <= 5 + (d + 1) by lia)) (yab 0) (zaa (yai rfl C (zcU d) (hr.mono (by lia)) rfl (zaa (yab 0) (zaa (zaC rfl (yab 1) zaH (zaA (yab 2))) yac))) (zaa (yai rfl C (zcU d) (hr.mono (by lia)) rfl (zaa (yab 0) (zaa (zaC rfl (yab 1) (zaA (yab 2)) zaH) yac))) yac)))))))
theorem zdb : GF P w (mkT K cls exc) mg base 1 "is_plain_sign" ybP:=gf Z.d_is_plain_sign zcR fun hr C hu nd =>
 (yad (yak (r_or (ycy (o_eq rfl hu) (yab 0) yaO (yan _)) (ydz (zdg o_le o_le yaO (yab 0) yaO)))))
theorem zdc : GF P w (mkT K cls exc) mg base 2 "is_plain" ycD:=gf Z.d_is_plain ze3 fun {f cdv A outer s H E} hr C hu nd =>
 (zab (r_if (yc3 (zau rfl (yd8 rfl rfl Z.b_isinstance (yab 0) rfl Z.b_str yem (by decide)))) (yad (yak r_bl)) yaw)
  (yad (yak (r_bi (b_all rfl) rfl Z.b_all PyProof.Rows.boot_all (zaa (yfA (jf:=[]) (zb8 (N:=["thing"]) (sc:=yah ydm) rfl (fun _=>rfl) (by decide +kernel)) rfl (yc4 (E:=(fun _=>E)) rfl (yab 0)) (fun _ _ _ _ _=>zdh) (fun _ _ _ _ _=>(yai rfl (CA.never rfl) (zdb Z) hr.m rfl (zaa (yab 0) yac)))) yac)))))
theorem zdd : GF P w (mkT K cls exc) mg base 3 "is_short" ybY:=gf Z.d_is_short ze4 fun hr C hu nd =>
 (yad (yak (ydj (yai rfl C (zdc Z) hr.m rfl (zaa (yab 0) yac)) (ydz (zdg o_le o_le yaf (r_bi (b_len rfl) rfl Z.b_len PySem.boot_len (zaa (yab 0) yac)) (r_gI rfl Z.c_LEAF_SIGNS))))))
theorem zhf : GF P w (mkT K cls exc) mg base 1 "ends_in" ydB:=gf Z.d_ends_in zgt fun hr C hu nd =>
 (yad (yak (r_bm rfl PySem.F.plainAttrs_str PySem.F.slot_str_count PySem.F.type_str_count (zhP) zi0 (yab 0) (zaa yaO yac))))
theorem zcV : GM P w (mkT K cls exc) mg base 2 0 "lay_leaf" ybJ:=gm Z.d_Shelf_lay_leaf zcw (show ("lay_leaf" : Str) ∉ flds 0 by decide +kernel) fun hr C hu nd =>
 (zab (yap (i:=2) nd (yam rfl C (zcE Z) hr.m (yab 0) (zaa (yab 1) yac)))
  (zab (yap (i:=3) nd (r_ix rfl hu (yab 1) yaf))
  (zab (yaI (r_bm rfl PySem.F.plainAttrs_list PySem.F.slot_list_append PySem.F.type_list_append (zan) zak (yaP rfl Z.cf_Shelf (yab 0)) (zaa (r_bi (b_len rfl) rfl Z.b_len PySem.boot_len (zaa (yab 3) yac)) yac)))
  (zab (yaI (r_bm rfl PySem.F.plainAttrs_list PySem.F.slot_list_append PySem.F.type_list_append (zan) zak (yaP rfl Z.cf_Shelf (yab 0)) (zaa (yai rfl C (zhf Z) hr.m rfl (zaa (yab 3) yac)) yac)))
  (zab (yaI (r_bm rfl PySem.F.plainAttrs_list PySem.F.slot_list_append PySem.F.type_list_append (zan) zak (yaP rfl Z.cf_Shelf (yab 0)) (zaa yaf yac)))
  (zab (yaI (r_bm rfl PySem.F.plainAttrs_list PySem.F.slot_list_append PySem.F.type_list_append (zan) zak (yaP rfl Z.cf_Shelf (yab 0)) (zaa yaf yac)))
  (zab (yaI (r_bm rfl PySem.F.plainAttrs_list PySem.F.slot_list_append PySem.F.type_list_append (zan) zak (yaP rfl Z.cf_Shelf (yab 0)) (zaa (yab 2) yac)))
  (yad (yaI (r_bm rfl PySem.F.plainAttrs_list PySem.F.slot_list_append PySem.F.type_list_append (zan) zak (yaP rfl Z.cf_Shelf (yab 0)) (zaa (yab 2) yac)))))))))))
theorem zcg : GM P w (mkT K cls exc) mg base 4 0 "leaf" ya2:=gm Z.d_Shelf_leaf zeb (show ("leaf" : Str) ∉ flds 0 by decide +kernel) fun hr C hu nd =>
 (zab (r_if (yc3 (zau rfl (yai rfl C (zdd Z) hr.m rfl (zaa (yab 1) yac)))) (yad (zaJ Z.x_NoText zaI rfl (zaa yaO yac))) yaw)
  (zab (yap (i:=2) nd (ybj (zaa yaO (zaa (yab 1) yac))))
  (zab (r_if (yat (zfu rfl hu) (yab 2) (yaP rfl Z.cf_Shelf (yab 0)) rfl) (yad (yaI (yam rfl C (zcV Z) hr.m (yab 0) (zaa (yab 2) yac)))) yaw)
  (yad (yak (r_ix rfl hu (yaP rfl Z.cf_Shelf (yab 0)) (yab 2)))))))
theorem za0 : GF P w (mkT K cls exc) mg base 27 "built" ybM:=gf Z.d_built zig fun {f cdv A outer s H E} hr C hu nd =>
 (zab (r_if (yc3 (zau rfl (yai rfl C (zdc Z) hr.m rfl (zaa (yab 1) yac)))) (yad (zaJ Z.x_NoText zaI rfl (zaa yaO yac))) yaw)
  (zab (r_if (yat o_gt (r_bi (b_len rfl) rfl Z.b_len PySem.boot_len (zaa (yab 1) yac)) (r_gI rfl Z.c_MOST_PLAIN) (yan _)) (yad (zaJ Z.x_TooLong zaI rfl (zaa yaO yac))) yaw)
  (zab (r_if (yat (o_eq rfl hu) (yab 1) yaO (yan _)) (yad (yak yaf)) yaw)
  (zab (ziV (jf:=[(0, "shelf"),(1, "plain")]) (zb8 (N:=["shelf", "plain", "leaves"]) (sc:=yah yeb) rfl (fun _=>rfl) (by decide +kernel)) rfl (zdR (E:=(fun _=>E)) rfl Z.b_range yaf (r_bi (b_len rfl) rfl Z.b_len PySem.boot_len (zaa (yab 1) yac)) (r_gI rfl Z.c_LEAF_SIGNS)) (fun _ _ _ _ _=>zdh) (fun _ _ _ _ _=>(yam rfl (CA.never rfl) (zcg Z) hr.m (yab 1) (zaa (zaC rfl (yab 2) (zaA (yab 0)) (zaA (yav (ybq rfl) (yab 0) (r_gI rfl Z.c_LEAF_SIGNS)))) yac))) nd (i:=2))
  (yad (yak (yai rfl C (zcU Z 20) hr.m rfl (zaa (yab 0) (zaa (yab 2) yac)))))))))
theorem zaz : GM P w (mkT K cls exc) mg base 4 0 "check_text" yax:=gm Z.d_Shelf_check_text zb4 (show ("check_text" : Str) ∉ flds 0 by decide +kernel) fun hr C hu nd =>
 (yad (r_if (yat (o_ne rfl hu) (yab 1) yaf (yan _)) (yad (yaI (yam rfl C (zaB Z) hr.m (yab 0) (zaa (yab 1) yac)))) yaw))
theorem zax : GM P w (mkT K cls exc) mg base 5 0 "signs" yaS:=gm Z.d_Shelf_signs zdt (show ("signs" : Str) ∉ flds 0 by decide +kernel) fun hr C hu nd =>
 (zab (yaI (yam rfl C (zaz Z) hr.m (yab 0) (zaa (yab 1) yac)))
  (yad (yak (r_ix rfl hu (yaP rfl Z.cf_Shelf (yab 0)) (yab 1)))))
theorem zbG : GF P w (mkT K cls exc) mg base 1 "check_length" ybT:=gf Z.d_check_length zc5 fun hr C hu nd =>
 (yad (r_if (yat o_gt (yab 0) (r_gI rfl Z.c_MOST_SIGNS) (yan _)) (yad (zaJ Z.x_TooLong zaI rfl (zaa yaO yac))) yaw))
theorem za6 : GM P w (mkT K cls exc) mg base 5 0 "last_leaf" ybC:=gm Z.d_Shelf_last_leaf zcd (show ("last_leaf" : Str) ∉ flds 0 by decide +kernel) fun hr C hu nd =>
 (zab (yaI (yam rfl C (zaz Z) hr.m (yab 0) (zaa (yab 1) yac)))
  (yad (yak (r_ix rfl hu (yaP rfl Z.cf_Shelf (yab 0)) (yab 1)))))
theorem za4 : GM P w (mkT K cls exc) mg base 5 0 "first_leaf" ybz:=gm Z.d_Shelf_first_leaf zb5 (show ("first_leaf" : Str) ∉ flds 0 by decide +kernel) fun hr C hu nd =>
 (zab (yaI (yam rfl C (zaz Z) hr.m (yab 0) (zaa (yab 1) yac)))
  (yad (yak (r_ix rfl hu (yaP rfl Z.cf_Shelf (yab 0)) (yab 1)))))
theorem ze8 : GF P w (mkT K cls exc) mg base 6 "are_close" yc0:=gf Z.d_are_close zeO fun hr C hu nd =>
 (yad (yak (ycy o_gt (yav (ybq rfl) (yam rfl C (zax Z) hr.m (yab 0) (zaa (yam rfl C (za6 Z) hr.m (yab 0) (zaa (yab 1) yac)) yac)) (yam rfl C (zax Z) hr.m (yab 0) (zaa (yam rfl C (za4 Z) hr.m (yab 0) (zaa (yab 2) yac)) yac))) (r_gI rfl Z.c_LEAF_SIGNS) (yan _))))
theorem zaj : GM P w (mkT K cls exc) mg base 4 0 "piece" yaH:=gm Z.d_Shelf_piece zdu (show ("piece" : Str) ∉ flds 0 by decide +kernel) fun hr C hu nd =>
 (zab (yaI (yam rfl C (zaB Z) hr.m (yab 0) (zaa (yab 1) yac)))
  (yad (yak (r_ix rfl hu (yaP rfl Z.cf_Shelf (yab 0)) (yav yd7 (yab 1) yaf)))))
theorem zcF : ∀ d,GF P w (mkT K cls exc) mg base (5 + d + 1) "with_last" (ybg d)
 | 0=>gf Z.d_with_last zce fun _ _ _ _=>yd2
 | d + 1=>gf Z.d_with_last zce fun hr C hu nd =>
  (zab (yap (i:=3) nd (yam rfl C (zaj Z) (hr.mono (show 4 <= 5 + (d + 1) by lia)) (yab 0) (zaa (yab 1) yac)))
  (zab (r_if (yat (o_eq rfl hu) (r_ix rfl hu (yab 3) yaf) yaO (yan _)) (yad (yak (yab 2))) yaw)
  (yad (yak (yam rfl C (zag Z) (hr.mono (show 5 <= 5 + (d + 1) by lia)) (yab 0) (zaa (r_ix rfl hu (yab 3) yaf) (zaa (yai rfl C (zcF d) (hr.mono (by lia)) rfl (zaa (yab 0) (zaa (r_ix rfl hu (yab 3) yaf) (zaa (yab 2) yac)))) yac)))))))
theorem zam : GM P w (mkT K cls exc) mg base 5 0 "height" yaX:=gm Z.d_Shelf_height zc6 (show ("height" : Str) ∉ flds 0 by decide +kernel) fun hr C hu nd =>
 (zab (yaI (yam rfl C (zaz Z) hr.m (yab 0) (zaa (yab 1) yac)))
  (yad (yak (r_ix rfl hu (yaP rfl Z.cf_Shelf (yab 0)) (yab 1)))))
theorem zb0 : GF P w (mkT K cls exc) mg base 6 "turned_left" yaY:=gf Z.d_turned_left zdv fun hr C hu nd =>
 (zab (r_if (yat o_lt (yav yd7 (yam rfl C (zam Z) hr.m (yab 0) (zaa (yab 2) yac)) (yam rfl C (zam Z) hr.m (yab 0) (zaa (yab 1) yac))) yaf (yan _)) (yad (yak (yam rfl C (zag Z) hr.m (yab 0) (zaa (yab 1) (zaa (yab 2) yac))))) yaw)
  (zab (yap (i:=3) nd (yam rfl C (zaj Z) hr.m (yab 0) (zaa (yab 2) yac)))
  (zab (yap (i:=4) nd (r_ix rfl hu (yab 3) yaf))
  (zab (yap (i:=5) nd (r_ix rfl hu (yab 3) yaf))
  (zab (r_if (yat o_le (yam rfl C (zam Z) hr.m (yab 0) (zaa (yab 4) yac)) (yam rfl C (zam Z) hr.m (yab 0) (zaa (yab 5) yac)) (yan _)) (yad (yak (yam rfl C (zag Z) hr.m (yab 0) (zaa (yam rfl C (zag Z) hr.m (yab 0) (zaa (yab 1) (zaa (yab 4) yac))) (zaa (yab 5) yac))))) yaw)
  (zab (yap (i:=6) nd (yam rfl C (zaj Z) hr.m (yab 0) (zaa (yab 4) yac)))
  (yad (yak (yam rfl C (zag Z) hr.m (yab 0) (zaa (yam rfl C (zag Z) hr.m (yab 0) (zaa (yab 1) (zaa (r_ix rfl hu (yab 6) yaf) yac))) (zaa (yam rfl C (zag Z) hr.m (yab 0) (zaa (r_ix rfl hu (yab 6) yaf) (zaa (yab 5) yac))) yac)))))))))))
theorem zbv : ∀ d,GF P w (mkT K cls exc) mg base (6 + d + 1) "without_first" (yaE d)
 | 0=>gf Z.d_without_first zbi fun _ _ _ _=>yd2
 | d + 1=>gf Z.d_without_first zbi fun hr C hu nd =>
  (zab (yap (i:=2) nd (yam rfl C (zaj Z) (hr.mono (show 4 <= 6 + (d + 1) by lia)) (yab 0) (zaa (yab 1) yac)))
  (zab (r_if (yat (o_eq rfl hu) (r_ix rfl hu (yab 2) yaf) yaO (yan _)) (yad (yak yaf)) yaw)
  (zab (yap (i:=3) nd (yai rfl C (zbv d) (hr.mono (by lia)) rfl (zaa (yab 0) (zaa (r_ix rfl hu (yab 2) yaf) yac))))
  (zab (r_if (yat (o_eq rfl hu) (yab 3) yaf (yan _)) (yad (yak (r_ix rfl hu (yab 2) yaf))) yaw)
  (yad (yak (yai rfl C (zb0 Z) (hr.mono (show 6 <= 6 + (d + 1) by lia)) rfl (zaa (yab 0) (zaa (yab 3) (zaa (r_ix rfl hu (yab 2) yaf) yac))))))))))
theorem zdC : GF P w (mkT K cls exc) mg base 6 "turned_right" ya4:=gf Z.d_turned_right zc7 fun hr C hu nd =>
 (zab (r_if (yat o_lt (yav yd7 (yam rfl C (zam Z) hr.m (yab 0) (zaa (yab 1) yac)) (yam rfl C (zam Z) hr.m (yab 0) (zaa (yab 2) yac))) yaf (yan _)) (yad (yak (yam rfl C (zag Z) hr.m (yab 0) (zaa (yab 1) (zaa (yab 2) yac))))) yaw)
  (zab (yap (i:=3) nd (yam rfl C (zaj Z) hr.m (yab 0) (zaa (yab 1) yac)))
  (zab (yap (i:=4) nd (r_ix rfl hu (yab 3) yaf))
  (zab (yap (i:=5) nd (r_ix rfl hu (yab 3) yaf))
  (zab (r_if (yat o_le (yam rfl C (zam Z) hr.m (yab 0) (zaa (yab 5) yac)) (yam rfl C (zam Z) hr.m (yab 0) (zaa (yab 4) yac)) (yan _)) (yad (yak (yam rfl C (zag Z) hr.m (yab 0) (zaa (yab 4) (zaa (yam rfl C (zag Z) hr.m (yab 0) (zaa (yab 5) (zaa (yab 2) yac))) yac))))) yaw)
  (zab (yap (i:=6) nd (yam rfl C (zaj Z) hr.m (yab 0) (zaa (yab 5) yac)))
  (yad (yak (yam rfl C (zag Z) hr.m (yab 0) (zaa (yam rfl C (zag Z) hr.m (yab 0) (zaa (yab 4) (zaa (r_ix rfl hu (yab 6) yaf) yac))) (zaa (yam rfl C (zag Z) hr.m (yab 0) (zaa (r_ix rfl hu (yab 6) yaf) (zaa (yab 2) yac))) yac)))))))))))
theorem zbY : ∀ d,GF P w (mkT K cls exc) mg base (6 + d + 1) "linked" (ybf d)
 | 0=>gf Z.d_linked zd3 fun _ _ _ _=>yd2
 | d + 1=>gf Z.d_linked zd3 fun hr C hu nd =>
  (zab (yap (i:=3) nd (yav yd7 (yam rfl C (zam Z) (hr.mono (show 5 <= 6 + (d + 1) by lia)) (yab 0) (zaa (yab 1) yac)) (yam rfl C (zam Z) (hr.mono (show 5 <= 6 + (d + 1) by lia)) (yab 0) (zaa (yab 2) yac))))
  (zab (r_if (yat o_gt (yab 3) yaf (yan _)) (zab (yap (i:=4) nd (yam rfl C (zaj Z) (hr.mono (show 4 <= 6 + (d + 1) by lia)) (yab 0) (zaa (yab 1) yac)))
  (yad (yak (yai rfl C (zb0 Z) (hr.mono (show 6 <= 6 + (d + 1) by lia)) rfl (zaa (yab 0) (zaa (r_ix rfl hu (yab 4) yaf) (zaa (yai rfl C (zbY d) (hr.mono (by lia)) rfl (zaa (yab 0) (zaa (r_ix rfl hu (yab 4) yaf) (zaa (yab 2) yac)))) yac))))))) yaw)
  (zab (r_if (yat o_lt (yab 3) (ydy yaf) (yan _)) (zab (yap (i:=4) nd (yam rfl C (zaj Z) (hr.mono (show 4 <= 6 + (d + 1) by lia)) (yab 0) (zaa (yab 2) yac)))
  (yad (yak (yai rfl C (zdC Z) (hr.mono (show 6 <= 6 + (d + 1) by lia)) rfl (zaa (yab 0) (zaa (yai rfl C (zbY d) (hr.mono (by lia)) rfl (zaa (yab 0) (zaa (yab 1) (zaa (r_ix rfl hu (yab 4) yaf) yac)))) (zaa (r_ix rfl hu (yab 4) yaf) yac))))))) yaw)
  (yad (yak (yam rfl C (zag Z) (hr.mono (show 5 <= 6 + (d + 1) by lia)) (yab 0) (zaa (yab 1) (zaa (yab 2) yac))))))))
theorem zih : GF P w (mkT K cls exc) mg base 98 "welded" ycr:=gf Z.d_welded zhd fun hr C hu nd =>
 (zab (yap (i:=3) nd (yav (ybq rfl) (r_ix rfl hu (yam rfl C (zaj Z) hr.m (yab 0) (zaa (yam rfl C (za6 Z) hr.m (yab 0) (zaa (yab 1) yac)) yac)) yaf) (r_ix rfl hu (yam rfl C (zaj Z) hr.m (yab 0) (zaa (yam rfl C (za4 Z) hr.m (yab 0) (zaa (yab 2) yac)) yac)) yaf)))
  (zab (yap (i:=4) nd (yai rfl C (zcF Z 90) hr.m rfl (zaa (yab 0) (zaa (yab 1) (zaa (yam rfl C (zcg Z) hr.m (yab 0) (zaa (yab 3) yac)) yac)))))
  (zab (yap (i:=5) nd (yai rfl C (zbv Z 90) hr.m rfl (zaa (yab 0) (zaa (yab 2) yac))))
  (zab (r_if (yat (o_eq rfl hu) (yab 5) yaf (yan _)) (yad (yak (yab 4))) yaw)
  (yad (yak (yai rfl C (zbY Z 90) hr.m rfl (zaa (yab 0) (zaa (yab 4) (zaa (yab 5) yac))))))))))
theorem zbj : GF P w (mkT K cls exc) mg base 99 "joined" yaU:=gf Z.d_joined zhe fun hr C hu nd =>
 (zab (yaI (yai rfl C (zbG Z) hr.m rfl (zaa (yav (ybq rfl) (yam rfl C (zax Z) hr.m (yab 0) (zaa (yab 1) yac)) (yam rfl C (zax Z) hr.m (yab 0) (zaa (yab 2) yac))) yac)))
  (zab (r_if (yat (o_eq rfl hu) (yab 1) yaf (yan _)) (yad (yak (yab 2))) yaw)
  (zab (r_if (yat (o_eq rfl hu) (yab 2) yaf (yan _)) (yad (yak (yab 1))) yaw)
  (zab (r_if (zau rfl (yai rfl C (ze8 Z) hr.m rfl (zaa (yab 0) (zaa (yab 1) (zaa (yab 2) yac))))) (yad (yak (yai rfl C (zbY Z 90) hr.m rfl (zaa (yab 0) (zaa (yab 1) (zaa (yab 2) yac)))))) yaw)
  (yad (yak (yai rfl C (zih Z) hr.m rfl (zaa (yab 0) (zaa (yab 1) (zaa (yab 2) yac))))))))))
theorem zd4 : ∀ d,GF P w (mkT K cls exc) mg base (99 + d + 1) "doubled" (ya7 d)
 | 0=>gf Z.d_doubled zc8 fun _ _ _ _=>yd2
 | d + 1=>gf Z.d_doubled zc8 fun hr C hu nd =>
  (zab (r_if (yat (o_eq rfl hu) (yab 2) yaf (yan _)) (yad (yak yaf)) yaw)
  (zab (yap (i:=3) nd (yai rfl C (zd4 d) (hr.mono (by lia)) rfl (zaa (yab 0) (zaa (yab 1) (zaa (yav yfb (yab 2) yaf) yac)))))
  (zab (yap (i:=4) nd (yai rfl C (zbj Z) (hr.mono (show 99 <= 99 + (d + 1) by lia)) rfl (zaa (yab 0) (zaa (yab 3) (zaa (yab 3) yac)))))
  (zab (r_if (yat (o_eq rfl hu) (yav ydi (yab 2) yaf) yaf (yan _)) (yad (yak (yab 4))) yaw)
  (yad (yak (yai rfl C (zbj Z) (hr.mono (show 99 <= 99 + (d + 1) by lia)) rfl (zaa (yab 0) (zaa (yab 4) (zaa (yab 1) yac))))))))))
theorem zbZ : GF P w (mkT K cls exc) mg base 165 "repeated" ybn:=gf Z.d_repeated ze5 fun hr C hu nd =>
 (zab (yap (i:=3) nd (yam rfl C (zax Z) hr.m (yab 0) (zaa (yab 1) yac)))
  (zab (r_if (yat o_lt (yab 2) yaf (yan _)) (yad (zaJ Z.x_NoPlace zaI rfl (zaa yaO yac))) yaw)
  (zab (yaI (yai rfl C (zbG Z) hr.m rfl (zaa (yav ycY (yab 3) (yab 2)) yac)))
  (zab (r_if (yat (o_eq rfl hu) (yab 1) yaf (yan _)) (yad (yak yaf)) yaw)
  (yad (yak (yai rfl C (zd4 Z 64) hr.m rfl (zaa (yab 0) (zaa (yab 1) (zaa (yab 2) yac))))))))))
theorem zch : GM P w (mkT K cls exc) mg base 1 0 "many" ycb:=gm Z.d_Shelf_many zec (show ("many" : Str) ∉ flds 0 by decide +kernel) fun hr C hu nd =>
 (yad (yak (r_bi (b_len rfl) rfl Z.b_len PySem.boot_len (zaa (yaP rfl Z.cf_Shelf (yab 0)) yac))))
theorem za9 : GF P w (mkT K cls exc) mg base 1 "_law_take" ybi:=gf Z.d_law_take ze6 fun hr C hu nd =>
 (zab (yap (i:=2) nd (yav ydi (r_ix rfl hu (yab 0) yaf) (yab 1)))
  (zab (zft hu (yab 0) yaf (yav yfb (r_ix rfl hu (yab 0) yaf) (yab 1)))
  (yad (yak (yab 2)))))
theorem ze9 : GF P w (mkT K cls exc) mg base 2 "_law_plain" yb4:=gf Z.d_law_plain zeP fun hr C hu nd =>
 (zab (yap (i:=2) nd (r_ix rfl hu (ybs (zaa yaO (zaa yaO (zaa yaO (zaa yaO (zaa yaO yac)))))) (yai rfl C (za9 Z) hr.m rfl (zaa (yab 0) (zaa yaf yac)))))
  (zab (yap (i:=3) nd yaO)
  (zab (ycz rfl (zbo (E:=EN) rfl Z.b_range (yai rfl (C.nox) (za9 Z) hr.m rfl (zaa (yab 0) (zaa (yav (ybq rfl) (yab 1) yaf) yac)))) (zaG (i:=4) nd) (yad (yap (i:=3) nd (yav (ybq rfl) (yab 3) (r_ix rfl hu (yab 2) (yai rfl (C.nox) (za9 Z) hr.m rfl (zaa (yab 0) (zaa (r_bi (b_len rfl) rfl Z.b_len PySem.boot_len (zaa (yab 2) yac)) yac))))))))
  (yad (yak (yab 3))))))
theorem zbk : GF P w (mkT K cls exc) mg base 5 "whole_left" yaW:=gf Z.d_whole_left zed fun hr C hu nd =>
 (zab (yaI (yam rfl C (zaz Z) hr.m (yab 0) (zaa (yab 1) yac)))
  (yad (yak (yf4 (yat (o_eq rfl hu) (yab 1) yaf (yan _)) (ybs yac) (yca (zaa (yab 1) yac))))))
theorem zd5 : GF P w (mkT K cls exc) mg base 6 "size_of" ybb:=gf Z.d_size_of zgu fun hr C hu nd =>
 (zab (r_if (zau rfl (yd8 rfl rfl Z.b_isinstance (yab 1) rfl Z.b_str yem (by decide))) (yad (yak (r_bi (b_len rfl) rfl Z.b_len PySem.boot_len (zaa (yab 1) yac)))) yaw)
  (yad (yak (yam rfl C (zax Z) hr.m (yab 0) (zaa (yab 1) yac)))))
theorem zbl : GF P w (mkT K cls exc) mg base 5 "opens_fork" ya8:=gf Z.d_opens_fork zee fun hr C hu nd =>
 (zab (r_if (zau rfl (yd8 rfl rfl Z.b_isinstance (yab 2) rfl Z.b_str yem (by decide))) (yad (yak r_bl)) yaw)
  (zab (yap (i:=3) nd (yam rfl C (zaj Z) hr.m (yab 0) (zaa (yab 2) yac)))
  (zab (r_if (yat (o_eq rfl hu) (r_ix rfl hu (yab 3) yaf) yaO (yan _)) (yad (yak r_bl)) yaw)
  (zab (yaI (r_bm rfl PySem.F.plainAttrs_list PySem.F.slot_list_append PySem.F.type_list_append (zan) zak (yab 1) (zaa (r_ix rfl hu (yab 3) yaf) yac)))
  (zab (yaI (r_bm rfl PySem.F.plainAttrs_list PySem.F.slot_list_append PySem.F.type_list_append (zan) zak (yab 1) (zaa (r_ix rfl hu (yab 3) yaf) yac)))
  (yad (yak r_bl)))))))
theorem zaX : GF P w (mkT K cls exc) mg base 6 "next_signs" ybl:=gf Z.d_next_signs zef fun hr C hu nd =>
 (zab (zbb yaQ (yat (o_ne rfl hu) (yab 1) (ybs yac) (yan _)) (zab (yap (i:=2) nd (yet rfl PySem.F.plainAttrs_list PySem.F.slot_list_pop PySem.F.type_list_pop (yeu) zak (yab 1)))
  (zab (r_if (zau rfl (yd8 rfl rfl Z.b_isinstance (yab 2) rfl Z.b_str yem (by decide))) (yad (yak (yab 2))) yaw)
  (yad (r_if (yc3 (zau rfl (yai rfl (C.nox) (zbl Z) hr.m rfl (zaa (yab 0) (zaa (yab 1) (zaa (yab 2) yac)))))) (yad (yak (r_ix rfl hu (yam rfl (C.nox) (zaj Z) hr.m (yab 0) (zaa (yab 2) yac)) yaf))) yaw)))))
  (yad (yak yaO)))
theorem zbx : GF P w (mkT K cls exc) mg base 1 "puts_back" ybQ:=gf Z.d_puts_back zeQ fun hr C hu nd =>
 (yad (r_if (yat (o_ne rfl hu) (yab 1) yaO (yan _)) (yad (yaI (r_bm rfl PySem.F.plainAttrs_list PySem.F.slot_list_append PySem.F.type_list_append (zan) zak (yab 0) (zaa (yab 1) yac)))) yaw))
theorem zdD : GF P w (mkT K cls exc) mg base 7 "common_signs" ybU:=gf Z.d_common_signs zc9 fun hr C hu nd =>
 (zab (yap (i:=3) nd (yai rfl C (zaX Z) hr.m rfl (zaa (yab 0) (zaa (yab 1) yac))))
  (zab (yap (i:=4) nd (yai rfl C (zaX Z) hr.m rfl (zaa (yab 0) (zaa (yab 2) yac))))
  (zab (yap (i:=5) nd yaf)
  (zab (zbb yaQ (rt_w (yer (yat o_lt (yab 5) (r_bi (yfE) rfl Z.b_min PyProof.Rows.boot_min (zaa (r_bi (b_len rfl) rfl Z.b_len PySem.boot_len (zaa (yab 3) yac)) (zaa (r_bi (b_len rfl) rfl Z.b_len PySem.boot_len (zaa (yab 4) yac)) yac))) (yan _)) (zck (yat (o_eq rfl hu) (r_ix rfl hu (yab 3) (yab 5)) (r_ix rfl hu (yab 4) (yab 5)) (yan _))))) (yad (yap (i:=5) nd (yav (ybq rfl) (yab 5) yaf))))
  (zab (yaI (yai rfl C (zbx Z) hr.m rfl (zaa (yab 1) (zaa (zaC rfl (yab 3) (zaA (yab 5)) zaH) yac))))
  (zab (yaI (yai rfl C (zbx Z) hr.m rfl (zaa (yab 2) (zaa (zaC rfl (yab 4) (zaA (yab 5)) zaH) yac))))
  (yad (yak (zaC rfl (yab 3) zaH (zaA (yab 5)))))))))))
theorem zeh : GF P w (mkT K cls exc) mg base 8 "common_item" ya9:=gf Z.d_common_item zdw fun hr C hu nd =>
 (zab (zbb yaQ (yat (o_ne rfl hu) (r_ix rfl hu (yab 1) (ydy yaf)) (r_ix rfl hu (yab 2) (ydy yaf)) (yan _)) (zab (yap (i:=3) nd (ycy o_lt (yai rfl (C.nox) (zd5 Z) hr.m rfl (zaa (yab 0) (zaa (r_ix rfl hu (yab 1) (ydy yaf)) yac))) (yai rfl (C.nox) (zd5 Z) hr.m rfl (zaa (yab 0) (zaa (r_ix rfl hu (yab 2) (ydy yaf)) yac))) (yan _)))
  (zab (yap (i:=4) nd (yf4 (zau rfl (yab 3)) (yab 2) (yab 1)))
  (zab (yap (i:=5) nd (yet rfl PySem.F.plainAttrs_list PySem.F.slot_list_pop PySem.F.type_list_pop (yeu) zak (yab 4)))
  (yad (r_if (yc3 (zau rfl (yai rfl (C.nox) (zbl Z) hr.m rfl (zaa (yab 0) (zaa (yab 4) (zaa (yab 5) yac)))))) (zab (yaI (r_bm rfl PySem.F.plainAttrs_list PySem.F.slot_list_append PySem.F.type_list_append (zan) zak (yab 4) (zaa (yab 5) yac)))
  (yad (yak (yai rfl (C.nox) (zdD Z) hr.m rfl (zaa (yab 0) (zaa (yab 1) (zaa (yab 2) yac))))))) yaw))))))
  (zab (yaI (yet rfl PySem.F.plainAttrs_list PySem.F.slot_list_pop PySem.F.type_list_pop (yeu) zak (yab 2)))
  (yad (yak (yet rfl PySem.F.plainAttrs_list PySem.F.slot_list_pop PySem.F.type_list_pop (yeu) zak (yab 1))))))
theorem zdE : GF P w (mkT K cls exc) mg base 9 "common_items" ybx:=gf Z.d_common_items zda fun hr C hu nd =>
 (zab (yap (i:=3) nd (yca yac))
  (zab (zbb yaQ (rt_w (yer (yat (o_ne rfl hu) (yab 1) (ybs yac) (yan _)) (zck (yat (o_ne rfl hu) (yab 2) (ybs yac) (yan _))))) (zab (yap (i:=4) nd (yai rfl (C.nox) (zeh Z) hr.m rfl (zaa (yab 0) (zaa (yab 1) (zaa (yab 2) yac)))))
  (zab (r_if (yat (o_eq rfl hu) (yab 4) yaO (yan _)) (yad ziR) yaw)
  (yad (yaI (r_bm rfl PySem.F.plainAttrs_list PySem.F.slot_list_append PySem.F.type_list_append (zan) zak (yab 3) (zaa (yab 4) yac)))))))
  (yad (yak (yab 3)))))
theorem za3 : GF P w (mkT K cls exc) mg base 7 "next_sign" ybh:=gf Z.d_next_sign zeR fun hr C hu nd =>
 (yad (yak (zaC rfl (yai rfl C (zaX Z) hr.m rfl (zaa (yab 0) (zaa (yab 1) yac))) zaH (zaA yaf))))
theorem zaK : GF P w (mkT K cls exc) mg base 10 "held_together" yaj:=gf Z.d_held_together zcS fun hr C hu nd =>
 (zab (yap (i:=3) nd (r_bi (yfD) rfl Z.b_max PyProof.Rows.boot_max (zaa (yam rfl C (zax Z) hr.m (yab 0) (zaa (yab 1) yac)) (zaa (yam rfl C (zax Z) hr.m (yab 0) (zaa (yab 2) yac)) yac))))
  (zab (r_if (rt_w (yer (yat (o_ne rfl hu) (yab 1) (yab 2) (yan _)) (zck (yat o_gt (yab 3) (r_gI rfl Z.c_MOST_PLAIN) (yan _))))) (yad (zaJ Z.x_TooLong zaI rfl (zaa yaO yac))) yaw)
  (zab (yap (i:=4) nd (yai rfl C (zbk Z) hr.m rfl (zaa (yab 0) (zaa (yab 1) yac))))
  (zab (yap (i:=5) nd (yai rfl C (zbk Z) hr.m rfl (zaa (yab 0) (zaa (yab 2) yac))))
  (zab (yap (i:=6) nd (yai rfl C (zdE Z) hr.m rfl (zaa (yab 0) (zaa (yab 4) (zaa (yab 5) yac)))))
  (zab (r_if (rt_w (yer (yat (o_eq rfl hu) (yab 4) (ybs yac) (yan _)) (zck (yat (o_eq rfl hu) (yab 5) (ybs yac) (yan _))))) (yad (yak (ybj (zaa yaO (zaa (yab 6) yac))))) yaw)
  (yad (yak (ybj (zaa yaO (zaa (yab 6) (zaa (yai rfl C (za3 Z) hr.m rfl (zaa (yab 0) (zaa (yab 4) yac))) (zaa (yai rfl C (za3 Z) hr.m rfl (zaa (yab 0) (zaa (yab 5) yac))) yac)))))))))))))
theorem zei : GF P w (mkT K cls exc) mg base 6 "takes_piece" ybo:=gf Z.d_takes_piece zdx fun hr C hu nd =>
 (zab (zbb yaQ (yat (o_ne rfl hu) (yab 1) (ybs yac) (yan _)) (zab (yap (i:=3) nd (yet rfl PySem.F.plainAttrs_list PySem.F.slot_list_pop PySem.F.type_list_pop (yeu) zak (yab 1)))
  (zab (r_if (yat (o_eq rfl hu) (yab 3) (yab 2) (yan _)) (yad (yak r_bl)) yaw)
  (yad (r_if (yc3 (zau rfl (yai rfl (C.nox) (zbl Z) hr.m rfl (zaa (yab 0) (zaa (yab 1) (zaa (yab 3) yac)))))) (yad (yak r_bl)) yaw)))))
  (yad (yak r_bl)))
theorem zej : GF P w (mkT K cls exc) mg base 7 "takes_plain" ybu:=gf Z.d_takes_plain zdy fun hr C hu nd =>
 (zab (yap (i:=3) nd (yab 2))
  (zab (zbb yaQ (yat (o_ne rfl hu) (yab 3) yaO (yan _)) (zab (yap (i:=4) nd (yai rfl (C.nox) (zaX Z) hr.m rfl (zaa (yab 0) (zaa (yab 1) yac))))
  (zab (yap (i:=5) nd (r_bi (yfE) rfl Z.b_min PyProof.Rows.boot_min (zaa (r_bi (b_len rfl) rfl Z.b_len PySem.boot_len (zaa (yab 4) yac)) (zaa (r_bi (b_len rfl) rfl Z.b_len PySem.boot_len (zaa (yab 3) yac)) yac))))
  (zab (r_if (rt_w (yfc (yat (o_eq rfl hu) (yab 5) yaf (yan _)) (yeU (yat (o_ne rfl hu) (zaC rfl (yab 4) zaH (zaA (yab 5))) (zaC rfl (yab 3) zaH (zaA (yab 5))) (yan _))))) (yad (yak r_bl)) yaw)
  (zab (yaI (yai rfl (C.nox) (zbx Z) hr.m rfl (zaa (yab 1) (zaa (zaC rfl (yab 4) (zaA (yab 5)) zaH) yac))))
  (yad (yap (i:=3) nd (zaC rfl (yab 3) (zaA (yab 5)) zaH))))))))
  (yad (yak r_bl))))
theorem zeU : GF P w (mkT K cls exc) mg base 8 "takes_item" yaZ:=gf Z.d_takes_item zeg fun hr C hu nd =>
 (zab (r_if (zau rfl (yam rfl C (za5 Z) hr.m (yab 0) (zaa (yab 2) yac))) (yad (yak (yai rfl C (zei Z) hr.m rfl (zaa (yab 0) (zaa (yab 1) (zaa (yab 2) yac)))))) yaw)
  (yad (yak (ydj (yai rfl C (zdd Z) hr.m rfl (zaa (yab 2) yac)) (ydz (yai rfl C (zej Z) hr.m rfl (zaa (yab 0) (zaa (yab 1) (zaa (yab 2) yac)))))))))
theorem zb1 : GF P w (mkT K cls exc) mg base 9 "left_behind" yaM:=gf Z.d_left_behind zdz fun hr C hu nd =>
 (zab (yap (i:=3) nd (yai rfl C (zbk Z) hr.m rfl (zaa (yab 0) (zaa (yab 1) yac))))
  (zab (ycz rfl (yc4 (E:=EN) rfl (yab 2)) (zaG (i:=4) nd) (yad (r_if (yc3 (zau rfl (yai rfl (C.nox) (zeU Z) hr.m rfl (zaa (yab 0) (zaa (yab 3) (zaa (yab 4) yac)))))) (yad (yak yfa)) yaw)))
  (yad (yak (yab 3)))))
theorem zb2 : GF P w (mkT K cls exc) mg base 10 "told_stands" yal:=gf Z.d_told_stands zdA fun hr C hu nd =>
 (zab (yap (i:=4) nd (yai rfl C (zb1 Z) hr.m rfl (zaa (yab 0) (zaa (yab 1) (zaa (r_ix rfl hu (yab 3) yaf) yac)))))
  (zab (yap (i:=5) nd (yai rfl C (zb1 Z) hr.m rfl (zaa (yab 0) (zaa (yab 2) (zaa (r_ix rfl hu (yab 3) yaf) yac)))))
  (zab (r_if (rt_w (yfc (yat yf3 (yab 4) yfa (yan _)) (yeU (yat yf3 (yab 5) yfa (yan _))))) (yad (yak r_bl)) yaw)
  (zab (r_if (yat (o_eq rfl hu) (r_ix rfl hu (yab 3) yaf) yaO (yan _)) (yad (yak (ydj (ycy (o_eq rfl hu) (r_bi (b_len rfl) rfl Z.b_len PySem.boot_len (zaa (yab 3) yac)) yaf (yan _)) (ydj (ycy (o_eq rfl hu) (yab 4) (ybs yac) (yan _)) (ydz (ycy (o_eq rfl hu) (yab 5) (ybs yac) (yan _))))))) yaw)
  (zab (yap (i:=6) nd (ybj (zaa (yai rfl C (za3 Z) hr.m rfl (zaa (yab 0) (zaa (yab 4) yac))) (zaa (yai rfl C (za3 Z) hr.m rfl (zaa (yab 0) (zaa (yab 5) yac))) yac))))
  (yad (yak (ydj (ycy (o_eq rfl hu) (r_ix rfl hu (yab 3) yaf) yaO (yan _)) (ydj (ycy (o_eq rfl hu) (zaC rfl (yab 3) (zaA yaf) zaH) (yab 6) (yan _)) (ydz (ycy (o_ne rfl hu) (r_ix rfl hu (yab 6) yaf) (r_ix rfl hu (yab 6) yaf) (yan _))))))))))))
theorem zaS : GF P w (mkT K cls exc) mg base 11 "_law_refused" yas:=gf Z.d_law_refused zdB fun hr C hu nd =>
 (zab (yap (i:=4) nd (ybs yac))
  (zab (yha (i:=5) rfl nd rfl Z.ct_SkeinError (fun _ _ Ex2 C2 R2=>(yad (r_if (yat (o_eq rfl hu) (yab 3) yaf (yan _)) (yad (yaI (yai rfl C2 (zaK Z) hr.m rfl (zaa (yab 0) (zaa (yab 1) (zaa (yab 2) yac)))))) (yad (r_if (yat (o_eq rfl hu) (yab 3) yaf (yan _)) (yad (yaI (yai rfl C2 (zb2 Z) hr.m rfl (zaa (yab 0) (zaa (yab 1) (zaa (yab 2) (zaa (ybj (zaa yaO (zaa (ybs yac) yac))) yac))))))) (yad (yaI (yai rfl C2 (zb2 Z) hr.m rfl (zaa (yab 0) (zaa (yab 1) (zaa (yab 2) (zaa (ybj (zaa yaO (zaa (ybs yac) (zaa yaO (zaa yaO yac))))) yac)))))))))))) (fun _ C3=>(yad (yap (i:=4) nd (ybs (zaa (yfe rfl rfl Z.b_isinstance (yab 5) rfl Z.kx_NoPiece) (zaa (yfe rfl rfl Z.b_isinstance (yab 5) rfl Z.kx_TooLong) (zaa (yg9 rfl rfl Z.b_isinstance (yab 5) rfl Z.b_ValueError yih Z.kx_ValueError) (zaa (yfe rfl rfl Z.b_isinstance (yab 5) rfl Z.kx_NoPlace) yac)))))))))
  (yad (yak (yab 4)))))
theorem yit {f : Addr} {fd : FuncData} (h4 : Fun K "law" "law" yeN f fd) : FnOk P w K mg base (CXE P w) 166 f fd ["script"] (spA (mkT K cls exc) yfh):=gl (T:=mkT K cls exc) h4 yhC fun hr C hu nd =>
 (zab (yap (i:=1) nd (yai rfl C (zeS Z) hr.m rfl (zaa (yab 0) (zaa yaf yac))))
  (zab (yap (i:=2) nd (ziX rfl C (zeT Z) hr.m rfl))
  (zab (yap (i:=3) nd (yai rfl C (za0 Z) hr.m rfl (zaa (yab 2) (zaa (yav (ybq rfl) yaO (yai rfl C (ze9 Z) hr.m rfl (zaa (yab 1) (zaa yaf yac)))) yac))))
  (zab (yap (i:=4) nd (r_ix rfl hu yaO (yai rfl C (za9 Z) hr.m rfl (zaa (yab 1) (zaa yaf yac)))))
  (zab (yap (i:=5) nd (yai rfl C (zbZ Z) hr.m rfl (zaa (yab 2) (zaa (yai rfl C (za0 Z) hr.m rfl (zaa (yab 2) (zaa (yav yd3 (yab 4) yaf) yac))) (zaa yaf yac)))))
  (zab (yap (i:=6) nd (yai rfl C (zbj Z) hr.m rfl (zaa (yab 2) (zaa (yai rfl C (za0 Z) hr.m rfl (zaa (yab 2) (zaa (yav yd3 (yab 4) yaf) yac))) (zaa (yai rfl C (zbZ Z) hr.m rfl (zaa (yab 2) (zaa (yai rfl C (za0 Z) hr.m rfl (zaa (yab 2) (zaa (yav yd3 (yab 4) yaf) yac))) (zaa yaf yac)))) yac)))))
  (zab (yap (i:=6) nd (yai rfl C (zbj Z) hr.m rfl (zaa (yab 2) (zaa (yab 6) (zaa (yai rfl C (za0 Z) hr.m rfl (zaa (yab 2) (zaa (yav yd3 (yab 4) yaf) yac))) yac)))))
  (zab (yap (i:=7) nd (yai rfl C (zbj Z) hr.m rfl (zaa (yab 2) (zaa (yab 5) (zaa (yai rfl C (za0 Z) hr.m rfl (zaa (yab 2) (zaa yaO yac))) yac)))))
  (zab (yap (i:=8) nd (yai rfl C (zbZ Z) hr.m rfl (zaa (yab 2) (zaa (yai rfl C (za0 Z) hr.m rfl (zaa (yab 2) (zaa (yav yd3 (yab 4) yaf) yac))) (zaa (yav ydx yaf yaf) yac)))))
  (zab (yap (i:=9) nd (zfq rfl C (zch Z) hr.m (yab 2)))
  (zab (yap (i:=10) nd (yav ydi (r_bi (b_sum rfl) rfl Z.b_sum PyProof.Rows.boot_sum (zaa (yab 0) yac)) (yav ydx yaf yaf)))
  (zab (ycz rfl (yc4 (E:=EN) rfl (ybs (zaa (ydy yaf) (zaa (yav (ybq rfl) (yab 9) yaf) (zaa (yav (ybq rfl) (yav (ybq rfl) (yab 9) yaf) (yab 10)) (zaa (yav yd7 (ydy yaf) (yab 10)) yac)))))) (zaG (i:=11) nd) (yad (ycz rfl (zbo (E:=EN) rfl Z.b_range yaf) (zaG (i:=12) nd) (yad (ycz rfl (yc4 (E:=EN) rfl (ybs (zaa (ybj (zaa (yab 11) (zaa (yab 3) yac))) (zaa (ybj (zaa (yab 3) (zaa (yab 11) yac))) (zaa (ybj (zaa (yab 11) (zaa yaf yac))) (zaa (ybj (zaa yaf (zaa (yab 11) yac))) (zaa (ybj (zaa (yab 11) (zaa (yab 11) yac))) (zaa (ybj (zaa (yab 11) (zaa (yab 8) yac))) (zaa (ybj (zaa (yab 7) (zaa (yab 11) yac))) yac))))))))) (zaG (i:=13) nd) (yad (r_if (yat (o_ne rfl hu) (yai rfl (((C.nox).nox).nox) (zaS Z) hr.m rfl (zaa (yab 2) (zaa (r_ix rfl hu (yab 13) yaf) (zaa (r_ix rfl hu (yab 13) yaf) (zaa (yab 12) yac))))) (ybs (zaa r_bl (zaa r_bl (zaa r_bl (zaa r_bl yac))))) (yan _)) (yad (yak r_bl)) yaw)))))))
  (zab (ycz rfl (yc4 (E:=EN) rfl (ybs (zaa (ybj (zaa (yab 7) (zaa (yab 3) yac))) (zaa (ybj (zaa (yab 3) (zaa (yab 7) yac))) (zaa (ybj (zaa (yab 8) (zaa (yab 7) yac))) (zaa (ybj (zaa (yab 7) (zaa (yab 5) yac))) (zaa (ybj (zaa (yab 8) (zaa yaf yac))) (zaa (ybj (zaa yaf (zaa (yab 7) yac))) yac)))))))) (zaG (i:=13) nd) (zab (r_if (yat (o_ne rfl hu) (yai rfl (C.nox) (zaS Z) hr.m rfl (zaa (yab 2) (zaa (r_ix rfl hu (yab 13) yaf) (zaa (r_ix rfl hu (yab 13) yaf) (zaa yaf yac))))) (ybs (zaa r_bl (zaa r_bl (zaa r_bl (zaa r_bl yac))))) (yan _)) (yad (yak r_bl)) yaw)
  (yad (ycz rfl (yc4 (E:=EN) rfl (ybs (zaa yaf (zaa yaf yac)))) (zaG (i:=12) nd) (yad (r_if (yat (o_ne rfl hu) (yai rfl ((C.nox).nox) (zaS Z) hr.m rfl (zaa (yab 2) (zaa (r_ix rfl hu (yab 13) yaf) (zaa (r_ix rfl hu (yab 13) yaf) (zaa (yab 12) yac))))) (ybs yac) (yan _)) (yad (yak r_bl)) yaw))))))
  (zab (ycz rfl (yc4 (E:=EN) rfl (ybs (zaa (ybj (zaa (yab 7) (zaa (yab 7) yac))) (zaa (ybj (zaa (yab 8) (zaa (yab 8) yac))) (zaa (ybj (zaa (yab 5) (zaa (yab 6) yac))) (zaa (ybj (zaa (yab 6) (zaa (yab 5) yac))) (zaa (ybj (zaa (yab 5) (zaa (yab 3) yac))) (zaa (ybj (zaa yaf (zaa (yab 5) yac))) yac)))))))) (zaG (i:=13) nd) (yad (ycz rfl (zbo (E:=EN) rfl Z.b_range yaf) (zaG (i:=12) nd) (yad (r_if (yat (o_ne rfl hu) (yai rfl ((C.nox).nox) (zaS Z) hr.m rfl (zaa (yab 2) (zaa (r_ix rfl hu (yab 13) yaf) (zaa (r_ix rfl hu (yab 13) yaf) (zaa (yab 12) yac))))) (ybs yac) (yan _)) (yad (yak r_bl)) yaw)))))
  (zab (r_if (rt_w (yfc (yat (o_ne rfl hu) (r_ix rfl hu (yai rfl C (zaK Z) hr.m rfl (zaa (yab 2) (zaa (yab 8) (zaa (yab 8) yac)))) yaf) yaO (yan _)) (yeU (yat (o_ne rfl hu) (r_ix rfl hu (yai rfl C (zaK Z) hr.m rfl (zaa (yab 2) (zaa (yab 5) (zaa (yab 6) yac)))) yaf) yaO (yan _))))) (yad (yak r_bl)) yaw)
  (yad (yak (ydj (ycy (o_eq rfl hu) (zfq rfl C (zch Z) hr.m (yab 2)) (yab 9) (yan _)) (ydz (ycy (o_eq rfl hu) (r_ix rfl hu (yai rfl C (zaK Z) hr.m rfl (zaa (yab 2) (zaa (yab 5) (zaa yaf yac)))) yaf) yaO (yan _)))))))))))))))))))))
end
end Sk
namespace Sk
open PySem PySem.Spec L2 Sm
abbrev FX (l : PySem.W.OpenLaw) (w : World) (K : PySem.W.Frag) (mg : Str -> Option Value) (fa : Addr) : Prop:=∃ fd : FuncData,(∀ (s : Shared) (v : Value),BindsTo s fd ⟨[v],[]⟩ [("script",v)]) /\ ∀ base : Heap,K.In base -> base.Ns mainGlobals mg -> FnOk l.prog w K mg base (CXE l.prog w) 166 fa fd ["script"] (spL K)
theorem all_mk {l : PySem.W.OpenLaw} {w : World} {K : PySem.W.Frag} {h : Heap} {mg : Str -> Option Value} {fa C0 X0 X1 X2 X3 X4 X5 X6 : Addr} {tk_LEAF_SIGNS tk_MOST_PLAIN tk_MOST_SIGNS : Tok} (X : K.In h) (G : h.Ns mainGlobals mg) (hfa : mg "law" = some (.ref fa))
  (aC0 : NA K "Shelf" (some (.ref C0))) (a2 : DN K C0 "__init__" "Shelf.__init__" ydp) (a4 : DN K C0 "has_piece" "Shelf.has_piece" ycl) (a5 : DN K C0 "check_piece" "Shelf.check_piece" yb5) (a6 : DN K C0 "check_fork" "Shelf.check_fork" ycd) (a7 : DN K C0 "lay" "Shelf.lay" ydF) (a8 : DN K C0 "lay_fork" "Shelf.lay_fork" ycs) (a9 : DN K C0 "fork" "Shelf.fork" ydq) (a15 : DN K C0 "lay_leaf" "Shelf.lay_leaf" yct) (a16 : DN K C0 "leaf" "Shelf.leaf" ydr) (a18 : DN K C0 "check_text" "Shelf.check_text" yce) (a19 : DN K C0 "signs" "Shelf.signs" yc6) (a21 : DN K C0 "last_leaf" "Shelf.last_leaf" ycm) (a22 : DN K C0 "first_leaf" "Shelf.first_leaf" ycf) (a24 : DN K C0 "piece" "Shelf.piece" yc7) (a26 : DN K C0 "height" "Shelf.height" ycS) (a35 : DN K C0 "many" "Shelf.many" yds) (a0 : DK K "_law_mixed" ydE) (a1 : DK K "_law_stream" ycI) (a3 : DK K "is_whole" ydW) (a10 : DK K "halved" yed) (a11 : DK K "is_plain_sign" ycJ) (a12 : DK K "is_plain" ydm) (a13 : DK K "is_short" ydX) (a14 : DK K "ends_in" yd4) (a17 : DK K "built" yeb) (a20 : DK K "check_length" ycR) (a23 : DK K "are_close" ydG) (a25 : DK K "with_last" ydH) (a27 : DK K "turned_left" yc8) (a28 : DK K "without_first" ycK) (a29 : DK K "turned_right" ycT) (a30 : DK K "linked" yee) (a31 : DK K "welded" yef) (a32 : DK K "joined" yeg) (a33 : DK K "doubled" yd5) (a34 : DK K "repeated" ydY) (a36 : DK K "_law_take" ydZ) (a37 : DK K "_law_plain" ydI) (a38 : DK K "whole_left" ydt) (a39 : DK K "size_of" yd6) (a40 : DK K "opens_fork" ydu) (a41 : DK K "next_signs" ydv) (a42 : DK K "puts_back" ydJ) (a43 : DK K "common_signs" ycU) (a44 : DK K "common_item" yc9) (a45 : DK K "common_items" ycV) (a46 : DK K "next_sign" ydK) (a47 : DK K "held_together" ycL) (a48 : DK K "takes_piece" yda) (a49 : DK K "takes_plain" ydb) (a50 : DK K "takes_item" ydw) (a51 : DK K "left_behind" ydc) (a52 : DK K "told_stands" ydd) (a53 : DK K "_law_refused" yde) (a54 : DK K "law" yeN) (kk0 : Cls K C0) (mk0 : PySem.W.makesIn K C0 = true) (kc0 : PySem.W.keepIn K (.ref C0) = true) (nf0_0 : FA K C0 "pieces") (nf0_1 : FA K C0 "numbers") (nf0_2 : FA K C0 "sign_counts") (nf0_3 : FA K C0 "end_counts") (nf0_4 : FA K C0 "leaf_counts") (nf0_5 : FA K C0 "heights") (nf0_6 : FA K C0 "first_leaves") (nf0_7 : FA K C0 "last_leaves") (z_ValueError : NA K "ValueError" none) (z_abs : NA K "abs" none) (z_all : NA K "all" none) (z_bool : NA K "bool" none) (z_int : NA K "int" none) (z_isinstance : NA K "isinstance" none) (z_len : NA K "len" none) (z_max : NA K "max" none) (z_min : NA K "min" none) (z_range : NA K "range" none) (z_str : NA K "str" none) (z_sum : NA K "sum" none) (e_SkeinError : NA K "SkeinError" (some (.ref X0))) (e_NoText : NA K "NoText" (some (.ref X1))) (x_NoText : XI K X1) (e_NoPiece : NA K "NoPiece" (some (.ref X2))) (x_NoPiece : XI K X2) (e_Loose : NA K "Loose" (some (.ref X3))) (x_Loose : XI K X3) (e_Unlevel : NA K "Unlevel" (some (.ref X4))) (x_Unlevel : XI K X4) (e_TooLong : NA K "TooLong" (some (.ref X5))) (x_TooLong : XI K X5) (e_NoPlace : NA K "NoPlace" (some (.ref X6))) (x_NoPlace : XI K X6) (m_LEAF_SIGNS : NA K "LEAF_SIGNS" (some (.int 8 tk_LEAF_SIGNS))) (m_MOST_PLAIN : NA K "MOST_PLAIN" (some (.int 10000 tk_MOST_PLAIN))) (m_MOST_SIGNS : NA K "MOST_SIGNS" (some (.int 1000000000000000000 tk_MOST_SIGNS))) (y0 : ExcK K X0) (y1 : ExcK K X1) (y2 : ExcK K X2) (y3 : ExcK K X3) (y4 : ExcK K X4) (y5 : ExcK K X5) (y6 : ExcK K X6) (kt_NoPiece_0 : KO K X0 X2 false) (kt_NoPiece_1 : KO K X1 X2 false) (kt_NoPiece_2 : KO K X2 X2 true) (kt_NoPiece_3 : KO K X3 X2 false) (kt_NoPiece_4 : KO K X4 X2 false) (kt_NoPiece_5 : KO K X5 X2 false) (kt_NoPiece_6 : KO K X6 X2 false) (kt_NoPlace_0 : KO K X0 X6 false) (kt_NoPlace_1 : KO K X1 X6 false) (kt_NoPlace_2 : KO K X2 X6 false) (kt_NoPlace_3 : KO K X3 X6 false) (kt_NoPlace_4 : KO K X4 X6 false) (kt_NoPlace_5 : KO K X5 X6 false) (kt_NoPlace_6 : KO K X6 X6 true) (kt_TooLong_0 : KO K X0 X5 false) (kt_TooLong_1 : KO K X1 X5 false) (kt_TooLong_2 : KO K X2 X5 false) (kt_TooLong_3 : KO K X3 X5 false) (kt_TooLong_4 : KO K X4 X5 false) (kt_TooLong_5 : KO K X5 X5 true) (kt_TooLong_6 : KO K X6 X5 false) (kt_ValueError_0 : PySem.W.kitOne K (.ref X0) (.type "ValueError") = some true) (kt_ValueError_1 : PySem.W.kitOne K (.ref X1) (.type "ValueError") = some true) (kt_ValueError_2 : PySem.W.kitOne K (.ref X2) (.type "ValueError") = some true) (kt_ValueError_3 : PySem.W.kitOne K (.ref X3) (.type "ValueError") = some true) (kt_ValueError_4 : PySem.W.kitOne K (.ref X4) (.type "ValueError") = some true) (kt_ValueError_5 : PySem.W.kitOne K (.ref X5) (.type "ValueError") = some true) (kt_ValueError_6 : PySem.W.kitOne K (.ref X6) (.type "ValueError") = some true) (em_SkeinError_0 : XO K X0 X0) (em_SkeinError_1 : XO K X1 X0) (em_SkeinError_2 : XO K X2 X0) (em_SkeinError_3 : XO K X3 X0) (em_SkeinError_4 : XO K X4 X0) (em_SkeinError_5 : XO K X5 X0) (em_SkeinError_6 : XO K X6 X0)
  : FX l w K mg fa:=by
 have Z : ∀ base : Heap,K.In base -> Facts l.prog w K (fun n=>[C0][n]?) (fun n=>[X0,X1,X2,X3,X4,X5,X6][n]?) mg base:=fun base KB=>{
   b_ValueError:=PySem.W.mg_none_of X G z_ValueError,
   b_abs:=PySem.W.mg_none_of X G z_abs,
   b_all:=PySem.W.mg_none_of X G z_all,
   b_bool:=PySem.W.mg_none_of X G z_bool,
   b_int:=PySem.W.mg_none_of X G z_int,
   b_isinstance:=PySem.W.mg_none_of X G z_isinstance,
   b_len:=PySem.W.mg_none_of X G z_len,
   b_max:=PySem.W.mg_none_of X G z_max,
   b_min:=PySem.W.mg_none_of X G z_min,
   b_range:=PySem.W.mg_none_of X G z_range,
   b_str:=PySem.W.mg_none_of X G z_str,
   b_sum:=PySem.W.mg_none_of X G z_sum,
   c_LEAF_SIGNS:=⟨_,PySem.W.mg_of X G m_LEAF_SIGNS⟩,
   c_MOST_PLAIN:=⟨_,PySem.W.mg_of X G m_MOST_PLAIN⟩,
   c_MOST_SIGNS:=⟨_,PySem.W.mg_of X G m_MOST_SIGNS⟩,
   cf_Shelf:=⟨C0,rfl,kk0,fun f hf=>by
   have hf2 : f ∈ flds 0:=hf
   simp only [flds,List.mem_cons,List.not_mem_nil,or_false] at hf2
   rcases hf2 with rfl | rfl | rfl | rfl | rfl | rfl | rfl | rfl
   ·exact nf0_0
   ·exact nf0_1
   ·exact nf0_2
   ·exact nf0_3
   ·exact nf0_4
   ·exact nf0_5
   ·exact nf0_6
   ·exact nf0_7⟩,
   x_NoText:=gx KB X G rfl e_NoText x_NoText,
   x_NoPiece:=gx KB X G rfl e_NoPiece x_NoPiece,
   x_Loose:=gx KB X G rfl e_Loose x_Loose,
   x_Unlevel:=gx KB X G rfl e_Unlevel x_Unlevel,
   x_TooLong:=gx KB X G rfl e_TooLong x_TooLong,
   x_NoPlace:=gx KB X G rfl e_NoPlace x_NoPlace,
   d_law_mixed:=dg X G a0 bl2,
   d_law_stream:=dg X G a1 bl2,
   d_Shelf_init:=di rfl (PySem.W.mg_of X G aC0) mk0 kc0 a2 bl1,
   d_is_whole:=dg X G a3 bl1,
   d_Shelf_has_piece:=dm rfl kk0 a4 bl2,
   d_Shelf_check_piece:=dm rfl kk0 a5 bl2,
   d_Shelf_check_fork:=dm rfl kk0 a6 bl3,
   d_Shelf_lay:=dm rfl kk0 a7 bl2,
   d_Shelf_lay_fork:=dm rfl kk0 a8 bl2,
   d_Shelf_fork:=dm rfl kk0 a9 bl3,
   d_halved:=dg X G a10 bl2,
   d_is_plain_sign:=dg X G a11 bl1,
   d_is_plain:=dg X G a12 bl1,
   d_is_short:=dg X G a13 bl1,
   d_ends_in:=dg X G a14 bl1,
   d_Shelf_lay_leaf:=dm rfl kk0 a15 bl2,
   d_Shelf_leaf:=dm rfl kk0 a16 bl2,
   d_built:=dg X G a17 bl2,
   d_Shelf_check_text:=dm rfl kk0 a18 bl2,
   d_Shelf_signs:=dm rfl kk0 a19 bl2,
   d_check_length:=dg X G a20 bl1,
   d_Shelf_last_leaf:=dm rfl kk0 a21 bl2,
   d_Shelf_first_leaf:=dm rfl kk0 a22 bl2,
   d_are_close:=dg X G a23 bl3,
   d_Shelf_piece:=dm rfl kk0 a24 bl2,
   d_with_last:=dg X G a25 bl3,
   d_Shelf_height:=dm rfl kk0 a26 bl2,
   d_turned_left:=dg X G a27 bl3,
   d_without_first:=dg X G a28 bl2,
   d_turned_right:=dg X G a29 bl3,
   d_linked:=dg X G a30 bl3,
   d_welded:=dg X G a31 bl3,
   d_joined:=dg X G a32 bl3,
   d_doubled:=dg X G a33 bl3,
   d_repeated:=dg X G a34 bl3,
   d_Shelf_many:=dm rfl kk0 a35 bl1,
   d_law_take:=dg X G a36 bl2,
   d_law_plain:=dg X G a37 bl2,
   d_whole_left:=dg X G a38 bl2,
   d_size_of:=dg X G a39 bl2,
   d_opens_fork:=dg X G a40 bl3,
   d_next_signs:=dg X G a41 bl2,
   d_puts_back:=dg X G a42 bl2,
   d_common_signs:=dg X G a43 bl3,
   d_common_item:=dg X G a44 bl3,
   d_common_items:=dg X G a45 bl3,
   d_next_sign:=dg X G a46 bl2,
   d_held_together:=dg X G a47 bl3,
   d_takes_piece:=dg X G a48 bl3,
   d_takes_plain:=dg X G a49 bl3,
   d_takes_item:=dg X G a50 bl3,
   d_left_behind:=dg X G a51 bl3,
   d_told_stands:=dg X G a52 bl4,
   d_law_refused:=dg X G a53 bl4,
   d_law:=dg X G a54 bl1,
   kx_NoPiece:=⟨X2,PySem.W.mg_of X G e_NoPiece,(fun c C' h=>match c,C',h with
    | 0,_,rfl=>⟨y0,kt_NoPiece_0⟩
    | 1,_,rfl=>⟨y1,kt_NoPiece_1⟩
    | 2,_,rfl=>⟨y2,kt_NoPiece_2⟩
    | 3,_,rfl=>⟨y3,kt_NoPiece_3⟩
    | 4,_,rfl=>⟨y4,kt_NoPiece_4⟩
    | 5,_,rfl=>⟨y5,kt_NoPiece_5⟩
    | 6,_,rfl=>⟨y6,kt_NoPiece_6⟩
    | _ + 7,_,h=>nomatch h)⟩,
   kx_NoPlace:=⟨X6,PySem.W.mg_of X G e_NoPlace,(fun c C' h=>match c,C',h with
    | 0,_,rfl=>⟨y0,kt_NoPlace_0⟩
    | 1,_,rfl=>⟨y1,kt_NoPlace_1⟩
    | 2,_,rfl=>⟨y2,kt_NoPlace_2⟩
    | 3,_,rfl=>⟨y3,kt_NoPlace_3⟩
    | 4,_,rfl=>⟨y4,kt_NoPlace_4⟩
    | 5,_,rfl=>⟨y5,kt_NoPlace_5⟩
    | 6,_,rfl=>⟨y6,kt_NoPlace_6⟩
    | _ + 7,_,h=>nomatch h)⟩,
   kx_TooLong:=⟨X5,PySem.W.mg_of X G e_TooLong,(fun c C' h=>match c,C',h with
    | 0,_,rfl=>⟨y0,kt_TooLong_0⟩
    | 1,_,rfl=>⟨y1,kt_TooLong_1⟩
    | 2,_,rfl=>⟨y2,kt_TooLong_2⟩
    | 3,_,rfl=>⟨y3,kt_TooLong_3⟩
    | 4,_,rfl=>⟨y4,kt_TooLong_4⟩
    | 5,_,rfl=>⟨y5,kt_TooLong_5⟩
    | 6,_,rfl=>⟨y6,kt_TooLong_6⟩
    | _ + 7,_,h=>nomatch h)⟩,
   kx_ValueError:=(fun c C' h=>match c,C',h with
    | 0,_,rfl=>⟨y0,kt_ValueError_0⟩
    | 1,_,rfl=>⟨y1,kt_ValueError_1⟩
    | 2,_,rfl=>⟨y2,kt_ValueError_2⟩
    | 3,_,rfl=>⟨y3,kt_ValueError_3⟩
    | 4,_,rfl=>⟨y4,kt_ValueError_4⟩
    | 5,_,rfl=>⟨y5,kt_ValueError_5⟩
    | 6,_,rfl=>⟨y6,kt_ValueError_6⟩
    | _ + 7,_,h=>nomatch h),
   ct_SkeinError:=⟨X0,PySem.W.mg_of X G e_SkeinError,(fun c C' z h=>match c,C',z,h with
    | 0,_,_,rfl=>em_SkeinError_0
    | 1,_,_,rfl=>em_SkeinError_1
    | 2,_,_,rfl=>em_SkeinError_2
    | 3,_,_,rfl=>em_SkeinError_3
    | 4,_,_,rfl=>em_SkeinError_4
    | 5,_,_,rfl=>em_SkeinError_5
    | 6,_,_,rfl=>em_SkeinError_6
    | _ + 7,_,_,h=>nomatch h)⟩ }
 obtain ⟨fd,h1,F⟩:=dlaw (p := "script") X G hfa a54 bl1
 exact ⟨fd,h1,fun base KB _=>FnOk.imp (yit (Z base KB) F) (zi1 (T:=mkT K (fun n=>[C0][n]?) (fun n=>[X0,X1,X2,X3,X4,X5,X6][n]?)) law_true)⟩
theorem walk {l : PySem.W.OpenLaw} {q : Program} {loose : List Str} {XP : (Str -> Option Value) -> Heap -> Prop} {YP : World -> Heap -> Prop} {d : DefRec} {K : Params -> PySem.W.Frag} (hn : l.most = some 63) (hdf : d.params.defaults = [])
  (hY : ∀ (w : World) (h : Heap),YP w h -> (K w.params).In h)
  (F : ∀ (w : World) (mg : Str -> Option Value) (fa : Addr) (h : Heap),(K w.params).In h -> h.Ns mainGlobals mg -> mg d.name = some (.ref fa) -> FX l w (K w.params) mg fa) :
  PySem.W.WalkO q loose XP YP l.row.toRowW d [] (fun f vs=>PySem.call f vs) :=
 L2.walk_of (n:=63) (k:=166) (x := "script") (CX:=fun w=>CXE l.prog w) (sp:=fun w=>spL (K w.params)) hn (by decide) hdf ⟨rfl,by decide,by decide⟩ hY F (fun _ _ a ns hl _ hS=>⟨a,ns,rfl,hS,hl,fun _=>rfl⟩) fun _ _ _ _ _ z=>zg2 z
end Sk
open PySem PySem.W PyProof.Rows
section
namespace PySem.W.Fast
def tw10782883250864387591:=0
def tw124687961726397586:=0
def tw1683373133316970175:=0
def tw7591522796210268831:=0
def tw3616861935988627071:=0
def tw14309831578405993855:=0
def tw12145895514418591007:=0
def tw15362751979124303007:=0
def tw4242446269919573119:=0
def tw16649471427182233598:=0
def tw14521455524022368190:=0
def tw16554755400352122782:=0
def tw7365676451987148510:=0
def tw17623975904697428254:=0
def tw5060831768748260638:=0
def tw50227384066279614:=0
def tw11463041977754965150:=0
def tw14589469592632813405:=0
def tw12419683687217405597:=0
def tw16697676731401504029:=0
def tw7229965153048294653:=0
def tw17941224882490661053:=0
def tw6829488863532169341:=0
def tw13530291317569974301:=0
def tw14205845237787499516:=0
def tw12728862689893747644:=0
def tw8467676481181275036:=0
def tw12661481731338080156:=0
def tw10478502550867639996:=0
def tw11320463053424166588:=0
def tw13006940187813770908:=0
def tw14077044299383132796:=0
def tw6181329949173604956:=0
def tw693575922759111260:=0
def tw8322009094647760444:=0
def tw4504632836250045916:=0
def tw12576141526700162396:=0
def tw13078217995236358460:=0
def tw7670343800575606972:=0
def tw2494769993685201787:=0
def tw12835911828542251771:=0
def tw17834617731901017851:=0
def tw10956381893332000411:=0
def tw16870735801317650907:=0
def tw9433338467593916763:=0
def tw18005137199365190971:=0
def tw13027059562003499291:=0
def tw7195166747322129659:=0
def tw17003165982594789499:=0
def tw412303725790101498:=0
def tw2044405613082702682:=0
def tw10758277175115929946:=0
def tw7196021644373213370:=0
def tw8699143856494920794:=0
def tw2462029376933627962:=0
def tw1439804391313235002:=0
def tw5589620944017752057:=0
def tw13775920403681663929:=0
def tw1277837868875320153:=0
def tw17111493671260704441:=0
def tw4544642664744451705:=0
def tw5544347144993278521:=0
def tw11286305689078160953:=0
def tw9652985049179678041:=0
def tw7962487586520579257:=0
def tw8358756550656508057:=0
def tw717749833345766328:=0
def tw65048605389625176:=0
def tw13378106822737278584:=0
def tw10846193899775415768:=0
def tw15146901009137759672:=0
def tw6288988426288523704:=0
def tw8119362655407104376:=0
def tw12982237311886931288:=0
def tw8570744085538055512:=0
def tw7892020145982180472:=0
def tw8460360813156535416:=0
def tw17136758791337181272:=0
def tw8499274037672496216:=0
def tw7849333141797245847:=0
def tw11644938513548276599:=0
def tw12221201342192317239:=0
def tw13281822186193670807:=0
def tw6223248413853416023:=0
def tw3023048776836271639:=0
def tw3895695066953239063:=0
def tw10638223480729998807:=0
def tw10882567298250248503:=0
def tw12579172192428025111:=0
def tw140859005884884151:=0
def tw17044099637822053463:=0
def tw1928443023889160215:=0
def tw6746786322314319702:=0
def tw16715194966462286646:=0
def tw8092808143956658966:=0
def tw5787113557049566870:=0
def tw13220573300320907766:=0
def tw8480718430941146518:=0
def tw6841558896485406006:=0
def tw1152623982216969302:=0
def tw10491986776911976502:=0
def tw6955793532208770037:=0
def tw8414813225815658453:=0
def tw7676786469799737141:=0
def tw2571985381118475957:=0
def tw10280959288833509973:=0
def tw6690025619239247413:=0
def tw12367032439624920501:=0
def tw11578953357665039605:=0
def tw5226379299685720213:=0
def tw10643518485583209557:=0
def tw10458003357297086388:=0
def tw6454091704372833140:=0
def tw10786484540987591508:=0
def tw7256087536827907860:=0
def tw4534034628090127092:=0
def tw3192274506167836340:=0
def tw11757625883762141876:=0
def tw5711752543326598740:=0
def tw12855889489279598964:=0
def tw13205902007242829972:=0
def tw4899961608611296340:=0
def tw8058972977995811860:=0
def tw16796534954305695731:=0
def tw671286918958903123:=0
def tw13797780629249877747:=0
def tw4571968939604537043:=0
def tw3906997733124797139:=0
def tw14770408368756236979:=0
def tw17687411750342526611:=0
def tw3484278842774571667:=0
def tw9174214187742513715:=0
def tw5259239856634711571:=0
def tw7542356666956849651:=0
def tw4269655331062619603:=0
def tw8285871850512371987:=0
def tw10744299148653262899:=0
def tw1054606303036286995:=0
def tw14460799652302770162:=0
def tw2566585588225792882:=0
def tw2813836855942082354:=0
def tw15915893273712174802:=0
def tw14385539107618082450:=0
def tw13285010840783718002:=0
def tw12054029050108450162:=0
def tw266368037676894546:=0
def tw9184200555972009266:=0
def tw12763343410791554194:=0
def tw5352758824514776178:=0
def tw2409653670371717041:=0
def tw10050049767609861841:=0
def tw17601439413377458865:=0
def tw1087547225012292817:=0
def tw18319568887860570321:=0
def tw16536079320799155377:=0
def tw13628001521937029233:=0
def tw7975333696946692209:=0
def tw14973275663389241328:=0
def tw1946249726066532304:=0
def tw13263775307088386864:=0
def tw11870555405287654064:=0
def tw8696331648181190256:=0
def tw12204518453963190832:=0
def tw14616495007003364784:=0
def tw15909328500029947280:=0
def tw4797535001196537104:=0
def tw14033134478126691440:=0
def tw9105255693377973296:=0
def tw2089536456234454032:=0
def tw12337007876139891599:=0
def tw7965403678792630063:=0
def tw15766521175494355727:=0
def tw5832423170538761903:=0
def tw3896257802247592623:=0
def tw14573815010330698383:=0
def tw1241970295059491311:=0
def tw4092544111462722031:=0
def tw8047948726125751150:=0
def tw18412920242470563534:=0
def tw15384054306911912654:=0
def tw12584590933894411950:=0
def tw14618229485268266606:=0
def tw10299842676259664494:=0
def tw10703851298289200750:=0
def tw6946358456794302030:=0
def tw1384764961191534158:=0
def tw6368539925355962606:=0
def tw3627754137076786318:=0
def tw2469029214817075278:=0
def tw17944110578728984557:=0
def tw6890441238071853005:=0
def tw12269038858573735853:=0
def tw5835958218162062125:=0
def tw15845316263299883821:=0
def tw8324407485849719565:=0
def tw11312504896416972333:=0
def tw1253543447593241069:=0
def tw2427362176052386253:=0
def tw3104840445906285869:=0
def tw16602960284169263405:=0
def tw6056459215738749229:=0
def tw3802918613038457965:=0
def tw15080839680491510893:=0
def tw8139102177754700845:=0
def tw14572060814728281101:=0
def tw1772138285597518796:=0
def tw3855205523017627308:=0
def tw5084200238762144428:=0
def tw5543613097814685292:=0
def tw146612449750220364:=0
def tw18127579016631176780:=0
def tw9263109437423182380:=0
def tw7937492586185281068:=0
def tw6105287271671443948:=0
def tw17836582550173809068:=0
def tw15606744723738895724:=0
def tw16914456777507427564:=0
def tw2430960840934302860:=0
def tw9002779865742402636:=0
def tw9952215892977108012:=0
def tw14220758230198370348:=0
def tw3279228026707906572:=0
def tw11989663389814980620:=0
def tw11715897717285238731:=0
def tw16258431839635924939:=0
def tw14572118270768929707:=0
def tw13460791738153561803:=0
def tw12180283352311598763:=0
def tw16812013479576478251:=0
def tw4922548470411531755:=0
def tw14754035606443400651:=0
def tw15799146575341157707:=0
def tw14611155509303616619:=0
def tw5847147795276058602:=0
def tw7666788164714429354:=0
def tw11341025049092405130:=0
def tw13025103872375960330:=0
def tw7807078143877157578:=0
def tw10116510767733703370:=0
def tw17471699105617813866:=0
def tw602268764391865578:=0
def tw7380636050259275978:=0
def tw8686115079815373994:=0
def tw9552101360412563401:=0
def tw8988566794488747913:=0
def tw6815499586977529705:=0
def tw9697155754302529225:=0
def tw1252790836519818953:=0
def tw2181043623549309609:=0
def tw17609005881116767881:=0
def tw7466035522115436105:=0
def tw7229230931746383305:=0
def tw909066466349715721:=0
def tw8329792661711664361:=0
def tw2028011512505675945:=0
def tw13241239689869611145:=0
def tw16458975152046738408:=0
def tw309156835398417288:=0
def tw18119591154163367752:=0
def tw4379279339952290600:=0
def tw1468150589947008712:=0
def tw9079647582536956552:=0
def tw5884346476733003336:=0
def tw17840429377089760712:=0
def tw18095200052574799112:=0
def tw5037834485594386600:=0
def tw16897049682690574440:=0
def tw4232388311292986440:=0
def tw17176246464039918600:=0
def tw6079467488061628295:=0
def tw3073676159079602887:=0
def tw16004159057795738183:=0
def tw7712383277328636423:=0
def tw16852504362983152103:=0
def tw419991157818695143:=0
def tw4104257610279801287:=0
def tw2420192258194477447:=0
def tw8674175828552042823:=0
def tw17401302937773390119:=0
def tw7744772381233473799:=0
def tw3042027169104828551:=0
def tw2138911842804263015:=0
def tw2766364867382698087:=0
def tw17340917902435347463:=0
def tw13224211581287160774:=0
def tw17390966367848692454:=0
def tw9057131129384040134:=0
def tw17754050587667942086:=0
def tw16550972370261700230:=0
def tw6990913016408599974:=0
def tw16229947980027009382:=0
def tw1121549321017460070:=0
def tw17203721555677740262:=0
def tw14722940689626829990:=0
def tw1461719958127164582:=0
def tw723659682556628038:=0
def tw244697006187233286:=0
def tw4551581200845924933:=0
def tw9017658402574805509:=0
def tw4725980108710084037:=0
def tw11213763618557601093:=0
def tw11449040419893942437:=0
def tw14281870330930790501:=0
def tw3185223326062525412:=0
def tw7060782522926127844:=0
def tw10651930988637908580:=0
def tw13805812453824072292:=0
def tw10013470451916137924:=0
def tw17296858430203425124:=0
def tw12916463375236300100:=0
def tw13430545481697746084:=0
def tw13865405149885172707:=0
def tw8422717984093827011:=0
def tw11630622159274161955:=0
def tw8168083641828741827:=0
def tw5974575628415917379:=0
def tw16248726562966042947:=0
def tw16683382787140103427:=0
def tw8251504489420515555:=0
def tw6747386921033441475:=0
def tw10757096420386163650:=0
def tw16027894709429535650:=0
def tw3247539119216299810:=0
def tw2075689646127484674:=0
def tw11149867881398580962:=0
def tw1930885687055497794:=0
def tw17719138030409603554:=0
def tw16772321230763960674:=0
def tw16365778296647028930:=0
def tw933307837421252642:=0
def tw17264892033170046945:=0
def tw9334639993896015841:=0
def tw14731792431583959009:=0
def tw10981609840817837025:=0
def tw7926091345729088449:=0
def tw15773831334808532929:=0
def tw6244826110492917665:=0
def tw2615841900838228865:=0
def tw9455062458387945185:=0
def tw16140768810464079489:=0
def tw904582273365132865:=0
def tw8971748807940875809:=0
def tw8968957752194829857:=0
def tw7736623291317729697:=0
def tw3412747836629279009:=0
def tw15650251893823535329:=0
def tw11459655578787894465:=0
def tw3452191662455045185:=0
def tw15888401512266298369:=0
def tw4013480654948352001:=0
def tw15677870895474253760:=0
def tw14937187109476473792:=0
def tw17296620016218432352:=0
def tw7867054798325064512:=0
def tw16581357154888962752:=0
def tw4873383392127000256:=0
def tw8840940862055742944:=0
def tw11363730005530186848:=0
end PySem.W.Fast
end
set_option maxRecDepth 100000 in
set_option maxHeartbeats 0 in
theorem PySem.Challenge.cw_skeinwood_k65_likes_refused_holds : PySem.Challenge.rw_skeinwood_k65_likes_refused.Holds := by
 w_on; o_law; k_head; (case hw => w_witness2)
 k_fill
 refine Sk.walk (l := PySem.Challenge.rw_skeinwood_k65_likes_refused) rfl rfl (fun w h Y => PySem.W.kIn_of Y) ?F
 case F =>
  intro w mg fa h KX G hmg
  refine' Sk.all_mk KX G hmg ?aC0 ?a2 ?a4 ?a5 ?a6 ?a7 ?a8 ?a9 ?a15 ?a16 ?a18 ?a19 ?a21 ?a22 ?a24 ?a26 ?a35 ?a0 ?a1 ?a3 ?a10 ?a11 ?a12 ?a13 ?a14 ?a17 ?a20 ?a23 ?a25 ?a27 ?a28 ?a29 ?a30 ?a31 ?a32 ?a33 ?a34 ?a36 ?a37 ?a38 ?a39 ?a40 ?a41 ?a42 ?a43 ?a44 ?a45 ?a46 ?a47 ?a48 ?a49 ?a50 ?a51 ?a52 ?a53 ?a54 ?kk0 ?mk0 ?kc0 ?nf0_0 ?nf0_1 ?nf0_2 ?nf0_3 ?nf0_4 ?nf0_5 ?nf0_6 ?nf0_7 ?z_ValueError ?z_abs ?z_all ?z_bool ?z_int ?z_isinstance ?z_len ?z_max ?z_min ?z_range ?z_str ?z_sum ?e_SkeinError ?e_NoText ?x_NoText ?e_NoPiece ?x_NoPiece ?e_Loose ?x_Loose ?e_Unlevel ?x_Unlevel ?e_TooLong ?x_TooLong ?e_NoPlace ?x_NoPlace ?m_LEAF_SIGNS ?m_MOST_PLAIN ?m_MOST_SIGNS ?y0 ?y1 ?y2 ?y3 ?y4 ?y5 ?y6 ?kt_NoPiece_0 ?kt_NoPiece_1 ?kt_NoPiece_2 ?kt_NoPiece_3 ?kt_NoPiece_4 ?kt_NoPiece_5 ?kt_NoPiece_6 ?kt_NoPlace_0 ?kt_NoPlace_1 ?kt_NoPlace_2 ?kt_NoPlace_3 ?kt_NoPlace_4 ?kt_NoPlace_5 ?kt_NoPlace_6 ?kt_TooLong_0 ?kt_TooLong_1 ?kt_TooLong_2 ?kt_TooLong_3 ?kt_TooLong_4 ?kt_TooLong_5 ?kt_TooLong_6 ?kt_ValueError_0 ?kt_ValueError_1 ?kt_ValueError_2 ?kt_ValueError_3 ?kt_ValueError_4 ?kt_ValueError_5 ?kt_ValueError_6 ?em_SkeinError_0 ?em_SkeinError_1 ?em_SkeinError_2 ?em_SkeinError_3 ?em_SkeinError_4 ?em_SkeinError_5 ?em_SkeinError_6
  (case aC0 => apply Sm.na;k_is)
  (case a2 => apply Sm.dn<;>k_is)
  (case a4 => apply Sm.dn<;>k_is)
  (case a5 => apply Sm.dn<;>k_is)
  (case a6 => apply Sm.dn<;>k_is)
  (case a7 => apply Sm.dn<;>k_is)
  (case a8 => apply Sm.dn<;>k_is)
  (case a9 => apply Sm.dn<;>k_is)
  (case a15 => apply Sm.dn<;>k_is)
  (case a16 => apply Sm.dn<;>k_is)
  (case a18 => apply Sm.dn<;>k_is)
  (case a19 => apply Sm.dn<;>k_is)
  (case a21 => apply Sm.dn<;>k_is)
  (case a22 => apply Sm.dn<;>k_is)
  (case a24 => apply Sm.dn<;>k_is)
  (case a26 => apply Sm.dn<;>k_is)
  (case a35 => apply Sm.dn<;>k_is)
  (case a0 => apply Sm.dk<;>k_is)
  (case a1 => apply Sm.dk<;>k_is)
  (case a3 => apply Sm.dk<;>k_is)
  (case a10 => apply Sm.dk<;>k_is)
  (case a11 => apply Sm.dk<;>k_is)
  (case a12 => apply Sm.dk<;>k_is)
  (case a13 => apply Sm.dk<;>k_is)
  (case a14 => apply Sm.dk<;>k_is)
  (case a17 => apply Sm.dk<;>k_is)
  (case a20 => apply Sm.dk<;>k_is)
  (case a23 => apply Sm.dk<;>k_is)
  (case a25 => apply Sm.dk<;>k_is)
  (case a27 => apply Sm.dk<;>k_is)
  (case a28 => apply Sm.dk<;>k_is)
  (case a29 => apply Sm.dk<;>k_is)
  (case a30 => apply Sm.dk<;>k_is)
  (case a31 => apply Sm.dk<;>k_is)
  (case a32 => apply Sm.dk<;>k_is)
  (case a33 => apply Sm.dk<;>k_is)
  (case a34 => apply Sm.dk<;>k_is)
  (case a36 => apply Sm.dk<;>k_is)
  (case a37 => apply Sm.dk<;>k_is)
  (case a38 => apply Sm.dk<;>k_is)
  (case a39 => apply Sm.dk<;>k_is)
  (case a40 => apply Sm.dk<;>k_is)
  (case a41 => apply Sm.dk<;>k_is)
  (case a42 => apply Sm.dk<;>k_is)
  (case a43 => apply Sm.dk<;>k_is)
  (case a44 => apply Sm.dk<;>k_is)
  (case a45 => apply Sm.dk<;>k_is)
  (case a46 => apply Sm.dk<;>k_is)
  (case a47 => apply Sm.dk<;>k_is)
  (case a48 => apply Sm.dk<;>k_is)
  (case a49 => apply Sm.dk<;>k_is)
  (case a50 => apply Sm.dk<;>k_is)
  (case a51 => apply Sm.dk<;>k_is)
  (case a52 => apply Sm.dk<;>k_is)
  (case a53 => apply Sm.dk<;>k_is)
  (case a54 => apply Sm.dk<;>k_is)
  (case kk0 => constructor<;>k_is)
  (case mk0 => k_is)
  (case kc0 => k_is)
  (case nf0_0 => apply Sm.fatt;k_is)
  (case nf0_1 => apply Sm.fatt;k_is)
  (case nf0_2 => apply Sm.fatt;k_is)
  (case nf0_3 => apply Sm.fatt;k_is)
  (case nf0_4 => apply Sm.fatt;k_is)
  (case nf0_5 => apply Sm.fatt;k_is)
  (case nf0_6 => apply Sm.fatt;k_is)
  (case nf0_7 => apply Sm.fatt;k_is)
  (case z_ValueError => apply Sm.na;k_is)
  (case z_abs => apply Sm.na;k_is)
  (case z_all => apply Sm.na;k_is)
  (case z_bool => apply Sm.na;k_is)
  (case z_int => apply Sm.na;k_is)
  (case z_isinstance => apply Sm.na;k_is)
  (case z_len => apply Sm.na;k_is)
  (case z_max => apply Sm.na;k_is)
  (case z_min => apply Sm.na;k_is)
  (case z_range => apply Sm.na;k_is)
  (case z_str => apply Sm.na;k_is)
  (case z_sum => apply Sm.na;k_is)
  (case e_SkeinError => apply Sm.na;k_is)
  (case e_NoText => apply Sm.na;k_is)
  (case x_NoText => apply Sm.xi;k_exc)
  (case e_NoPiece => apply Sm.na;k_is)
  (case x_NoPiece => apply Sm.xi;k_exc)
  (case e_Loose => apply Sm.na;k_is)
  (case x_Loose => apply Sm.xi;k_exc)
  (case e_Unlevel => apply Sm.na;k_is)
  (case x_Unlevel => apply Sm.xi;k_exc)
  (case e_TooLong => apply Sm.na;k_is)
  (case x_TooLong => apply Sm.xi;k_exc)
  (case e_NoPlace => apply Sm.na;k_is)
  (case x_NoPlace => apply Sm.xi;k_exc)
  (case m_LEAF_SIGNS => apply Sm.na;k_is)
  (case m_MOST_PLAIN => apply Sm.na;k_is)
  (case m_MOST_SIGNS => apply Sm.na;k_is)
  (case y0 => apply Sm.excK_of<;>k_is)
  (case y1 => apply Sm.excK_of<;>k_is)
  (case y2 => apply Sm.excK_of<;>k_is)
  (case y3 => apply Sm.excK_of<;>k_is)
  (case y4 => apply Sm.excK_of<;>k_is)
  (case y5 => apply Sm.excK_of<;>k_is)
  (case y6 => apply Sm.excK_of<;>k_is)
  (case kt_NoPiece_0 => apply Sm.ko;kit_is)
  (case kt_NoPiece_1 => apply Sm.ko;kit_is)
  (case kt_NoPiece_2 => apply Sm.ko;kit_is)
  (case kt_NoPiece_3 => apply Sm.ko;kit_is)
  (case kt_NoPiece_4 => apply Sm.ko;kit_is)
  (case kt_NoPiece_5 => apply Sm.ko;kit_is)
  (case kt_NoPiece_6 => apply Sm.ko;kit_is)
  (case kt_NoPlace_0 => apply Sm.ko;kit_is)
  (case kt_NoPlace_1 => apply Sm.ko;kit_is)
  (case kt_NoPlace_2 => apply Sm.ko;kit_is)
  (case kt_NoPlace_3 => apply Sm.ko;kit_is)
  (case kt_NoPlace_4 => apply Sm.ko;kit_is)
  (case kt_NoPlace_5 => apply Sm.ko;kit_is)
  (case kt_NoPlace_6 => apply Sm.ko;kit_is)
  (case kt_TooLong_0 => apply Sm.ko;kit_is)
  (case kt_TooLong_1 => apply Sm.ko;kit_is)
  (case kt_TooLong_2 => apply Sm.ko;kit_is)
  (case kt_TooLong_3 => apply Sm.ko;kit_is)
  (case kt_TooLong_4 => apply Sm.ko;kit_is)
  (case kt_TooLong_5 => apply Sm.ko;kit_is)
  (case kt_TooLong_6 => apply Sm.ko;kit_is)
  (case kt_ValueError_0 => kit_is)
  (case kt_ValueError_1 => kit_is)
  (case kt_ValueError_2 => kit_is)
  (case kt_ValueError_3 => kit_is)
  (case kt_ValueError_4 => kit_is)
  (case kt_ValueError_5 => kit_is)
  (case kt_ValueError_6 => kit_is)
  (case em_SkeinError_0 => apply Sm.xo;kts_exm)
  (case em_SkeinError_1 => apply Sm.xo;kts_exm)
  (case em_SkeinError_2 => apply Sm.xo;kts_exm)
  (case em_SkeinError_3 => apply Sm.xo;kts_exm)
  (case em_SkeinError_4 => apply Sm.xo;kts_exm)
  (case em_SkeinError_5 => apply Sm.xo;kts_exm)
  (case em_SkeinError_6 => apply Sm.xo;kts_exm)
