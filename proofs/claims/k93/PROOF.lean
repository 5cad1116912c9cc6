import PyProof.Rows.All
import Wide.All
import OpenK.AllK
import Wide.FinOn
import Lean
import PyProof.EqAt
import PyProof.EqKinds
import PyProof.TupleCall
import PyProof.StrCalls2
import PyProof.SumAny
import PyProof.Rows.Range3
import PyProof.StrBlockI
import PyProof.SliceStr2
import PyProof.IsRules
import PyProof.StrBlock2
import PyProof.Seq
import PyProof.ZipIter
import PyProof.ListNew
import KE.KItemsList
import PyProof.StrLawsIn
import PySem.Challenge.RW_skeinwood_k93_whole_deeds_of_all_kinds
set_option Elab.async false
set_option linter.all false
set_option maxRecDepth 100000
noncomputable section
namespace L2
open PySem PySem.Spec PyProof.Rows
abbrev Key:=Sum Int Str
abbrev b01 (b : Bool) : Int:=if b then 1 else 0
def ydw : Key -> Value -> Bool
 | .inl k,.bool b=>decide (k = b01 b)
 | .inl k,v=>Value.isInt k v
 | .inr x,v=>Value.isStrOf x v
def keyH (w : World) : Key -> Int
 | .inl k=>hashInt k
 | .inr x=>hashStr w x
theorem zau : ∀ {k : Key} {v : Value},ydw k v = true -> (∃ i t,k = Sum.inl i /\ v = Value.int i t) \/ (∃ b,k = Sum.inl (b01 b) /\ v = Value.bool b) \/ (∃ x t,k = Sum.inr x /\ v = Value.str x t)
 | .inl i,v,h=>by
  cases v with
  | bool b=>exact .inr (.inl ⟨b,by rw [of_decide_eq_true (show decide (i = b01 b) = true from h)],rfl⟩)
  | int j t =>
   obtain ⟨t,e⟩:=Value.isInt_shape (k:=i) (v:=.int j t) h
   exact .inl ⟨i,t,rfl,e⟩
  | _=>exact absurd h (by simp [ydw,Value.isInt])
 | .inr x,v,h=>by
  obtain ⟨t,e⟩:=Value.isStrOf_shape (x:=x) (v:=v) h
  exact .inr (.inr ⟨x,t,rfl,e⟩)
theorem zgt (i : Int) (t : Tok) : ydw (.inl i) (.int i t) = true:=by simp [ydw,Value.isInt]
theorem zgu (x : Str) (t : Tok) : ydw (.inr x) (.str x t) = true:=by simp [ydw,Value.isStrOf]
theorem yeK (a b : Int) : decide ((Sum.inl a : Key) = Sum.inl b) = (a == b):=by
 by_cases e : a = b
 ·subst e; simp
 ·have h : ¬ (Sum.inl a : Key) = Sum.inl b:=fun q=>e (Sum.inl.inj q)
  rw [decide_eq_false h]
  exact (beq_eq_false_iff_ne.mpr e).symm
theorem yf2 (a b : Str) : decide ((Sum.inr a : Key) = Sum.inr b) = decide (a = b):=by
 by_cases e : a = b
 ·subst e; simp
 ·have h : ¬ (Sum.inr a : Key) = Sum.inr b:=fun q=>e (Sum.inr.inj q)
  rw [decide_eq_false h,decide_eq_false e]
theorem yfd (a : Int) (b : Str) : decide ((Sum.inl a : Key) = Sum.inr b) = false:=decide_eq_false (fun q=>nomatch q)
theorem yfe (a : Str) (b : Int) : decide ((Sum.inr a : Key) = Sum.inl b) = false:=decide_eq_false (fun q=>nomatch q)
theorem zcc {prog : Program} {w : World} {A : Around} {E : Value -> Shared -> Prop} {s : Shared} {b : Bool} {Q : Int -> Shared -> Prop} (h : Q (hashInt (b01 b)) { s with toks:=s.toks + 1 }) :
  wpAny (model prog w) A (pyHash (.bool b)) Q E s:=by
 unfold pyHash
 unfold pyHashByItsType
 have hv : [Value.bool b].any Value.onHeap = false:=rfl
 refine wpAny_bind ?_
 rw [cRoomFor,if_neg (by rw [hv]; exact Bool.false_ne_true)]; refine wpAny_pure ?_
 refine wpAny_bind (wpAny_specialOf (PySem.typeIs_bool s b) PySem.F.slot_bool_hash.lookup ?_)
 show wpAny _ _ (if (some (Value.builtin "int.__hash__") == some Value.none) = true then _ else _) Q E s
 rw [if_neg (by rw [beq_builtin_none]; exact Bool.false_ne_true)]
 refine wpAny_bind (wpAny_specialOf (PySem.typeIs_bool s b) PySem.F.slot_bool_hash.lookup ?_)
 show wpAny _ _ (callSpecialIfBoundUnlessNone? (.bool b) "__hash__" _ >>= _) Q E s
 cases b with
 | false =>
  refine wpAny_bind (wpAny_callSpecialIfBoundUnlessNone?_slot (PySem.typeIs_bool s false) PySem.F.slot_bool_hash
   (wpAny_call_entry PySem.F.slot_bool_hash (PySem.typeIs_bool s false) entry_int_hash
    (show wpAny _ _ (do ret (<- mkInt 0)) _ _ s from wpAny_ret_mkInt ?_) (args_int_hash _)))
  exact wpAny_pure h
 | true =>
  refine wpAny_bind (wpAny_callSpecialIfBoundUnlessNone?_slot (PySem.typeIs_bool s true) PySem.F.slot_bool_hash
   (wpAny_call_entry PySem.F.slot_bool_hash (PySem.typeIs_bool s true) entry_int_hash
    (show wpAny _ _ (do ret (<- mkInt 1)) _ _ s from wpAny_ret_mkInt ?_) (args_int_hash _)))
  exact wpAny_pure h
theorem zir (a b : Bool) : (a == b) = decide ((Sum.inl (b01 a) : Key) = Sum.inl (b01 b)):=by cases a<;>cases b<;>decide
def ybg (prog : Program) (w : World) : PySem.KeyKind prog w Key where
 is:=ydw
 hash:=keyH w
 inj:=fun v a b ha hb=>by
  rcases zau ha with ⟨i,t,rfl,rfl⟩ | ⟨c,rfl,rfl⟩ | ⟨x,t,rfl,rfl⟩
  ·rcases zau hb with ⟨j,u,rfl,e⟩ | ⟨d,rfl,e⟩ | ⟨y,u,rfl,e⟩
   ·injection e with e1 _; rw [e1]
   ·exact nomatch e
   ·exact nomatch e
  ·rcases zau hb with ⟨j,u,rfl,e⟩ | ⟨d,rfl,e⟩ | ⟨y,u,rfl,e⟩
   ·exact nomatch e
   ·injection e with e1; rw [e1]
   ·exact nomatch e
  ·rcases zau hb with ⟨j,u,rfl,e⟩ | ⟨d,rfl,e⟩ | ⟨y,u,rfl,e⟩
   ·exact nomatch e
   ·exact nomatch e
   ·injection e with e1 _; rw [e1]
 byValue:=fun k v h=>by
  rcases zau h with ⟨i,t,rfl,rfl⟩ | ⟨c,rfl,rfl⟩ | ⟨x,t,rfl,rfl⟩<;>rfl
 pyHash:=fun hv h=>by
  rcases zau hv with ⟨i,t,rfl,rfl⟩ | ⟨c,rfl,rfl⟩ | ⟨x,t,rfl,rfl⟩
  ·exact wpAny_pyHash_int h
  ·exact zcc h
  ·exact wpAny_pyHash_str h
 eqBool:=fun hu hv h=>by
  rcases zau hu with ⟨i,t,rfl,rfl⟩ | ⟨c,rfl,rfl⟩ | ⟨x,t,rfl,rfl⟩
  ·rcases zau hv with ⟨j,u,rfl,rfl⟩ | ⟨d,rfl,rfl⟩ | ⟨y,u,rfl,rfl⟩
   ·rw [yeK] at h; exact wpAny_eqBool_int h
   ·rw [yeK] at h; exact SeqAt.EqAt.int_bool i t d _ _ _ _ h
   ·rw [yfd] at h; exact SeqAt.EqAt.int_str i t y u _ _ _ _ h
  ·rcases zau hv with ⟨j,u,rfl,rfl⟩ | ⟨d,rfl,rfl⟩ | ⟨y,u,rfl,rfl⟩
   ·rw [yeK] at h; exact SeqAt.EqAt.bool_int c j u _ _ _ _ h
   ·rw [<- zir] at h; exact SeqAt.EqAt.bool_bool c d _ _ _ _ h
   ·rw [yfd] at h; exact SeqAt.EqAt.bool_str c y u _ _ _ _ h
  ·rcases zau hv with ⟨j,u,rfl,rfl⟩ | ⟨d,rfl,rfl⟩ | ⟨y,u,rfl,rfl⟩
   ·rw [yfe] at h; exact SeqAt.EqAt.str_int x t j u _ _ _ _ h
   ·rw [yfe] at h; exact SeqAt.EqAt.str_bool x t d _ _ _ _ h
   ·rw [yf2] at h; exact wpAny_eqBool_str h
 «strs» := fun k x t v h=>by
  rcases zau h with ⟨i,u,rfl,e⟩ | ⟨d,rfl,e⟩ | ⟨y,u,rfl,e⟩
  ·exact nomatch e
  ·exact nomatch e
  ·injection e with e1 _
   subst e1
   cases v<;>rfl
theorem zcg (prog : Program) (w : World) (i : Int) (t : Tok) : (ybg prog w).is (.inl i) (.int i t) = true:=zgt i t
theorem zch (prog : Program) (w : World) (x : Str) (t : Tok) : (ybg prog w).is (.inr x) (.str x t) = true:=zgu x t
end L2
namespace L2
open PySem PySem.Spec PyProof.Rows
inductive V where
 | non | bl (b : Bool) | int (i : Int) | str (x : Str) | byt (b : Array UInt8) | flt (b : UInt64) | ref (a : Addr) | ty (n : String)
 deriving DecidableEq
def RelV : V -> Value -> Prop
 | .non,u=>u = Value.none
 | .bl b,u=>u = Value.bool b
 | .int i,u=>∃ t,u = Value.int i t
 | .str x,u=>∃ t,u = Value.str x t
 | .byt b,u=>∃ t,u = Value.bytes b t
 | .flt b,u=>∃ t,u = Value.float b t
 | .ref a,u=>u = Value.ref a
 | .ty n,u=>u = Value.type n
abbrev Vals : List V -> List Value -> Prop:=Paired RelV
theorem Vals.length {xs : List V} {us : List Value} (r : Vals xs us) : xs.length = us.length:=Paired.length r
theorem Vals.get : ∀ {xs : List V} {us : List Value} {i : Nat} {x : V},Vals xs us -> xs[i]? = some x -> ∃ u,us[i]? = some u /\ RelV x u
 | _,_,_,_,.nil,e=>by simp at e
 | _,_,0,_,.cons r _,e=>by simp at e; subst e; exact ⟨_,rfl,r⟩
 | _,_,i + 1,x,.cons _ t,e=>by
  obtain ⟨u,h1,h2⟩:=Vals.get (i:=i) (x:=x) t (by simpa using e)
  exact ⟨u,by simpa using h1,h2⟩
theorem Vals.set {x : V} {u : Value} (r : RelV x u) : ∀ {xs : List V} {us : List Value} (i : Nat),Vals xs us -> Vals (xs.set i x) (us.set i u)
 | _,_,_,.nil=>.nil
 | _,_,0,.cons _ t=>.cons r t
 | _,_,i + 1,.cons q t=>.cons q (Vals.set r i t)
theorem Vals.append : ∀ {xs ys : List V} {us ws : List Value},Vals xs us -> Vals ys ws -> Vals (xs++ys) (us++ws)
 | _,_,_,_,.nil,s=>s
 | _,_,_,_,.cons r t,s=>.cons r (Vals.append t s)
theorem Vals.take : ∀ {xs : List V} {us : List Value} (n : Nat),Vals xs us -> Vals (xs.take n) (us.take n)
 | _,_,0,_=>.nil
 | _,_,_ + 1,.nil=>.nil
 | _,_,n + 1,.cons r t=>.cons r (Vals.take n t)
theorem Vals.drop : ∀ {xs : List V} {us : List Value} (n : Nat),Vals xs us -> Vals (xs.drop n) (us.drop n)
 | _,_,0,r=>r
 | _,_,_ + 1,.nil=>.nil
 | _,_,n + 1,.cons _ t=>Vals.drop n t
def RelO : Option V -> Option Value -> Prop
 | some v,some u=>RelV v u
 | none,none=>True
 | _,_=>False
def KV {κ : Type} : List (κ × V) -> List (κ × Value) -> Prop:=Paired fun (p : κ × V) (q : κ × Value)=>p.1 = q.1 /\ RelV p.2 q.2
def kV : Key -> V
 | .inl i=>.int i
 | .inr x=>.str x
def kOf : V -> Option Key
 | .int i=>some (.inl i)
 | .bl b=>some (.inl (b01 b))
 | .str x=>some (.inr x)
 | _=>none
theorem yf3 (k : Key) : kOf (kV k) = some k:=by cases k<;>rfl
inductive HO where
 | lst (xs : List V)
 | tup (xs : List V)
 | dK (kvs : List (Key × V)) | dT (kvs : List (List Key × V))
 | set (S : Int -> Bool) (n : Nat)
 | ins (C dx : Addr) (fs : List (Str × V))
 | own (x : Addr)
 | xd (fs : List (Str × V))
 | met (f x : Addr)
 | rng (lo hi : Int)
 | frz (o : Obj) (u : HO)
 | tbl (ps : Array Value)
 | ext (φ : Heap -> Prop)
abbrev Hp:=Addr -> Option HO
def upd (H : Hp) (a : Addr) (o : HO) : Hp:=fun b=>if b = a then some o else H b
theorem zar {H : Hp} {a : Addr} {o : HO} : upd H a o a = some o:=by unfold upd; rw [if_pos rfl]
theorem yay {H : Hp} {a b : Addr} {o : HO} (h : b ≠ a) : upd H a o b = H b:=by unfold upd; rw [if_neg h]
theorem yhg {H : Hp} {a b : Addr} {o u : HO} (h : H a = some o) (h' : H b = some u) (d : o ≠ u) : a ≠ b:=by
 intro e; subst e; rw [h] at h'; exact d (Option.some.inj h')
theorem zav {H : Hp} {a b : Addr} {o : HO} (h : H a = some o) (h' : H b = none) : a ≠ b:=by
 intro e; subst e; rw [h] at h'; cases h'
section
variable (P : Program) (w : World)
def ObjOk (H : Hp) (h : Heap) (a : Addr) : HO -> Prop
 | .lst xs=>xs.length <= sizeLine /\ ∃ (its : List Value) (n : Nat),Vals xs its /\ h.get? a = some { cls:=.type "list",data:=.seq its.toArray n }
 | .tup xs=>xs.length <= sizeLine /\ ∃ its : List Value,Vals xs its /\ IsTup h a its.toArray
 | .dK kvs=>kvs.length <= sizeLine /\ (a == sysModules) = false /\ ∃ vs,KV kvs vs /\ h.DictOf (ybg P w) a vs
 | .dT kvs=>kvs.length <= sizeLine /\ (a == sysModules) = false /\ ∃ xs : List (List Key × Addr × Value),
   Paired (fun (p : List Key × V) (q : List Key × Addr × Value)=>p.1 = q.1 /\ (∃ ys,H q.2.1 = some (.tup ys) /\ ys.map kOf = p.1.map some) /\ RelV p.2 q.2.2) kvs xs /\
   ∃ o es ep,h.get? a = some o /\ o.ExactDict /\ o.data = .dict es ep /\ es.toList = xs.map (entryOfKey (tupleKind (ybg P w))) /\ (xs.map (·.1)).Nodup
 | .set S n=>h.SetOf (intKind P w) a S n
 | .ins C dx fs=>H dx = some (.own a) /\ fs.length <= 1000 /\ dx ≠ a /\ h.get? a = some (PySem.W.instObj C dx) /\
   ∃ mA,h.Ns1 dx mA /\ (∀ f,RelO (fs.lookup f) (mA f)) /\ PySem.Within mA (fs.map (·.1))
 | .own _=>∃ o,h.get? a = some o
 | .xd fs=>∃ mA,h.Ns1 a mA /\ ∀ f,RelO (fs.lookup f) (mA f)
 | .rng lo hi=>∃ t u v,h.get? a = some { cls:=.type "range",data:=.fields #[.int lo t,.int hi u,.int 1 v] }
 | .frz o u=>h.get? a = some o /\ ObjOk H h a u
 | .tbl ps=>h.get? a = some { cls:=.none,data:=.fields ps }
 | .met f x=>h.get? a = some (PySem.W.methodObj (.ref f) (.ref x))
 | .ext φ=>φ h /\ (∃ o,h.get? a = some o) /\ ∀ h1 h2 : Heap,φ h1 -> (∀ o,h1.get? a = some o -> h2.get? a = some o) -> φ h2
def HOk (H : Hp) (h : Heap) : Prop:=∀ a o,H a = some o -> ObjOk P w H h a o
end
section
variable {P : Program} {w : World} {H H' : Hp} {h h' : Heap} {a : Addr} {o : HO}
theorem ObjOk.lt (x : ObjOk P w H h a o) : a < h.objs.size:=by
 cases o with
 | lst xs=>obtain ⟨_,_,_,_,e⟩:=x; exact Heap.lt_size e
 | tup xs=>obtain ⟨_,_,_,p⟩:=x; exact p.lt
 | dK kvs=>obtain ⟨_,_,_,_,o,_,_,e,_⟩:=x; exact Heap.lt_size e
 | dT kvs=>obtain ⟨_,_,_,_,o,_,_,e,_⟩:=x; exact Heap.lt_size e
 | set S n=>obtain ⟨o,_,_,_,e,_⟩:=x; exact Heap.lt_size e
 | ins C dx fs=>obtain ⟨_,_,_,e,_⟩:=x; exact Heap.lt_size e
 | own y=>obtain ⟨_,e⟩:=x; exact Heap.lt_size e
 | xd fs=>obtain ⟨_,⟨_,_,_,e,_⟩,_⟩:=x; exact Heap.lt_size e
 | rng lo hi=>obtain ⟨_,_,_,e⟩:=x; exact Heap.lt_size e
 | frz ob u=>obtain ⟨e,_⟩:=x; exact Heap.lt_size e
 | tbl ps=>exact Heap.lt_size (show h.get? a = some _ from x)
 | met f y=>exact Heap.lt_size (show h.get? a = some _ from x)
 | ext φ=>obtain ⟨_,⟨_,e⟩,_⟩:=x; exact Heap.lt_size e
theorem Paired.mapP {α β : Type} {F G : α -> β -> Prop} : ∀ {l₁ : List α} {l₂ : List β},Paired F l₁ l₂ -> (∀ a b,F a b -> G a b) -> Paired G l₁ l₂
 | _,_,.nil,_=>.nil
 | _,_,.cons r t,f=>.cons (f _ _ r) (Paired.mapP t f)
theorem ObjOk.stay (x : ObjOk P w H h a o) (k : ∀ b u,(b = a \/ H b = some (.own a)) -> h.get? b = some u -> h'.get? b = some u)
  (ho : ∀ b,H b = some (.own a) -> H' b = some (.own a)) (ht : ∀ b xs,H b = some (.tup xs) -> H' b = some (.tup xs)) : ObjOk P w H' h' a o:=by
 induction o with
 | lst xs=>obtain ⟨z,its,n,r,e⟩:=x; exact ⟨z,its,n,r,k _ _ (.inl rfl) e⟩
 | tup xs=>obtain ⟨z,its,r,ob,e,c⟩:=x; exact ⟨z,its,r,ob,k _ _ (.inl rfl) e,c⟩
 | dK kvs=>obtain ⟨z,y,vs,r,ob,es,ep,e,c⟩:=x; exact ⟨z,y,vs,r,ob,es,ep,k _ _ (.inl rfl) e,c⟩
 | dT kvs =>
  obtain ⟨z,y,xs,r,ob,es,ep,e,c⟩:=x
  exact ⟨z,y,xs,Paired.mapP r fun p q z=>⟨z.1,z.2.1.imp fun _ e=>⟨ht _ _ e.1,e.2⟩,z.2.2⟩,ob,es,ep,k _ _ (.inl rfl) e,c⟩
 | set S n=>obtain ⟨ob,es,ep,t,e,c⟩:=x; exact ⟨ob,es,ep,t,k _ _ (.inl rfl) e,c⟩
 | ins C dx fs =>
  obtain ⟨d,z,ne,e,mA,⟨od,es,ep,e2,c⟩,r⟩:=x
  exact ⟨ho _ d,z,ne,k _ _ (.inl rfl) e,mA,⟨od,es,ep,k _ _ (.inr d) e2,c⟩,r⟩
 | own y=>obtain ⟨ob,e⟩:=x; exact ⟨ob,k _ _ (.inl rfl) e⟩
 | xd fs=>obtain ⟨mA,⟨od,es,ep,e,c⟩,r⟩:=x; exact ⟨mA,⟨od,es,ep,k _ _ (.inl rfl) e,c⟩,r⟩
 | rng lo hi=>obtain ⟨t,u,v,e⟩:=x; exact ⟨t,u,v,k _ _ (.inl rfl) e⟩
 | frz ob u ih=>obtain ⟨e,q⟩:=x; exact ⟨k _ _ (.inl rfl) e,ih q⟩
 | tbl ps =>
  have e : h.get? a = some { cls:=.none,data:=.fields ps }:=x
  show h'.get? a = some { cls:=.none,data:=.fields ps }
  exact k a _ (.inl rfl) e
 | met f y =>
  have e : h.get? a = some (PySem.W.methodObj (.ref f) (.ref y)):=x
  show h'.get? a = some (PySem.W.methodObj (.ref f) (.ref y))
  exact k a _ (.inl rfl) e
 | ext φ=>obtain ⟨p,⟨o,e⟩,st⟩:=x; exact ⟨st _ _ p fun o q=>k _ _ (.inl rfl) q,⟨o,k _ _ (.inl rfl) e⟩,st⟩
theorem HOk.lt (x : HOk P w H h) (e : H a = some o) : a < h.objs.size:=(x a o e).lt
theorem HOk.fresh (x : HOk P w H h) (e : h.objs.size <= a) : H a = none:=by
 cases q : H a with
 | none=>rfl
 | some u=>exact absurd (Nat.lt_of_lt_of_le (x.lt q) e) (Nat.lt_irrefl _)
theorem HOk.kept (x : HOk P w H h) (k : ∀ b u,h.get? b = some u -> h'.get? b = some u) : HOk P w H h' := fun a o e =>
 (x a o e).stay (fun b u _ q=>k b u q) (fun _ q=>q) fun _ _ q=>q
theorem HOk.laid (x : HOk P w H h) (k : ∀ b u,h.get? b = some u -> h'.get? b = some u) (hp : h.objs.size <= a) (new : ObjOk P w (upd H a o) h' a o) : HOk P w (upd H a o) h' := fun b u e=>by
 have hn:=x.fresh hp
 by_cases hb : b = a
 ·subst hb; rw [zar] at e; cases e; exact new
 ·rw [yay hb] at e
  exact (x b u e).stay (fun c v _ q=>k c v q) (fun c q=>by rw [yay (zav q hn)]; exact q) fun c xs q=>by rw [yay (zav q hn)]; exact q
end
def Rd (H : Hp) (a : Addr) (u : HO) : Prop:=H a = some u \/ ∃ o,H a = some (.frz o u)
theorem Rd.ok {P : Program} {w : World} {H : Hp} {h : Heap} {a : Addr} {u : HO} (r : Rd H a u) (x : HOk P w H h) : ObjOk P w H h a u:=by
 rcases r with r | ⟨o,r⟩
 ·exact x a u r
 ·obtain ⟨_,q⟩:=x a _ r
  exact q
def Mut : Option HO -> Prop
 | some (.lst _)=>True
 | some (.dK _)=>True
 | some (.dT _)=>True
 | some (.set _ _)=>True
 | some (.ins _ _ _)=>True
 | some (.ext _)=>True
 | _=>False
section
variable {P : Program} {w : World} {H : Hp} {h h' : Heap} {x e : Addr} {o' : HO}
theorem HOk.write (ok : HOk P w H h) (mu : Mut (H x)) (he : e = x \/ H e = some (.own x)) (k : ∀ b u,b ≠ e -> h.get? b = some u -> h'.get? b = some u) (heo : ∃ u,h'.get? e = some u)
  (new : ObjOk P w (upd H x o') h' x o') : HOk P w (upd H x o') h' := fun b u q=>by
 have nown : ∀ c y,H c = some (.own y) -> c ≠ x:=fun c y r z=>by subst z; rw [r] at mu; exact mu
 have ntup : ∀ c xs,H c = some (.tup xs) -> c ≠ x:=fun c xs r z=>by subst z; rw [r] at mu; exact mu
 by_cases hb : b = x
 ·subst hb; rw [zar] at q; cases q; exact new
 ·rw [yay hb] at q
  by_cases hbe : b = e
  ·have q' : H b = some (.own x):=by
    rcases he with z | z
    ·exact absurd (hbe.trans z) hb
    ·rw [hbe]; exact z
   rw [q] at q'; cases q'
   obtain ⟨v,hv⟩:=heo
   exact ⟨v,by rw [hbe]; exact hv⟩
  ·refine (ok b u q).stay (fun c v hc r=>k c v ?_ r) (fun c r=>by rw [yay (nown c b r)]; exact r) fun c xs r=>by rw [yay (ntup c xs r)]; exact r
   rcases hc with rfl | hc
   ·exact hbe
   ·rintro rfl
    rcases he with z | z
    ·exact nown c b hc z
    ·rw [hc] at z; cases z; exact hb rfl
end
structure Un (fs ex : List Addr) (H H' : Hp) (h h' : Heap) : Prop where
 keep : ∀ b o,h.get? b = some o -> H b = none -> b ∉ fs -> b ∉ ex -> h'.get? b = some o
 slot : ∀ b o,h.get? b = some o -> H b = none -> b ∈ fs -> b ∉ ex -> ∃ sl,h'.get? b = some { o with slots:=sl }
 free : ∀ b o,h.get? b = some o -> H b = none -> b ∉ ex -> H' b = none
 there : ∀ b o,h.get? b = some o -> b ∉ ex -> ∃ o',h'.get? b = some o'
 tups : ∀ b xs,H b = some (.tup xs) -> H' b = some (.tup xs)
 frzs : ∀ b o u,H b = some (.frz o u) -> H' b = some (.frz o u)
 tbls : ∀ b ps,H b = some (.tbl ps) -> ∃ more,H' b = some (.tbl (ps++more))
section
variable {fs fs' ex ex' : List Addr} {H H1 H2 : Hp} {h h1 h2 h' : Heap} {a x e : Addr} {o : HO}
theorem Un.any (u : Un fs ex H H1 h h1) {b : Addr} {ob : Obj} (q : h.get? b = some ob) (n : H b = none) (hx : b ∉ ex) : ∃ sl,h1.get? b = some { ob with slots:=sl }:=by
 by_cases hb : b ∈ fs
 ·exact u.slot b ob q n hb hx
 ·exact ⟨ob.slots,u.keep b ob q n hb hx⟩
theorem Un.kept (k : ∀ b u,h.get? b = some u -> h'.get? b = some u) : Un fs ex H H h h' :=
 ⟨fun b ob q _ _ _=>k b ob q,fun b ob q _ _ _=>⟨ob.slots,k b ob q⟩,fun _ _ _ n _=>n,fun b ob q _=>⟨ob,k b ob q⟩,fun _ _ q=>q,fun _ _ _ q=>q,fun _ ps q=>⟨#[],by rw [q]; simp⟩⟩
theorem Un.refl : Un fs ex H H h h:=Un.kept fun _ _ q=>q
theorem Un.laid (k : ∀ b u,h.get? b = some u -> h'.get? b = some u) (hp : h.objs.size <= a) (hn : H a = none) : Un fs ex H (upd H a o) h h' where
 keep:=fun b u q _ _ _=>k b u q
 slot:=fun b u q _ _ _=>⟨u.slots,k b u q⟩
 free:=fun b u q n _=>by rw [yay (Nat.ne_of_lt (Nat.lt_of_lt_of_le (Heap.lt_size q) hp))]; exact n
 there:=fun b u q _=>⟨u,k b u q⟩
 tups:=fun b xs q=>by rw [yay (zav q hn)]; exact q
 frzs:=fun b u xs q=>by rw [yay (zav q hn)]; exact q
 tbls:=fun b ps q=>⟨#[],by rw [yay (zav q hn),q]; simp⟩
theorem Un.write (mu : Mut (H x)) (he : e = x \/ H e = some (.own x)) (k : ∀ b u,b ≠ e -> h.get? b = some u -> h'.get? b = some u) (heo : ∃ u,h'.get? e = some u) : Un fs ex H (upd H x o) h h' := by
 have hx : ∀ b,H b = none -> b ≠ x:=fun b n z=>by subst z; rw [n] at mu; exact mu
 have hb : ∀ b,H b = none -> b ≠ e:=fun b n z=>by
  subst z
  rcases he with r | r
  ·exact hx b n r
  ·rw [n] at r; cases r
 have hm : ∀ b u,H b = some u -> ¬ Mut (some u) -> b ≠ x:=fun b u q nm z=>by subst z; rw [q] at mu; exact nm mu
 refine ⟨fun b u q n _ _=>k b u (hb b n) q,fun b u q n _ _=>⟨u.slots,k b u (hb b n) q⟩,fun b u q n _=>by rw [yay (hx b n)]; exact n,fun b u q _=>?_,
  fun b xs q=>by rw [yay (hm b _ q fun z=>z)]; exact q,fun b u xs q=>by rw [yay (hm b _ q fun z=>z)]; exact q,fun b ps q=>⟨#[],by rw [yay (hm b _ q fun z=>z),q]; simp⟩⟩
 by_cases hbe : b = e
 ·subst hbe; exact heo
 ·exact ⟨u,k b u hbe q⟩
end
def trk (h : Heap) (H : Hp) : List Addr:=(List.range h.objs.size).filter fun a=>(H a).isSome
def hidT (h : Heap) (H : Hp) : Heap:=PySem.W.hideAll h (trk h H)
theorem zgv (h : Heap) (H : Hp) : (hidT h H).objs.size = h.objs.size:=PySem.W.hideAll_size _ _
theorem zhs {h : Heap} {H : Hp} {b : Addr} {o : Obj} (e : h.get? b = some o) (n : H b = none) : (hidT h H).get? b = some o :=
 PySem.W.hideAll_get _ e fun hm=>by
  have q : (H b).isSome = true:=(List.mem_filter.mp hm).2
  rw [n] at q; simp at q
theorem zis {h : Heap} {H : Hp} {b : Addr} {o : Obj} (e : (hidT h H).get? b = some o) : h.get? b = some o /\ H b = none:=by
 have e' : h.get? b = some o:=PySem.W.of_hideAll (trk h H) e
 refine ⟨e',?_⟩
 cases q : H b with
 | none=>rfl
 | some x =>
  have hm : b ∈ trk h H:=List.mem_filter.mpr ⟨List.mem_range.mpr (Heap.lt_size e'),by simp [q]⟩
  have z : (hidT h H).get? b = none:=PySem.W.hideAll_none (trk h H) hm
  rw [z] at e; cases e
end L2
namespace L2
open PySem PySem.Spec PyProof.Rows
structure Mod (K : PySem.W.Frag) (mg : Str -> Option Value) (base : Heap) : Prop where
 kin : K.In base
 glob : base.Ns mainGlobals mg
 blt : ∃ mb,base.Ns builtinsNs mb /\ ∀ x : Str,x ≠ "__name__" -> mb x = bootBuiltins x
 nolimit : base.NoLimit
structure Cx where
 prog : Program
 w : World
 K : PySem.W.Frag
 mg : Str -> Option Value
 base : Heap
 A : Around
 N : List Str
 s₀ : Shared
 H₀ : Hp
 env : Env
 outer : List Env
 stack : List Env
 ex : List Addr
 fn : Str -> Bool
 calm : Bool
 pn : List (Addr × Obj)
 xe : Value -> Shared -> Prop
def frs (l : List Env) : List Addr:=l.filterMap (·.frame)
abbrev Cx.fs (X : Cx) : List Addr:=frs X.outer
def Vis (sc : Scope) (x : Str) : Prop:=sc.names.lookup x = some .local \/ sc.names.lookup x = some .cell \/ sc.names.lookup x = some .free
def Loc (sc : Scope) (x : Str) : Prop:=sc.names.lookup x = some .local \/ sc.names.lookup x = some .cell
def Look (env : Env) (h : Heap) (m : Str -> Option Value) (x : Str) (u : Value) : Prop :=
 (env.kindOf x = some .local /\ m x = some u) \/ ((env.kindOf x = some .cell \/ env.kindOf x = some .free) /\ ∃ c,env.cells.lookup x = some c /\ h.IsCell c (some u))
structure Cx.Ok (X : Cx) : Prop where
 mod : Mod X.K X.mg X.base
 kind : X.env.scope.kind = .function
 glob : X.env.globals = mainGlobals
 blt : X.env.builtins = builtinsNs
 above : X.s₀.heap.objs.size <= X.env.locals
 inj : ∀ x y c,X.env.cells.lookup x = some c -> X.env.cells.lookup y = some c -> x = y
 has : ∀ x,(X.env.kindOf x = some .cell \/ X.env.kindOf x = some .free) -> ∃ c,X.env.cells.lookup x = some c
 cab : ∀ x c,X.fn x = true -> X.env.cells.lookup x = some c -> X.s₀.heap.objs.size <= c
 hd : X.calm = true -> X.A.handled = none
 frames : X.A.frames = some X.stack
 stk : X.stack = X.outer \/ (X.stack = X.env :: X.outer /\ X.env.frame = some X.env.locals)
 exf : ∀ b ∈ X.ex,b ≠ X.env.locals /\ ∀ x c,X.env.cells.lookup x = some c -> c ≠ b
 bs : ∀ b o,X.base.get? b = some o -> X.s₀.heap.get? b = some o /\ X.H₀ b = none
 bsz : X.base.objs.size <= X.s₀.heap.objs.size
 noex : ∀ b o,X.base.get? b = some o -> b ∉ X.ex
 exfs : ∀ b ∈ X.ex,b ∉ X.fs
 funs : X.s₀.heap.FunFrames X.base X.outer
 frf : ∀ b ∈ X.fs,X.H₀ b = none
structure Inv (X : Cx) (pins : List (Addr × Obj)) (σ : List (Option V)) (H : Hp) (s : Shared) : Prop where
 ok : X.Ok
 os : s.os = X.s₀.os
 bare : AllBare s.gens
 base : Un X.fs X.ex X.H₀ H X.s₀.heap s.heap
 loc : ∃ m,s.heap.Ns X.env.locals m /\ ∀ (i : Nat) (x : Str) (v : V),X.N[i]? = some x -> σ[i]? = some (some v) -> Vis X.env.scope x -> ∃ u,RelV v u /\ Look X.env s.heap m x u
 cell : ∀ x c,X.env.cells.lookup x = some c -> ∃ v,s.heap.IsCell c v
 free : H X.env.locals = none
 freeC : ∀ x c,X.env.cells.lookup x = some c -> H c = none
 pin : ∀ p ∈ X.pn++pins,s.heap.get? p.1 = some p.2 /\ H p.1 = none /\ p.1 ≠ X.env.locals /\ p.1 ∉ X.fs /\ ∀ v,p.2.data ≠ .cell v
 hok : HOk X.prog X.w H s.heap
 len : σ.length = X.N.length
section
variable {X : Cx} {pins : List (Addr × Obj)} {σ : List (Option V)} {H H' : Hp} {s : Shared} {h' : Heap}
theorem Cx.Ok.nofr (ok : X.Ok) {b : Addr} {o : Obj} (e : X.base.get? b = some o) : b ∉ X.fs:=fun hb=>by
 have:=(ok.funs.mem hb).1
 rw [e] at this; cases this
theorem Inv.bs (I : Inv X pins σ H s) : ∀ b o,X.base.get? b = some o -> s.heap.get? b = some o /\ H b = none:=fun b o e =>
 ⟨I.base.keep b o (I.ok.bs b o e).1 (I.ok.bs b o e).2 (I.ok.nofr e) (I.ok.noex b o e),I.base.free b o (I.ok.bs b o e).1 (I.ok.bs b o e).2 (I.ok.noex b o e)⟩
theorem Inv.bk (I : Inv X pins σ H s) : ∀ b o,X.base.get? b = some o -> s.heap.get? b = some o:=fun b o e=>(I.bs b o e).1
theorem Inv.mod (I : Inv X pins σ H s) : Mod X.K X.mg X.base:=I.ok.mod
theorem Inv.kIn (I : Inv X pins σ H s) : X.K.In s.heap:=I.ok.mod.kin.keeps I.bk
theorem Inv.fr (I : Inv X pins σ H s) : ∃ m,Fr X.base X.env.locals s.heap m :=
 let ⟨m,hn,_⟩:=I.loc
 ⟨m,hn,I.bk,Nat.le_trans I.ok.bsz I.ok.above⟩
theorem Inv.lt (I : Inv X pins σ H s) : X.env.locals < s.heap.objs.size:=let ⟨_,hn,_⟩:=I.loc; hn.lt
theorem Inv.sz (I : Inv X pins σ H s) : X.s₀.heap.objs.size <= s.heap.objs.size:=Nat.le_trans I.ok.above (Nat.le_of_lt I.lt)
theorem Inv.nofs (I : Inv X pins σ H s) {a : Addr} (h : s.heap.objs.size <= a) : a ∉ X.fs:=fun hb=>by
 obtain ⟨_,o,ho,_⟩:=I.ok.funs.mem hb
 exact absurd (Nat.lt_of_lt_of_le (Heap.lt_size ho) (Nat.le_trans I.sz h)) (Nat.lt_irrefl _)
theorem Inv.cne (I : Inv X pins σ H s) : ∀ x c,X.env.cells.lookup x = some c -> c ≠ X.env.locals:=fun x c e z=>by
 obtain ⟨v,o,ho,hd⟩:=I.cell x c e
 obtain ⟨m,⟨o',es,ep,ho',hd',_⟩,_⟩:=I.loc
 rw [z,ho'] at ho; cases ho; rw [hd'] at hd; cases hd
theorem Inv.funs (I : Inv X pins σ H s) : s.heap.FunFrames X.base X.outer:=by
 have all : ∀ (l : List Env),(∀ b ∈ frs l,b ∈ X.fs) -> X.s₀.heap.FunFrames X.base l -> s.heap.FunFrames X.base l:=by
  intro l
  induction l with
  | nil=>intro _ _; trivial
  | cons env r ih =>
   intro hs hl
   obtain ⟨hk,⟨L,o,hf,hn,ho,hd⟩,hr⟩:=hl
   have hL : L ∈ X.fs:=hs L (by unfold frs; rw [List.filterMap_cons,hf]; exact List.mem_cons_self)
   obtain ⟨sl,e⟩:=I.base.slot L o ho (I.ok.frf L hL) hL fun z=>I.ok.exfs L z hL
   exact ⟨hk,⟨L,_,hf,hn,e,hd⟩,ih (fun b hb=>hs b (by unfold frs; rw [List.filterMap_cons,hf]; exact List.mem_cons_of_mem _ hb)) hr⟩
 exact all X.outer (fun _ hb=>hb) I.ok.funs
theorem Inv.stack (I : Inv X pins σ H s) : s.heap.FunFrames X.base X.stack:=by
 rcases I.ok.stk with e | ⟨e,hf⟩
 ·rw [e]; exact I.funs
 ·rw [e]
  obtain ⟨m,hn,_⟩:=I.loc
  refine .cons (by rw [I.ok.kind]; decide) hf hn ?_ I.funs
  exact Heap.get?_none_of_le (Nat.le_trans I.ok.bsz I.ok.above)
theorem Inv.stkSub (I : Inv X pins σ H s) : ∀ b ∈ frs X.stack,b ∈ X.env.locals :: X.fs:=fun b hb=>by
 rcases I.ok.stk with e | ⟨e,hf⟩
 ·rw [e] at hb; exact List.mem_cons_of_mem _ hb
 ·rw [e] at hb
  unfold frs at hb
  rw [List.filterMap_cons,hf] at hb
  exact hb
theorem Inv.stkFree (I : Inv X pins σ H s) : ∀ b ∈ frs X.stack,H b = none:=fun b hb=>by
 rcases List.mem_cons.mp (I.stkSub b hb) with e | hb
 ·rw [e]; exact I.free
 ·obtain ⟨_,o,ho,_⟩:=I.ok.funs.mem hb
  exact I.base.free b o ho (I.ok.frf b hb) fun z=>I.ok.exfs b z hb
theorem Inv.step {g' : Array GenState} {t' : Nat} {d' : Drawn} {ch : List Addr} (I : Inv X pins σ H s)
  (hch : ∀ b ∈ ch,(b ∈ X.ex \/ X.s₀.heap.objs.size <= b) /\ b ≠ X.env.locals /\ (∀ x c,X.env.cells.lookup x = some c -> c ≠ b) /\ ∀ p ∈ X.pn++pins,p.1 ≠ b)
  (keep : ∀ b o,b ≠ X.env.locals -> b ∉ X.fs -> b ∉ ch -> s.heap.get? b = some o -> H b = none -> h'.get? b = some o)
  (slot : ∀ b o,b ≠ X.env.locals -> b ∈ X.fs -> b ∉ ch -> s.heap.get? b = some o -> H b = none -> ∃ sl,h'.get? b = some { o with slots:=sl }) (free : ∀ b o,b ∉ ch -> s.heap.get? b = some o -> H b = none -> H' b = none)
  (there : ∀ b o,b ∉ ch -> s.heap.get? b = some o -> ∃ o',h'.get? b = some o')
  (tups : ∀ b xs,H b = some (.tup xs) -> H' b = some (.tup xs)) (frzs : ∀ b o u,H b = some (.frz o u) -> H' b = some (.frz o u)) (tbls : ∀ b ps,H b = some (.tbl ps) -> ∃ more,H' b = some (.tbl (ps++more)))
  (ns : ∀ m,s.heap.Ns X.env.locals m -> h'.Ns X.env.locals m) (hok : HOk X.prog X.w H' h') (hg : AllBare g') :
  Inv X pins σ H' { s with heap:=h',gens:=g',drawn:=d',toks:=t' }:=by
 have neL : ∀ b o,X.s₀.heap.get? b = some o -> b ≠ X.env.locals:=fun b o e=>Nat.ne_of_lt (Nat.lt_of_lt_of_le (Heap.lt_size e) I.ok.above)
 have neC : ∀ b o,X.s₀.heap.get? b = some o -> b ∉ X.ex -> b ∉ ch:=fun b o e hx hb=>by
  rcases (hch b hb).1 with z | z
  ·exact hx z
  ·exact absurd (Nat.lt_of_lt_of_le (Heap.lt_size e) z) (Nat.lt_irrefl _)
 have cellK : ∀ x c,X.env.cells.lookup x = some c -> ∀ v,s.heap.IsCell c v -> h'.IsCell c v:=fun x c e v ⟨o,ho,hd⟩=>by
  have nch : c ∉ ch:=fun z=>(hch c z).2.2.1 x c e rfl
  by_cases hc : c ∈ X.fs
  ·obtain ⟨sl,q⟩:=slot c o (I.cne x c e) hc nch ho (I.freeC x c e)
   exact ⟨_,q,hd⟩
  ·exact ⟨o,keep c o (I.cne x c e) hc nch ho (I.freeC x c e),hd⟩
 refine ⟨I.ok,I.os,hg,⟨fun b o e n hb hx=>?_,fun b o e n hb hx=>?_,fun b o e n hx=>?_,fun b o e hx=>?_,fun b xs e=>tups b xs (I.base.tups b xs e),fun b o xs e=>frzs b o xs (I.base.frzs b o xs e),fun b ps e=>?_⟩,?_,fun x c e=>?_,?_,fun x c e=>?_,fun p hp=>?_,hok,I.len⟩
 ·exact keep b o (neL b o e) hb (neC b o e hx) (I.base.keep b o e n hb hx) (I.base.free b o e n hx)
 ·obtain ⟨sl,e1⟩:=I.base.slot b o e n hb hx
  obtain ⟨sl',e2⟩:=slot b _ (neL b o e) hb (neC b o e hx) e1 (I.base.free b o e n hx)
  exact ⟨sl',e2⟩
 ·obtain ⟨o',e1⟩:=I.base.there b o e hx
  exact free b o' (neC b o e hx) e1 (I.base.free b o e n hx)
 ·obtain ⟨o',e1⟩:=I.base.there b o e hx
  exact there b o' (neC b o e hx) e1
 ·obtain ⟨m1,e1⟩:=I.base.tbls b ps e
  obtain ⟨m2,e2⟩:=tbls b _ e1
  exact ⟨m1++m2,by rw [e2,Array.append_assoc]⟩
 ·obtain ⟨m,hn,hl⟩:=I.loc
  refine ⟨m,ns m hn,fun i x v e1 e2 e3=>?_⟩
  obtain ⟨u,r,l⟩:=hl i x v e1 e2 e3
  refine ⟨u,r,?_⟩
  rcases l with l | ⟨k,c,e,z⟩
  ·exact .inl l
  ·exact .inr ⟨k,c,e,cellK x c e _ z⟩
 ·obtain ⟨v,z⟩:=I.cell x c e
  exact ⟨v,cellK x c e v z⟩
 ·obtain ⟨m,⟨o,_,_,ho,_⟩,_⟩:=I.loc
  exact free _ o (fun z=>(hch _ z).2.1 rfl) ho I.free
 ·obtain ⟨v,o,ho,hd⟩:=I.cell x c e
  exact free c o (fun z=>(hch c z).2.2.1 x c e rfl) ho (I.freeC x c e)
 ·obtain ⟨e,n,ne,nf,d⟩:=I.pin p hp
  have nch : p.1 ∉ ch:=fun z=>(hch p.1 z).2.2.2 p hp rfl
  exact ⟨keep p.1 p.2 ne nf nch e n,free p.1 p.2 nch e n,ne,nf,d⟩
theorem Inv.un {t' : Nat} (I : Inv X pins σ H s) (u : Un X.fs [] H H' s.heap h') (hok : HOk X.prog X.w H' h') : Inv X pins σ H' { s with heap:=h',toks:=t' }:=by
 obtain ⟨m,⟨o,es,ep,ho,r⟩,_⟩:=id I.loc
 obtain ⟨sl,hL⟩:=u.any ho I.free (by simp)
 exact I.step (g' := s.gens) (d' := s.drawn) (ch:=[]) (fun _ z=>nomatch z) (fun b o _ hb _ e n=>u.keep b o e n hb (by simp)) (fun b o _ hb _ e n=>u.slot b o e n hb (by simp)) (fun b o _ e n=>u.free b o e n (by simp)) (fun b o _ e=>u.there b o e (by simp)) u.tups u.frzs u.tbls (fun m' hm=>by
  obtain ⟨o',es',ep',ho',r'⟩:=hm
  rw [ho] at ho'; cases ho'
  exact ⟨_,es',ep',hL,r'⟩) hok I.bare
theorem Inv.call {g' : Array GenState} {t' : Nat} {d' : Drawn} {ch : List Addr} (I : Inv X pins σ H s) (u : Un (frs X.stack) ch H H' s.heap h') (hok : HOk X.prog X.w H' h') (hg : AllBare g')
  (hch : ∀ b ∈ ch,(b ∈ X.ex \/ X.s₀.heap.objs.size <= b) /\ b ≠ X.env.locals /\ (∀ x c,X.env.cells.lookup x = some c -> c ≠ b) /\ ∀ p ∈ X.pn++pins,p.1 ≠ b) :
  Inv X pins σ H' { s with heap:=h',gens:=g',drawn:=d',toks:=t' }:=by
 obtain ⟨m,⟨o,es,ep,ho,r⟩,_⟩:=id I.loc
 obtain ⟨sl,hL⟩:=u.any ho I.free fun z=>(hch _ z).2.1 rfl
 exact I.step (ch:=ch) hch (fun b o hL hb hc e n=>u.keep b o e n (fun z=>(List.mem_cons.mp (I.stkSub b z)).elim hL hb) hc) (fun b o _ _ hc e n=>u.any e n hc) (fun b o hc e n=>u.free b o e n hc) (fun b o hc e=>u.there b o e hc) u.tups u.frzs u.tbls (fun m' hm=>by
  obtain ⟨o',es',ep',ho',r'⟩:=hm
  rw [ho] at ho'; cases ho'
  exact ⟨_,es',ep',hL,r'⟩) hok hg
theorem Inv.turned {t' : Nat} {it : Addr} (I : Inv X pins σ H s) (k : ∀ b o,b ≠ it -> s.heap.get? b = some o -> h'.get? b = some o) (hn : H it = none) (hL : it ≠ X.env.locals)
  (h1 : it ∈ X.ex \/ X.s₀.heap.objs.size <= it) (h2 : ∀ x c,X.env.cells.lookup x = some c -> c ≠ it) (h3 : ∀ p ∈ X.pn++pins,p.1 ≠ it) : Inv X pins σ H { s with heap:=h',toks:=t' }:=by
 have nit : ∀ b u,H b = some u -> b ≠ it:=fun b u e z=>by rw [z,hn] at e; cases e
 refine I.step (g' := s.gens) (d' := s.drawn) (ch:=[it]) (fun b hb=>?_) (fun b o _ _ hc e _=>k b o (fun z=>hc (by simp [z])) e) (fun b o _ _ hc e _=>⟨o.slots,k b o (fun z=>hc (by simp [z])) e⟩) (fun _ _ _ _ n=>n)
  (fun b o hc e=>⟨o,k b o (fun z=>hc (by simp [z])) e⟩) (fun _ _ e=>e) (fun _ _ _ e=>e) (fun b ps e=>⟨#[],by rw [e]; simp⟩) (fun m hm=>?_) (fun b u e=>?_) I.bare
 ·have e : b = it:=by simpa using hb
  subst e
  exact ⟨h1,hL,h2,h3⟩
 ·obtain ⟨o,es,ep,ho,r⟩:=hm
  exact ⟨o,es,ep,k _ o (Ne.symm hL) ho,r⟩
 ·refine (I.hok b u e).stay (fun c v hc q=>k c v ?_ q) (fun _ q=>q) fun _ _ q=>q
  rcases hc with z | z
  ·rw [z]; exact nit b u e
  ·exact nit c _ z
theorem Inv.tok (I : Inv X pins σ H s) (t : Nat) : Inv X pins σ H { s with toks:=t }:=I.un (h' := s.heap) (t' := t) Un.refl I.hok
theorem Inv.kept {t' : Nat} (I : Inv X pins σ H s) (k : ∀ b u,s.heap.get? b = some u -> h'.get? b = some u) : Inv X pins σ H { s with heap:=h',toks:=t' }:=I.un (Un.kept k) (I.hok.kept k)
theorem Inv.laid {a : Addr} {o : HO} {t' : Nat} (I : Inv X pins σ H s) (k : ∀ b u,s.heap.get? b = some u -> h'.get? b = some u) (hp : s.heap.objs.size <= a) (new : ObjOk X.prog X.w (upd H a o) h' a o) :
  Inv X pins σ (upd H a o) { s with heap:=h',toks:=t' }:=I.un (Un.laid k hp (I.hok.fresh hp)) (I.hok.laid k hp new)
theorem Inv.write {x e : Addr} {o : HO} {t' : Nat} (I : Inv X pins σ H s) (mu : Mut (H x)) (he : e = x \/ H e = some (.own x)) (k : ∀ b u,b ≠ e -> s.heap.get? b = some u -> h'.get? b = some u) (heo : ∃ u,h'.get? e = some u)
  (new : ObjOk X.prog X.w (upd H x o) h' x o) : Inv X pins σ (upd H x o) { s with heap:=h',toks:=t' }:=I.un (Un.write mu he k heo) (I.hok.write mu he k heo new)
theorem Inv.weak {σ' : List (Option V)} (I : Inv X pins σ H s) (hl : σ'.length = σ.length) (w : ∀ (i : Nat) v,σ'[i]? = some (some v) -> σ[i]? = some (some v)) : Inv X pins σ' H s :=
 ⟨I.ok,I.os,I.bare,I.base,let ⟨m,hn,hl'⟩:=I.loc; ⟨m,hn,fun i x v e1 e2 e3=>hl' i x v e1 (w i v e2) e3⟩,I.cell,I.free,I.freeC,I.pin,I.hok,hl.trans I.len⟩
theorem Inv.pins_of {pins' : List (Addr × Obj)} (I : Inv X pins σ H s) (h : ∀ p ∈ pins',s.heap.get? p.1 = some p.2 /\ H p.1 = none /\ p.1 ≠ X.env.locals /\ p.1 ∉ X.fs /\ ∀ v,p.2.data ≠ .cell v) : Inv X pins' σ H s :=
 ⟨I.ok,I.os,I.bare,I.base,I.loc,I.cell,I.free,I.freeC,fun p hp=>(List.mem_append.mp hp).elim (fun z=>I.pin p (List.mem_append_left _ z)) (h p),I.hok,I.len⟩
theorem zcs {N : List Str} (hN : N.Nodup) {i j : Nat} {x : Str} (a : N[i]? = some x) (b : N[j]? = some x) : i = j:=by
 obtain ⟨h1,e1⟩:=List.getElem?_eq_some_iff.mp a
 obtain ⟨h2,e2⟩:=List.getElem?_eq_some_iff.mp b
 exact (List.getElem_inj hN).mp (e1.trans e2.symm)
theorem zdt {M : Model} {A : Around} {E : Value -> Shared -> Prop} {i : Nat} {x : Str} {v : V} {u : Value} {Q : Unit -> Shared -> Prop} (I : Inv X pins σ H s) (hN : X.N.Nodup) (hi : X.N[i]? = some x) (hx : Loc X.env.scope x) (r : RelV v u)
  (h : ∀ s',Inv X pins (σ.set i (some v)) H s' -> (∃ a,Heap.SameBut a s.heap s'.heap /\ (a = X.env.locals \/ X.env.cells.lookup x = some a)) -> Q () s') (hf : X.fn x = true \/ X.env.scope.names.lookup x = some .local:=by first | exact .inl rfl | exact .inr rfl | assumption) : wpAny M A (storeName X.env x u) Q E s:=by
 obtain ⟨m,hn,hl⟩:=id I.loc
 have hcls : (X.env.scope.kind == .class || (X.env.scope.kind == .module && X.env.locals != X.env.globals)) = false:=by rw [I.ok.kind]; rfl
 have hiσ : i < σ.length:=by rw [I.len]; exact (List.getElem?_eq_some_iff.mp hi).1
 have cne:=I.cne
 have tracked : ∀ {a : Addr} {h' : Heap},(∃ o,s.heap.get? a = some o /\ H a = none) -> Heap.SameBut a s.heap h' -> HOk X.prog X.w H h' := fun {a h'} ha hs b ob e=>by
  obtain ⟨_,_,hfree⟩:=ha
  refine (I.hok b ob e).stay (fun c w' hc q=>(hs.2 c ?_).trans q) (fun _ q=>q) fun _ _ q=>q
  rintro rfl
  rcases hc with rfl | hc
  ·rw [hfree] at e; cases e
  ·rw [hfree] at hc; cases hc
 rcases hx with hk | hk
 ·refine wpAny_storeName_local hk hn (fun h' hn' hs=>?_) hcls
  obtain ⟨oL,_,_,hoL,_⟩:=id hn
  refine h _ ⟨I.ok,I.os,I.bare,⟨fun b o e n hb hx=>?_,fun b o e n hb hx=>?_,I.base.free,fun b o e hx=>?_,I.base.tups,I.base.frzs,I.base.tbls⟩,⟨_,hn',fun j y v' e1 e2 e3=>?_⟩,fun y c e=>?_,I.free,I.freeC,fun p hp=>?_,tracked ⟨oL,hoL,I.free⟩ hs,by simpa using I.len⟩ ⟨_,hs,.inl rfl⟩
  ·exact (hs.2 b (Nat.ne_of_lt (Nat.lt_of_lt_of_le (Heap.lt_size e) I.ok.above))).trans (I.base.keep b o e n hb hx)
  ·obtain ⟨sl,e1⟩:=I.base.slot b o e n hb hx
   exact ⟨sl,(hs.2 b (Nat.ne_of_lt (Nat.lt_of_lt_of_le (Heap.lt_size e) I.ok.above))).trans e1⟩
  ·obtain ⟨o',e1⟩:=I.base.there b o e hx
   exact ⟨o',(hs.2 b (Nat.ne_of_lt (Nat.lt_of_lt_of_le (Heap.lt_size e) I.ok.above))).trans e1⟩
  ·by_cases hj : j = i
   ·subst hj
    rw [hi] at e1; cases e1
    rw [List.getElem?_set_self hiσ] at e2
    cases e2
    exact ⟨u,r,.inl ⟨hk,by simp⟩⟩
   ·rw [List.getElem?_set_ne (Ne.symm hj)] at e2
    obtain ⟨u',r',q⟩:=hl j y v' e1 e2 e3
    refine ⟨u',r',?_⟩
    rcases q with ⟨k,e⟩ | ⟨k,c,e,z⟩
    ·refine .inl ⟨k,?_⟩
     have : y ≠ x:=fun e=>hj (zcs hN e1 (e ▸ hi))
     simp [this,e]
    ·exact .inr ⟨k,c,e,z.sameBut hs (cne y c e)⟩
  ·obtain ⟨w',z⟩:=I.cell y c e
   exact ⟨w',z.sameBut hs (cne y c e)⟩
  ·obtain ⟨e,n,ne,nf,d⟩:=I.pin p hp
   exact ⟨(hs.2 p.1 ne).trans e,n,ne,nf,d⟩
 ·have hfn : X.fn x = true:=by
   rcases hf with z | z
   ·exact z
   ·rw [z] at hk; cases hk
  obtain ⟨c,hc⟩:=I.ok.has x (.inl hk)
  obtain ⟨w',z⟩:=I.cell x c hc
  refine wpAny_storeName_cell I.ok.kind hk hc z (fun h' hc' hs=>?_)
  obtain ⟨oc,hoc,hocd⟩:=id z
  refine h { s with heap:=h' } ⟨I.ok,I.os,I.bare,⟨fun b o e n hb hx=>?_,fun b o e n hb hx=>?_,I.base.free,fun b o e hx=>?_,I.base.tups,I.base.frzs,I.base.tbls⟩,⟨m,hn.sameBut hs (Ne.symm (cne x c hc)),fun j y v' e1 e2 e3=>?_⟩,fun y c' e=>?_,I.free,I.freeC,fun p hp=>?_,tracked ⟨oc,hoc,I.freeC x c hc⟩ hs,by simpa using I.len⟩ ⟨c,hs,.inr hc⟩
  ·exact (hs.2 b (Nat.ne_of_lt (Nat.lt_of_lt_of_le (Heap.lt_size e) (I.ok.cab x c hfn hc)))).trans (I.base.keep b o e n hb hx)
  ·obtain ⟨sl,e1⟩:=I.base.slot b o e n hb hx
   exact ⟨sl,(hs.2 b (Nat.ne_of_lt (Nat.lt_of_lt_of_le (Heap.lt_size e) (I.ok.cab x c hfn hc)))).trans e1⟩
  ·obtain ⟨o',e1⟩:=I.base.there b o e hx
   exact ⟨o',(hs.2 b (Nat.ne_of_lt (Nat.lt_of_lt_of_le (Heap.lt_size e) (I.ok.cab x c hfn hc)))).trans e1⟩
  ·by_cases hj : j = i
   ·subst hj
    rw [hi] at e1; cases e1
    rw [List.getElem?_set_self hiσ] at e2
    cases e2
    exact ⟨u,r,.inr ⟨.inl hk,c,hc,hc'⟩⟩
   ·rw [List.getElem?_set_ne (Ne.symm hj)] at e2
    obtain ⟨u',r',q⟩:=hl j y v' e1 e2 e3
    refine ⟨u',r',?_⟩
    rcases q with q | ⟨k,c',e,z'⟩
    ·exact .inl q
    ·refine .inr ⟨k,c',e,z'.sameBut hs ?_⟩
     rintro rfl
     exact hj (zcs hN e1 (I.ok.inj _ _ _ e hc ▸ hi))
  ·by_cases hcc : c' = c
   ·subst hcc; exact ⟨_,hc'⟩
   ·obtain ⟨w2,z2⟩:=I.cell y c' e
    exact ⟨w2,z2.sameBut hs hcc⟩
  ·obtain ⟨e,n,ne,nf,d⟩:=I.pin p hp
   refine ⟨(hs.2 p.1 ?_).trans e,n,ne,nf,d⟩
   intro q
   rw [q,hoc] at e
   have q' : oc = p.2:=Option.some.inj e
   exact d w' (by rw [<- q']; exact hocd)
theorem zct {M : Model} {A : Around} {E : Value -> Shared -> Prop} {i : Nat} {x : Str} {v : V} {u : Value} {Q : Unit -> Shared -> Prop} (I : Inv X pins σ H s) (hN : X.N.Nodup) (hi : X.N[i]? = some x) (hx : Loc X.env.scope x) (r : RelV v u)
  (h : ∀ s',Inv X pins (σ.set i (some v)) H s' -> Q () s') (hf : X.fn x = true \/ X.env.scope.names.lookup x = some .local:=by first | exact .inl rfl | exact .inr rfl | assumption) : wpAny M A (storeName X.env x u) Q E s :=
 zdt I hN hi hx r (fun s' I' _=>h s' I') hf
theorem Inv.call' {s' : Shared} {ch : List Addr} (I : Inv X pins σ H s) (ho : s'.os = s.os) (u : Un (frs X.stack) ch H H' s.heap s'.heap) (hok : HOk X.prog X.w H' s'.heap) (hg : AllBare s'.gens)
  (hch : ∀ b ∈ ch,(b ∈ X.ex \/ X.s₀.heap.objs.size <= b) /\ b ≠ X.env.locals /\ (∀ x c,X.env.cells.lookup x = some c -> c ≠ b) /\ ∀ p ∈ X.pn++pins,p.1 ≠ b) : Inv X pins σ H' s' := by
 obtain ⟨h',g',d',t',o'⟩:=s'
 have e : o' = s.os:=ho
 subst e
 exact I.call (g' := g') (t' := t') (d' := d') u hok hg hch
end
abbrev XK:=Value -> Option Addr -> Hp -> Prop
abbrev St:=List (Option V)
abbrev VK:=V -> Hp -> Prop
abbrev TE:=St -> Hp -> VK -> Prop
abbrev TT:=St -> Hp -> (Bool -> Hp -> Prop) -> Prop
abbrev TA:=St -> Hp -> (List V -> Hp -> Prop) -> Prop
structure Ends where
 nx : St -> Hp -> Prop
 rt : VK
 bk : St -> Hp -> Prop:=fun _ _=>False
 ct : St -> Hp -> Prop:=fun _ _=>False
abbrev TS:=Ends -> St -> Hp -> Prop
def EP (X : Cx) (pins : List (Addr × Obj)) (σ : St) (Q : VK) (u : Value) (s' : Shared) : Prop:=∃ v H',Inv X pins σ H' s' /\ RelV v u /\ Q v H'
def TP (X : Cx) (pins : List (Addr × Obj)) (σ : St) (Q : Bool -> Hp -> Prop) (b : Bool) (s' : Shared) : Prop:=∃ H',Inv X pins σ H' s' /\ Q b H'
def AP (X : Cx) (pins : List (Addr × Obj)) (σ : St) (Q : List V -> Hp -> Prop) (us : List Value) (s' : Shared) : Prop:=∃ vs H',Inv X pins σ H' s' /\ Vals vs us /\ Q vs H'
def SP (X : Cx) (pins : List (Addr × Obj)) (D : Ends) (f : Flow) (s' : Shared) : Prop :=
 match f with
 | .next=>∃ σ' H',Inv X pins σ' H' s' /\ D.nx σ' H'
 | .brk=>∃ σ' H',Inv X pins σ' H' s' /\ D.bk σ' H'
 | .cont=>∃ σ' H',Inv X pins σ' H' s' /\ D.ct σ' H'
 | .ret u=>∃ v σ' H',Inv X pins σ' H' s' /\ RelV v u /\ D.rt v H'
def PE (X : Cx) (e : Expr) (t : TE) : Prop :=
 ∀ (pins : List (Addr × Obj)) (s : Shared) (σ : St) (H : Hp) (Q : VK),Inv X pins σ H s -> t σ H Q -> wpAny (model X.prog X.w) X.A (eval e X.env) (EP X pins σ Q) X.xe s
def PT (X : Cx) (e : Expr) (t : TT) : Prop :=
 ∀ (pins : List (Addr × Obj)) (s : Shared) (σ : St) (H : Hp) (Q : Bool -> Hp -> Prop),Inv X pins σ H s -> t σ H Q -> wpAny (model X.prog X.w) X.A (isTrue e X.env (eval e X.env)) (TP X pins σ Q) X.xe s
def PW (X : Cx) (e : Expr) (t : TT) : Prop :=
 ∀ (whole : Sem Value) (pins : List (Addr × Obj)) (s : Shared) (σ : St) (H : Hp) (Q : Bool -> Hp -> Prop),Inv X pins σ H s -> t σ H Q -> wpAny (model X.prog X.w) X.A (isTrue e X.env whole) (TP X pins σ Q) X.xe s
theorem PW.pt {X : Cx} {e : Expr} {t : TT} (h : PW X e t) : PT X e t:=h _
def PA (X : Cx) (es : List Expr) (t : TA) : Prop :=
 ∀ (pos : Pos) (pins : List (Addr × Obj)) (s : Shared) (σ : St) (H : Hp) (Q : List V -> Hp -> Prop),Inv X pins σ H s -> t σ H Q -> wpAny (model X.prog X.w) X.A (spliced (backTo pos (starEach es X.env))) (AP X pins σ Q) X.xe s
def PS (X : Cx) (st : Stmt) (t : TS) : Prop :=
 ∀ (pins : List (Addr × Obj)) (s : Shared) (σ : St) (H : Hp) (D : Ends),Inv X pins σ H s -> t D σ H -> wpAny (model X.prog X.w) X.A (exec st X.env) (SP X pins D) X.xe s
def PSs (X : Cx) (st : List Stmt) (t : TS) : Prop :=
 ∀ (pins : List (Addr × Obj)) (s : Shared) (σ : St) (H : Hp) (D : Ends),Inv X pins σ H s -> t D σ H -> wpAny (model X.prog X.w) X.A (execs st X.env) (SP X pins D) X.xe s
theorem thn {α : Type} {t : Sem α} {Q Q' : α -> Shared -> Prop} {M : Model} {A : Around} {E : Value -> Shared -> Prop} {s : Shared} (h : wpAny M A t Q E s) (hQ : ∀ a s,Q a s -> Q' a s) : wpAny M A t Q' E s:=wpAny_mono h hQ fun _ _ x=>x
end L2
namespace L2
open PySem PySem.Spec PyProof.Rows
section
variable {X : Cx}
theorem bin {a b : Expr} {ta tb : TE} (ha : PE X a ta) (hb : PE X b tb) {pins : List (Addr × Obj)} {s : Shared} {σ : St} {H : Hp} {R : V -> V -> Hp -> Prop} (I : Inv X pins σ H s) (h : ta σ H fun x H1=>tb σ H1 fun y H2=>R x y H2)
  {α : Type} {Q : α -> Shared -> Prop} {f : Value -> Value -> Sem α}
  (hf : ∀ v u s2 x y H2,Inv X pins σ H2 s2 -> RelV x v -> RelV y u -> R x y H2 -> wpAny (model X.prog X.w) X.A (f v u) Q X.xe s2) :
  wpAny (model X.prog X.w) X.A (eval a X.env) (fun v s₁=>wpAny (model X.prog X.w) X.A (eval b X.env) (fun u s₂=>wpAny (model X.prog X.w) X.A (f v u) Q X.xe s₂) X.xe s₁) X.xe s:=by
 refine thn (ha pins s σ H _ I h) fun v s1 ⟨x,H1,I1,r1,q1⟩=>?_
 refine thn (hb pins s1 σ H1 _ I1 q1) fun u s2 ⟨y,H2,I2,r2,q2⟩=>?_
 exact hf v u s2 x y H2 I2 r1 r2 q2
def tVar (i : Nat) : TE:=fun σ H Q=>∃ v,σ[i]? = some (some v) /\ Q v H
def tC (v : V) : TE:=fun _ H Q=>Q v H
theorem yf4 {i : Nat} {x : Str} {pos : Pos} (hN : X.N[i]? = some x) (hv : Vis X.env.scope x) (hd : (x == ("__debug__" : Str)) = false:=by decide) (hcd : (x == ("__classdict__" : Str)) = false:=by decide) : PE X (.Name x pos) (tVar i):=by
 intro pins s σ H Q I h
 obtain ⟨v,e,h⟩:=h
 obtain ⟨m,hn,hl⟩:=I.loc
 obtain ⟨u,r,l⟩:=hl i x v hN e hv
 have fin : EP X pins σ Q u s:=⟨v,H,I,r,h⟩
 rcases l with ⟨hk,hm⟩ | ⟨hk,c,hc,hcell⟩
 ·exact wpAny_Name (wpAny_loadName_local I.ok.kind hk hn hm fin) hd
 ·rcases hk with hk | hk
  ·exact wpAny_Name (wpAny_loadName_cell I.ok.kind hk hc hcell fin) hd
  ·exact wpAny_Name (wpAny_loadName_free I.ok.kind hk hc hcell fin hcd) hd
theorem yf5 {i j pos} : PE X (.Constant (.int i) j pos) (tC (.int i)):=fun _ _ _ H _ I h=>wpAny_Constant_int ⟨.int i,H,I.tok _,⟨_,rfl⟩,h⟩
theorem yhh {b j pos} : PE X (.Constant (.bool b) j pos) (tC (.bl b)):=fun _ _ _ H _ I h=>Constant_bool ⟨.bl b,H,I,rfl,h⟩
theorem yf6 {x j pos} : PE X (.Constant (.str x) j pos) (tC (.str x)):=fun _ _ _ H _ I h=>Calls.Constant_str ⟨.str x,H,I.tok _,⟨_,rfl⟩,h⟩
def Gl (X : Cx) (x : Str) : Prop:=X.env.kindOf x = some .globalImplicit
theorem zb0 {E : Value -> Shared -> Prop} {pins : List (Addr × Obj)} {s : Shared} {σ : St} {H : Hp} {x : Str} {u : Value} {pos : Pos} {Q : Value -> Shared -> Prop} (I : Inv X pins σ H s) (hg : Gl X x) (hm : X.mg x = some u) (h : Q u s)
  (hd : (x == ("__debug__" : Str)) = false:=by decide) : wpAny (model X.prog X.w) X.A (eval (.Name x pos) X.env) Q E s :=
 Calls.Name_function_global I.ok.kind hg (Calls.loadGlobal_global (by rw [I.ok.glob]; exact I.mod.glob.keeps I.bk) hm h) hd
theorem yck {E : Value -> Shared -> Prop} {pins : List (Addr × Obj)} {s : Shared} {σ : St} {H : Hp} {x : Str} {u : Value} {pos : Pos} {Q : Value -> Shared -> Prop} (I : Inv X pins σ H s) (hg : Gl X x) (hm : X.mg x = none) (hv : bootBuiltins x = some u) (h : Q u s)
  (hn : x ≠ "__name__" := by decide) (hd : (x == ("__debug__" : Str)) = false:=by decide) : wpAny (model X.prog X.w) X.A (eval (.Name x pos) X.env) Q E s:=by
 obtain ⟨mb,h1,h2⟩:=I.mod.blt
 exact Calls.Name_function_global I.ok.kind hg (Calls.loadGlobal_builtin (by rw [I.ok.glob]; exact I.mod.glob.keeps I.bk) hm (by rw [I.ok.blt]; exact h1.keeps I.bk) ((h2 x hn).trans hv) h) hd
theorem zit {x : Str} {v : V} {u : Value} {pos : Pos} (hg : Gl X x) (hm : X.mg x = some u) (r : RelV v u) (hd : (x == ("__debug__" : Str)) = false:=by decide) : PE X (.Name x pos) (tC v) :=
 fun _ _ _ H _ I h=>zb0 I hg hm ⟨v,H,I,r,h⟩ hd
theorem ziu {x : Str} {v : V} {u : Value} {pos : Pos} (hg : Gl X x) (hm : X.mg x = none) (hv : bootBuiltins x = some u) (r : RelV v u) (hn : x ≠ "__name__" := by decide) (hd : (x == ("__debug__" : Str)) = false:=by decide) : PE X (.Name x pos) (tC v) :=
 fun _ _ _ H _ I h=>yck I hg hm hv ⟨v,H,I,r,h⟩ hn hd
variable {a b : Expr} {ta tb : TE} {pos : Pos}
variable {tA tB' : TT} {rest : List Expr}
def tAnd (t u : TT) : TT:=fun σ H Q=>t σ H fun c H1=>if c = true then u σ H1 Q else Q false H1
def tOr (t u : TT) : TT:=fun σ H Q=>t σ H fun c H1=>if c = true then Q true H1 else u σ H1 Q
def tNot (t : TT) : TT:=fun σ H Q=>t σ H fun c H1=>Q (!c) H1
theorem ziv (ha : PT X a tA) : PW X (.BoolOp .And [a] pos) tA:=by
 intro wh pins s σ H Q I h
 refine isTrue_and (thn (ha pins s σ H Q I h) fun c s1 e=>?_)
 cases c with
 | true=>exact isTrue_and_nil e
 | false=>exact e
theorem yf7 (ha : PT X a tA) : PW X (.BoolOp .Or [a] pos) tA:=by
 intro wh pins s σ H Q I h
 refine isTrue_or (thn (ha pins s σ H Q I h) fun c s1 e=>?_)
 cases c with
 | false=>exact isTrue_or_nil e
 | true=>exact e
theorem yf8 (ha : PT X a tA) (hb : PW X (.BoolOp .And (b :: rest) pos) tB') : PW X (.BoolOp .And (a :: b :: rest) pos) (tAnd tA tB'):=by
 intro wh pins s σ H Q I h
 refine isTrue_and (thn (ha pins s σ H _ I h) fun c s1 ⟨H1,I1,q1⟩=>?_)
 cases c with
 | true=>exact hb wh pins s1 σ H1 Q I1 q1
 | false=>exact ⟨H1,I1,q1⟩
theorem yhi (ha : PT X a tA) (hb : PW X (.BoolOp .Or (b :: rest) pos) tB') : PW X (.BoolOp .Or (a :: b :: rest) pos) (tOr tA tB'):=by
 intro wh pins s σ H Q I h
 refine isTrue_or (thn (ha pins s σ H _ I h) fun c s1 ⟨H1,I1,q1⟩=>?_)
 cases c with
 | true=>exact ⟨H1,I1,q1⟩
 | false=>exact hb wh pins s1 σ H1 Q I1 q1
theorem yf9 (ha : PT X a tA) : PT X (.UnaryOp .Not a pos) (tNot tA):=by
 intro pins s σ H Q I h
 exact isTrue_not (ha pins s σ H (fun c H1=>Q (!c) H1) I h)
def yhj (ta tb : TE) : TE:=fun σ H Q=>ta σ H fun x H1=>∃ c,x = .bl c /\ if c = true then tb σ H1 Q else Q (.bl false) H1
def tOrV (ta tb : TE) : TE:=fun σ H Q=>ta σ H fun x H1=>∃ c,x = .bl c /\ if c = true then Q (.bl true) H1 else tb σ H1 Q
def yhk (ta : TE) : TE:=fun σ H Q=>ta σ H fun x H1=>∃ c,x = .bl c /\ Q (.bl (!c)) H1
theorem yga {op} {t : TE} (h : PE X a t) : PE X (.BoolOp op [a] pos) t:=fun pins s σ H Q I hw=>BoolOp_one (h pins s σ H Q I hw)
theorem ygb (ha : PE X a ta) (hb : PE X (.BoolOp .And (b :: rest) pos) tb) : PE X (.BoolOp .And (a :: b :: rest) pos) (yhj ta tb):=by
 intro pins s σ H Q I h
 refine BoolOp_and (thn (ha pins s σ H _ I h) fun v s1 ⟨x,H1,I1,r1,q1⟩=>?_)
 obtain ⟨c,rfl,q1⟩:=q1
 cases r1
 refine wpAny_truthy_bool ?_
 cases c with
 | true=>exact hb pins s1 σ H1 Q I1 q1
 | false=>exact ⟨.bl false,H1,I1,rfl,q1⟩
theorem yhl (ha : PE X a ta) (hb : PE X (.BoolOp .Or (b :: rest) pos) tb) : PE X (.BoolOp .Or (a :: b :: rest) pos) (tOrV ta tb):=by
 intro pins s σ H Q I h
 refine BoolOp_or (thn (ha pins s σ H _ I h) fun v s1 ⟨x,H1,I1,r1,q1⟩=>?_)
 obtain ⟨c,rfl,q1⟩:=q1
 cases r1
 refine wpAny_truthy_bool ?_
 cases c with
 | false=>exact hb pins s1 σ H1 Q I1 q1
 | true=>exact ⟨.bl true,H1,I1,rfl,q1⟩
theorem ygc (ha : PE X a ta) : PE X (.UnaryOp .Not a pos) (yhk ta):=by
 intro pins s σ H Q I h
 refine UnaryOp_ (thn (ha pins s σ H _ I h) fun v s1 ⟨x,H1,I1,r1,q1⟩=>?_)
 obtain ⟨c,rfl,q1⟩:=q1
 cases r1
 exact not_of (wpAny_truthy_bool ⟨.bl (!c),H1,I1,rfl,q1⟩)
end
end L2
namespace L2
open PySem PySem.Spec PyProof.Rows
def SqL (K : PySem.W.Frag) (H : Hp) (a : Addr) (xs : List V) : Prop :=
 Rd H a (.lst xs) \/
  ∃ (o : Obj) (its : Array Value) (n : Nat),K.lookup a = some o /\ o.cls = .type "list" /\ o.dict = none /\ o.data = .seq its n /\ its.size <= sizeLine /\ Vals xs its.toList
def SqT (K : PySem.W.Frag) (H : Hp) (a : Addr) (xs : List V) : Prop :=
 Rd H a (.tup xs) \/
  ∃ (o : Obj) (its : Array Value) (n : Nat),K.lookup a = some o /\ o.cls = .type "tuple" /\ o.data = .seq its n /\ its.size <= sizeLine /\ Vals xs its.toList
def absV : Value -> Option V
 | .none=>some .non
 | .bool b=>some (.bl b)
 | .int i _=>some (.int i)
 | .str x _=>some (.str x)
 | .bytes b _=>some (.byt b)
 | .float b _=>some (.flt b)
 | .ref a=>some (.ref a)
 | .type n=>some (.ty n)
 | _=>none
theorem RelV.abs {x : V} {u : Value} (r : RelV x u) : absV u = some x:=by
 cases x with
 | non=>cases r; rfl
 | bl _=>cases r; rfl
 | int _=>obtain ⟨t,rfl⟩:=r; rfl
 | str _=>obtain ⟨t,rfl⟩:=r; rfl
 | byt _=>obtain ⟨t,rfl⟩:=r; rfl
 | flt _=>obtain ⟨t,rfl⟩:=r; rfl
 | ref _=>cases r; rfl
 | ty _=>cases r; rfl
theorem RelV.inj {x y : V} {u : Value} (r : RelV x u) (q : RelV y u) : x = y:=Option.some.inj (r.abs.symm.trans q.abs)
theorem Vals.inj : ∀ {xs ys : List V} {us : List Value},Vals xs us -> Vals ys us -> xs = ys
 | _,_,_,.nil,.nil=>rfl
 | _,_,_,.cons r t,.cons r' t' => by rw [r.inj r',Vals.inj t t']
section
variable {X : Cx} {pins : List (Addr × Obj)} {σ : St} {H : Hp} {s : Shared} {a : Addr} {xs ys : List V}
theorem SqL.of {K : PySem.W.Frag} (h : H a = some (.lst xs)) : SqL K H a xs:=.inl (.inl h)
theorem SqT.of {K : PySem.W.Frag} (h : H a = some (.tup xs)) : SqT K H a xs:=.inl (.inl h)
theorem Inv.list (I : Inv X pins σ H s) (h : SqL X.K H a xs) : ∃ its : List Value,Vals xs its /\ PlainL s.heap a its.toArray /\ xs.length <= sizeLine:=by
 rcases h with h | ⟨o,its,n,hk,hc,hd,hs,hz,r⟩
 ·obtain ⟨z,its,n,r,e⟩:=h.ok I.hok
  exact ⟨its,r,⟨_,n,e,rfl,rfl,rfl⟩,z⟩
 ·refine ⟨its.toList,r,⟨o,n,I.kIn a o hk,hc,hd,by simpa using hs⟩,?_⟩
  have e:=r.length
  simp only [Array.length_toList] at e
  omega
theorem Inv.tuple (I : Inv X pins σ H s) (h : SqT X.K H a xs) : ∃ its : List Value,Vals xs its /\ IsTup s.heap a its.toArray /\ xs.length <= sizeLine:=by
 rcases h with h | ⟨o,its,n,hk,hc,hs,hz,r⟩
 ·obtain ⟨z,its,r,p⟩:=h.ok I.hok
  exact ⟨its,r,p,z⟩
 ·refine ⟨its.toList,r,⟨o,I.kIn a o hk,hc,n,by simpa using hs⟩,?_⟩
  have e:=r.length
  simp only [Array.length_toList] at e
  omega
theorem Inv.list_inj (I : Inv X pins σ H s) (h : SqL X.K H a xs) (h' : SqL X.K H a ys) : xs = ys:=by
 obtain ⟨its,r,⟨o,n,e,_,_,d⟩,_⟩:=I.list h
 obtain ⟨its',r',⟨o',n',e',_,_,d'⟩,_⟩:=I.list h'
 rw [e] at e'; cases e'
 rw [d] at d'
 injection d' with d1 _
 have : its = its' := by simpa using congrArg Array.toList d1
 subst this
 exact r.inj r'
theorem Inv.tuple_inj (I : Inv X pins σ H s) (h : SqT X.K H a xs) (h' : SqT X.K H a ys) : xs = ys:=by
 obtain ⟨its,r,⟨o,e,_,n,d⟩,_⟩:=I.tuple h
 obtain ⟨its',r',⟨o',e',_,n',d'⟩,_⟩:=I.tuple h'
 rw [e] at e'; cases e'
 rw [d] at d'
 injection d' with d1 _
 have : its = its' := by simpa using congrArg Array.toList d1
 subst this
 exact r.inj r'
end
abbrev Cx.wish (X : Cx) (E : Value -> Shared -> Prop) : Cx:={ X with xe:=E }
abbrev Cx.nox (X : Cx) : Cx:=X.wish fun _ _=>False
theorem Cx.Ok.wish {X : Cx} (ok : X.Ok) (E : Value -> Shared -> Prop) : (X.wish E).Ok :=
 ⟨ok.mod,ok.kind,ok.glob,ok.blt,ok.above,ok.inj,ok.has,ok.cab,ok.hd,ok.frames,ok.stk,ok.exf,ok.bs,ok.bsz,ok.noex,ok.exfs,ok.funs,ok.frf⟩
theorem Cx.Ok.unwish {X : Cx} {E : Value -> Shared -> Prop} (ok : (X.wish E).Ok) : X.Ok :=
 ⟨ok.mod,ok.kind,ok.glob,ok.blt,ok.above,ok.inj,ok.has,ok.cab,ok.hd,ok.frames,ok.stk,ok.exf,ok.bs,ok.bsz,ok.noex,ok.exfs,ok.funs,ok.frf⟩
section
variable {X : Cx} {pins : List (Addr × Obj)} {σ : St} {H : Hp} {s : Shared} {E : Value -> Shared -> Prop}
theorem Inv.wish (I : Inv X pins σ H s) (E : Value -> Shared -> Prop) : Inv (X.wish E) pins σ H s:=⟨I.ok.wish E,I.os,I.bare,I.base,I.loc,I.cell,I.free,I.freeC,I.pin,I.hok,I.len⟩
theorem Inv.unwish (I : Inv (X.wish E) pins σ H s) : Inv X pins σ H s:=⟨I.ok.unwish,I.os,I.bare,I.base,I.loc,I.cell,I.free,I.freeC,I.pin,I.hok,I.len⟩
theorem SP.unwish {D : Ends} {f : Flow} {s' : Shared} (h : SP (X.wish E) pins D f s') : SP X pins D f s' := by
 cases f with
 | next=>obtain ⟨σ',H',I,q⟩:=h; exact ⟨σ',H',I.unwish,q⟩
 | brk=>obtain ⟨σ',H',I,q⟩:=h; exact ⟨σ',H',I.unwish,q⟩
 | cont=>obtain ⟨σ',H',I,q⟩:=h; exact ⟨σ',H',I.unwish,q⟩
 | ret u=>obtain ⟨v,σ',H',I,r,q⟩:=h; exact ⟨v,σ',H',I.unwish,r,q⟩
end
section
variable {X : Cx} {st : Stmt} {rest : List Stmt} {t u : TS} {e : Expr} {te : TE} {pos : Pos}
def yhm : TS:=fun D σ H=>D.nx σ H
def tSeq (t u : TS) : TS:=fun D σ H=>t { D with nx:=u D } σ H
theorem ziw : PSs X [] yhm:=fun _ _ σ H _ I h=>wpAny_execs_nil ⟨σ,H,I,h⟩
theorem zht (h1 : PS X st t) (h2 : PSs X rest u) : PSs X (st :: rest) (tSeq t u):=by
 intro pins s σ H D I h
 refine wpAny_execs_cons (thn (h1 pins s σ H { D with nx:=u D } I h) fun f s1 q=>?_)
 cases f with
 | next =>
  obtain ⟨σ',H',I',q⟩:=q
  exact h2 pins s1 σ' H' D I' q
 | ret v=>exact q
 | brk=>exact q
 | cont=>exact q
theorem zix (h1 : PS X st t) : PSs X [st] t:=by
 intro pins s σ H D I h
 refine wpAny_execs_cons (thn (h1 pins s σ H D I h) fun f s1 q=>?_)
 cases f with
 | next=>exact wpAny_execs_nil q
 | ret v=>exact q
 | brk=>exact q
 | cont=>exact q
theorem Inv.quiet {pins : List (Addr × Obj)} {σ : St} {H : Hp} {s : Shared} (I : Inv X pins σ H s) : interactive X.env = false:=by simp [interactive,I.ok.kind]
def yhn (te : TE) : TS:=fun D σ H=>te σ H fun _ H1=>D.nx σ H1
theorem ziy (he : PE X e te) (hs : swapsWith e none pos.line X.env = pure false:=by rfl) : PS X (.Expr e pos) (yhn te):=by
 intro pins s σ H D I h
 exact wpAny_Expr_any (thn (he pins s σ H _ I h) fun v s1 ⟨x,H1,I1,r1,q1⟩=>⟨σ,H1,I1,q1⟩) I.quiet hs
def tRet (te : TE) : TS:=fun D σ H=>te σ H D.rt
theorem ygd (he : PE X e te) : PS X (.Return (some e) pos) (tRet te):=by
 intro pins s σ H D I h
 exact wpAny_Return_some (thn (he pins s σ H _ I h) fun v s1 ⟨x,H1,I1,r1,q1⟩=>⟨x,σ,H1,I1,r1,q1⟩)
def tIfS (c : TT) (t u : TS) : TS:=fun D σ H=>c σ H fun b H1=>if b = true then t D σ H1 else u D σ H1
theorem yho {c : Expr} {a b : List Stmt} {tc : TT} (hc : PT X c tc) (ha : PSs X a t) (hb : PSs X b u) : PS X (.If c a b pos) (tIfS tc t u):=by
 intro pins s σ H D I h
 refine wpAny_If (thn (hc pins s σ H _ I h) fun d s1 ⟨H1,I1,q1⟩=>?_)
 cases d with
 | true=>exact ha pins s1 σ H1 D I1 q1
 | false=>exact hb pins s1 σ H1 D I1 q1
end
abbrev TG:=V -> St -> Hp -> (St -> Hp -> Prop) -> Prop
abbrev TGs:=List V -> St -> Hp -> (St -> Hp -> Prop) -> Prop
def PG (X : Cx) (target : Expr) (t : TG) : Prop :=
 ∀ (pins : List (Addr × Obj)) (s : Shared) (σ : St) (H : Hp) (v : V) (u : Value) (Q : St -> Hp -> Prop),Inv X pins σ H s -> RelV v u -> t v σ H Q ->
  wpAny (model X.prog X.w) X.A (assign target X.env u) (fun _ s' => ∃ σ' H',Inv X pins σ' H' s' /\ Q σ' H') X.xe s
def PGs (X : Cx) (ts : List Expr) (t : TGs) : Prop :=
 ∀ (pins : List (Addr × Obj)) (s : Shared) (σ : St) (H : Hp) (vs : List V) (us : List Value) (Q : St -> Hp -> Prop),Inv X pins σ H s -> Vals vs us -> t vs σ H Q ->
  wpAny (model X.prog X.w) X.A (assignInOrder ((assignEach ts X.env).map (·.2)) us) (fun _ s' => ∃ σ' H',Inv X pins σ' H' s' /\ Q σ' H') X.xe s
abbrev TSet:=V -> V -> V -> Hp -> (Hp -> Prop) -> Prop
def PSet (X : Cx) (t : TSet) : Prop :=
 ∀ (pins : List (Addr × Obj)) (s : Shared) (σ : St) (H : Hp) (o i v : V) (ov iv u : Value) (Q : Hp -> Prop),Inv X pins σ H s -> RelV o ov -> RelV i iv -> RelV v u -> t o i v H Q ->
  wpAny (model X.prog X.w) X.A (setItem ov iv u) (fun _ s' => ∃ H',Inv X pins σ H' s' /\ Q H') X.xe s
section
variable {X : Cx} {pos : Pos}
def yew (i : Nat) : TG:=fun v σ H Q=>Q (σ.set i (some v)) H
theorem zfd {i : Nat} {x : Str} (hN : X.N.Nodup) (hi : X.N[i]? = some x) (hx : Loc X.env.scope x) (hf : X.fn x = true \/ X.env.scope.names.lookup x = some .local:=by first | exact .inl rfl | exact .inr rfl | assumption) : PG X (.Name x pos) (yew i):=by
 intro pins s σ H v u Q I r h
 exact wpAny_assign_Name (zct I hN hi hx r (fun s' I' => ⟨_,H,I',h⟩) hf)
def gNil : TGs:=fun vs σ H Q=>vs = [] /\ Q σ H
def yhp (t : TG) (u : TGs) : TGs:=fun vs σ H Q=>∃ v r,vs = v :: r /\ t v σ H fun σ' H' => u r σ' H' Q
theorem ziz : PGs X [] gNil:=by
 intro pins s σ H vs us Q I r h
 obtain ⟨e,h⟩:=h
 subst e
 cases r
 exact assignInOrder_nil ⟨σ,H,I,h⟩
theorem zhu {e : Expr} {es : List Expr} {t : TG} {u : TGs} (h1 : PG X e t) (h2 : PGs X es u)
  (hs : (assignEach (e :: es) X.env).map (·.2) = assign e X.env :: (assignEach es X.env).map (·.2):=by rfl) : PGs X (e :: es) (yhp t u):=by
 intro pins s σ H vs us Q I r h
 obtain ⟨v,vr,e1,h⟩:=h
 subst e1
 cases r with
 | cons r rr =>
  rw [hs]
  refine assignInOrder_cons (thn (h1 pins s σ H _ _ _ I r h) fun _ s1 ⟨σ1,H1,I1,q1⟩=>?_)
  exact h2 pins s1 σ1 H1 _ _ Q I1 rr q1
def gTup (K : PySem.W.Frag) (n : Nat) (t : TGs) : TG:=fun v σ H Q=>∃ a xs,v = .ref a /\ SqT K H a xs /\ xs.length = n /\ t xs σ H Q
theorem yge {es : List Expr} {k : Nat} {t : TGs} {n : Nat} (hc : X.calm = true) (h : PGs X es t)
  (hn : (assignEach es X.env).length = n:=by rfl) (hst : (assignEach es X.env).findIdx? (·.1) = none:=by rfl) : PG X (.Tuple es k pos) (gTup X.K n t):=by
 intro pins s σ H v u Q I r hw
 obtain ⟨a,xs,e1,hq,hl,hw⟩:=hw
 subst e1
 cases r
 obtain ⟨its,rv,ht,hz⟩:=I.tuple hq
 refine assign_Tuple_tuple (I.ok.hd hc) ht (by simp [hn,<- hl,rv.length]) hst fun h' hx=>?_
 have I1 : Inv X pins σ H { s with heap:=h' }:=I.kept (t' := s.toks) fun b o e=>hx b o (Nat.ne_of_lt (Heap.lt_size e)) e
 exact h pins _ σ H xs _ Q I1 (by simpa using rv) hw
def gSub (to ti : TE) (t : TSet) : TG:=fun v σ H Q=>to σ H fun o H1=>ti σ H1 fun i H2=>t o i v H2 fun H3=>Q σ H3
theorem ygf {o i : Expr} {to ti : TE} {t : TSet} (ho : PE X o to) (hi : PE X i ti) (hs : PSet X t)
  (ha : ∀ v,assign (.Subscript o i pos) X.env v = (do
   let ov <- holding [v] (eval o X.env)
   let iv <- holding [v,ov] (eval i X.env)
   standAt pos
   holding [v,ov,iv] (setItem ov iv v)
   release [v,ov,iv] []):=by intro _; rfl) : PG X (.Subscript o i pos) (gSub to ti t):=by
 intro pins s σ H v u Q I r h
 rw [ha]
 refine wpAny_bind (wpAny_holding (thn (ho pins s σ H _ I h) fun ov s1 ⟨x,H1,I1,r1,q1⟩=>?_))
 refine wpAny_bind (wpAny_holding (thn (hi pins s1 σ H1 _ I1 q1) fun iv s2 ⟨y,H2,I2,r2,q2⟩=>?_))
 refine wpAny_bind (wpAny_standAt (wpAny_bind (wpAny_holding (thn (hs pins s2 σ H2 x y v ov iv u _ I2 r1 r2 r q2) fun _ s3 ⟨H3,I3,q3⟩=>?_))))
 exact wpAny_release ⟨σ,H3,I3,q3⟩
def tAsg (te : TE) (g : TG) : TS:=fun D σ H=>te σ H fun x H1=>g x σ H1 D.nx
theorem yff {tg e : Expr} {te : TE} {g : TG} (he : PE X e te) (hg : PG X tg g) (hs : swapsWithSole [tg] e pos.line X.env = pure false:=by rfl) (hw : swappedStores [tg] e X.env = pure none:=by rfl)
  (h1 : (assignEach [tg] X.env).map (·.2) = [assign tg X.env]:=by rfl) : PS X (.Assign [tg] e pos) (tAsg te g):=by
 intro pins s σ H D I h
 refine wpAny_Assign_stores (thn (he pins s σ H _ I h) fun v s1 ⟨x,H1,I1,r1,q1⟩=>?_) hs hw
 rw [h1]
 exact thn (hg pins s1 σ H1 x v _ I1 r1 q1) fun _ s2 q=>q
theorem ygg {i : Nat} {x : Str} {e : Expr} {te : TE} {pos' : Pos} (hN : X.N.Nodup) (hi : X.N[i]? = some x) (hx : Loc X.env.scope x) (he : PE X e te) (hs : swapsWith e (some (.Name x pos')) pos.line X.env = pure false:=by rfl) (hf : X.fn x = true \/ X.env.scope.names.lookup x = some .local:=by first | exact .inl rfl | exact .inr rfl | assumption) :
  PS X (.Assign [.Name x pos'] e pos) (tAsg te (yew i)):=by
 intro pins s σ H D I h
 refine wpAny_Assign_Name (thn (he pins s σ H _ I h) fun v s1 ⟨y,H1,I1,r1,q1⟩=>?_) hs
 exact zct I1 hN hi hx r1 (fun s2 I2=>⟨_,H1,I2,q1⟩) hf
end
section
variable {X : Cx} {pos : Pos}
def ygh (c : TT) (tb : TS) : TS:=fun D σ H=>∃ W : Nat -> St -> Hp -> Prop,(∃ m,W m σ H) /\ ∀ m σ H,W m σ H ->
 c σ H fun b H1=>if b = true then ∃ N : St -> Hp -> Prop,(∀ σ' H',N σ' H' -> ∃ m',m' < m /\ W m' σ' H') /\ tb { D with nx:=N,ct:=N,bk:=D.nx } σ H1 else D.nx σ H1
theorem zhv {c : Expr} {body : List Stmt} {tc : TT} {tb : TS} (hp : PassesOwn (model X.prog X.w) X.A X.env X.xe) (hc : PT X c tc) (hb : PSs X body tb) : PS X (.While c body [] pos) (ygh tc tb):=by
 intro pins s σ H D I h
 obtain ⟨W,⟨m0,w0⟩,turn⟩:=h
 refine wpAny_While (codeAny_whileLoop (fun n s' => ∃ σ' H',Inv X pins σ' H' s' /\ W n σ' H') ?_ m0 ⟨σ,H,I,w0⟩)
 rintro n s1 ⟨σ1,H1,I1,w1⟩
 refine wpAny_passesOwn hp (thn (hc pins s1 σ1 H1 _ I1 (turn n σ1 H1 w1)) fun b s2 ⟨H2,I2,q2⟩=>?_)
 cases b with
 | true =>
  obtain ⟨N,hN,q2⟩:=q2
  rw [if_pos rfl]
  refine wpAny_passesOwn hp (thn (hb pins s2 σ1 H2 _ I2 q2) fun f s3 q3=>?_)
  cases f with
  | next =>
   obtain ⟨σ3,H3,I3,n3⟩:=q3
   obtain ⟨m',hm,w3⟩:=hN σ3 H3 n3
   exact ⟨m',hm,σ3,H3,I3,w3⟩
  | cont =>
   obtain ⟨σ3,H3,I3,n3⟩:=q3
   obtain ⟨m',hm,w3⟩:=hN σ3 H3 n3
   exact ⟨m',hm,σ3,H3,I3,w3⟩
  | brk=>exact q3
  | ret v=>exact q3
 | false =>
  rw [if_neg Bool.false_ne_true]
  exact wpAny_execs_nil ⟨σ1,H2,I2,q2⟩
end
structure It where
 go : Nat -> Hp -> Prop
 yld : Nat -> Hp -> V -> Hp -> Prop
 stop : Nat -> Hp -> Prop
def FpOk (X : Cx) (pins : List (Addr × Obj)) (H : Hp) (b : Addr) : Prop :=
 H b = none /\ b ≠ X.env.locals /\ b ∉ X.fs /\ (b ∈ X.ex \/ X.s₀.heap.objs.size <= b) /\ (∀ x c,X.env.cells.lookup x = some c -> c ≠ b) /\ ∀ p ∈ X.pn++pins,p.1 ≠ b
theorem Inv.fpOk {X : Cx} {pins : List (Addr × Obj)} {σ : St} {H H' : Hp} {s : Shared} {b : Addr} (I : Inv X pins σ H s) (hb : s.heap.objs.size <= b) (hn : H' b = none) : FpOk X pins H' b:=by
 refine ⟨hn,Nat.ne_of_gt (Nat.lt_of_lt_of_le I.lt hb),I.nofs hb,.inr (Nat.le_trans I.sz hb),fun x c e z=>?_,fun p hp z=>?_⟩
 ·obtain ⟨v,q⟩:=I.cell x c e
  exact absurd (Nat.lt_of_lt_of_le q.lt (by rw [z]; exact hb)) (Nat.lt_irrefl _)
 ·exact absurd (Nat.lt_of_lt_of_le (Heap.lt_size (I.pin p hp).1) (by rw [z]; exact hb)) (Nat.lt_irrefl _)
structure Turn (P : Program) (w : World) (K : PySem.W.Frag) (tg : Expr) (J : It) (fp : List Addr) (it : Addr) (tn : Nat -> Heap -> Prop) : Prop where
 mem : it ∈ fp
 obj : ∀ i h,tn i h -> ∀ b ∈ fp,∃ o,h.get? b = some o /\ ∀ v,o.data ≠ .cell v
 keep : ∀ i h h',tn i h -> (∀ b ∈ fp,∀ o,h.get? b = some o -> h'.get? b = some o) -> tn i h'
 item : ∀ (X : Cx),X.prog = P -> X.w = w -> X.K = K -> X.calm = true -> ∀ (i : Nat) (pins : List (Addr × Obj)) (s : Shared) (σ : St) (H : Hp) (E : Value -> Shared -> Prop),Inv X pins σ H s -> (∀ b ∈ fp,FpOk X pins H b) -> tn i s.heap -> J.go i H ->
  wpAny (model P w) X.A (pyNext (.ref it)) (fun r s1=>∃ u,r = some u /\
   wpAny (model P w) X.A (letOwnedTupleGo tg (.ref it) u) (fun _ s2=>∃ x H',Inv X pins σ H' s2 /\ RelV x u /\ J.yld i H x H' /\ tn (i + 1) s2.heap /\ ∀ b ∈ fp,H' b = none) E s1) E s
 done : ∀ (X : Cx),X.prog = P -> X.w = w -> X.K = K -> X.calm = true -> ∀ (i : Nat) (pins : List (Addr × Obj)) (s : Shared) (σ : St) (H : Hp) (E : Value -> Shared -> Prop),Inv X pins σ H s -> (∀ b ∈ fp,FpOk X pins H b) -> tn i s.heap -> J.stop i H ->
  wpAny (model P w) X.A (pyNext (.ref it)) (fun r s1=>r = none /\ Inv X pins σ H s1) E s
 self : ∀ (A : Around) (i : Nat) (s : Shared) (Q : Value -> Shared -> Prop) (E : Value -> Shared -> Prop),tn i s.heap -> Q (.ref it) s -> wpAny (model P w) A (pyIter (.ref it)) Q E s
abbrev TI:=St -> Hp -> (It -> Hp -> Prop) -> Prop
def PIE (X : Cx) (pins : List (Addr × Obj)) (σ : St) (tg : Expr) (R : It -> Hp -> Prop) (itv : Value) (s2 : Shared) : Prop :=
 ∃ (it : Addr) (fp : List Addr) (tn : Nat -> Heap -> Prop) (J : It) (H' : Hp),itv = .ref it /\ Inv X pins σ H' s2 /\ Turn X.prog X.w X.K tg J fp it tn /\ tn 0 s2.heap /\ (∀ b ∈ fp,FpOk X pins H' b) /\ R J H'
def PI (X : Cx) (tg iter : Expr) (wi : TI) : Prop :=
 ∀ (pins : List (Addr × Obj)) (s : Shared) (σ : St) (H : Hp) (R : It -> Hp -> Prop),Inv X pins σ H s -> wi σ H R ->
  wpAny (model X.prog X.w) X.A (eval iter X.env) (fun v s1=>wpAny (model X.prog X.w) X.A (pyIter v) (PIE X pins σ tg R) X.xe s1) X.xe s
theorem yex {M : Model} {A : Around} {E : Value -> Shared -> Prop} {s : Shared} {tg : Expr} {it : Addr} {u : Value} {o : Obj} {n : String} {vs : Array Value} {Q : Unit -> Shared -> Prop} (ho : s.heap.get? it = some o) (hc : o.cls = .type n) (hd : o.data = .fields vs)
  (hn : ["enumerate", "zip", "dict_itemiterator", "dict_reverseitemiterator", "odict_iterator", "itertools.zip_longest", "itertools.pairwise"].contains n = false) (hQ : Q () s) : wpAny M A (letOwnedTupleGo tg (.ref it) u) Q E s:=by
 unfold letOwnedTupleGo
 cases tg<;>first
  | exact wpAny_pure hQ
  | (cases u<;>first
    | exact wpAny_pure hQ
    | (refine wpAny_bind (wpAny_load ho ?_)
       rw [hc,hd]
       show wpAny M A (if (["enumerate", "zip", "dict_itemiterator", "dict_reverseitemiterator", "odict_iterator", "itertools.zip_longest", "itertools.pairwise"].contains n && vs[0]? == some (rawInt _)) = true then _ else _) Q E s
       rw [if_neg (by intro h; rw [hn,Bool.false_and] at h; cases h)]
       exact wpAny_pure hQ))
def Itl (K : PySem.W.Frag) (a : Addr) : It :=
 ⟨fun i H=>∃ xs x,SqL K H a xs /\ xs[i]? = some x,fun i H x H' => H' = H /\ ∀ xs,SqL K H a xs -> xs[i]? = some x,fun i H=>∃ xs,SqL K H a xs /\ xs.length <= i⟩
def Itt (K : PySem.W.Frag) (a : Addr) : It :=
 ⟨fun i H=>∃ xs x,SqT K H a xs /\ xs[i]? = some x,fun i H x H' => H' = H /\ ∀ xs,SqT K H a xs -> xs[i]? = some x,fun i H=>∃ xs,SqT K H a xs /\ xs.length <= i⟩
def Itr (lo : Int) (n : Nat) : It:=⟨fun i _=>i < n,fun i H x H' => H' = H /\ x = .int (lo + i),fun i _=>n <= i⟩
theorem zgw {P : Program} {w : World} {K : PySem.W.Frag} {tg : Expr} (a it : Addr) : Turn P w K tg (Itl K a) [it] it (fun i h=>h.IsListIter it a i) where
 mem:=by simp
 obj:=fun i h st b hb=>by
  have e : b = it:=by simpa using hb
  subst e
  obtain ⟨o,e,c,d⟩:=st
  exact ⟨o,e,fun v z=>by rw [d] at z; cases z⟩
 keep:=fun i h h' st k=>st.at fun o e=>k it (by simp) o e
 item:=by
  intro X hP hw hK hc i pins s σ H E I hf st hg
  subst hP hw hK
  obtain ⟨xs,x,hq,hx⟩:=hg
  obtain ⟨its,rv,p,hz⟩:=I.list hq
  obtain ⟨u,hu,ru⟩:=rv.get hx
  obtain ⟨f0,f1,f2,f3,f4,f5⟩:=hf it (by simp)
  refine wpAny_pyNext_list_item st p.isList (x:=u) (by simpa using hu) fun h' st' sb=>?_
  have I1 : Inv X pins σ H { s with heap:=h' }:=I.turned (t' := s.toks) (fun b o hb e=>(sb.2 b hb).trans e) f0 f1 f3 f4 f5
  obtain ⟨o,e,c,d⟩:=id st'
  exact ⟨u,rfl,yex (s:={ s with heap:=h' }) e c d (by decide) ⟨x,H,I1,ru,⟨rfl,fun ys hy=>by rw [I.list_inj hy hq]; exact hx⟩,st',fun b hb=>(hf b hb).1⟩⟩
 done:=by
  intro X hP hw hK hc i pins s σ H E I hf st hg
  subst hP hw hK
  obtain ⟨xs,hq,hx⟩:=hg
  obtain ⟨its,rv,p,hz⟩:=I.list hq
  obtain ⟨f0,f1,f2,f3,f4,f5⟩:=hf it (by simp)
  have hl:=rv.length
  exact wpAny_pyNext_list_end (I.ok.hd hc) st p.isList (by simp; omega) fun h' eb=>⟨rfl,I.turned (t' := s.toks) (fun b o hb e=>eb b o hb e) f0 f1 f3 f4 f5⟩
 self:=fun _ _ _ _ _ st h=>wpAny_pyIter_listiter st h
theorem zfT {P : Program} {w : World} {K : PySem.W.Frag} {tg : Expr} (a it : Addr) : Turn P w K tg (Itt K a) [it] it (fun i h=>h.IsTupleIter it a i) where
 mem:=by simp
 obj:=fun i h st b hb=>by
  have e : b = it:=by simpa using hb
  subst e
  obtain ⟨o,e,c,d⟩:=st
  exact ⟨o,e,fun v z=>by rw [d] at z; cases z⟩
 keep:=fun i h h' st k=>st.at fun o e=>k it (by simp) o e
 item:=by
  intro X hP hw hK hc i pins s σ H E I hf st hg
  subst hP hw hK
  obtain ⟨xs,x,hq,hx⟩:=hg
  obtain ⟨its,rv,p,hz⟩:=I.tuple hq
  obtain ⟨u,hu,ru⟩:=rv.get hx
  obtain ⟨f0,f1,f2,f3,f4,f5⟩:=hf it (by simp)
  refine wpAny_pyNext_tuple_item st (show s.heap.IsTuple a its.toArray from p) (x:=u) (by simpa using hu) fun h' st' sb=>?_
  have I1 : Inv X pins σ H { s with heap:=h' }:=I.turned (t' := s.toks) (fun b o hb e=>(sb.2 b hb).trans e) f0 f1 f3 f4 f5
  obtain ⟨o,e,c,d⟩:=id st'
  exact ⟨u,rfl,yex (s:={ s with heap:=h' }) e c d (by decide) ⟨x,H,I1,ru,⟨rfl,fun ys hy=>by rw [I.tuple_inj hy hq]; exact hx⟩,st',fun b hb=>(hf b hb).1⟩⟩
 done:=by
  intro X hP hw hK hc i pins s σ H E I hf st hg
  subst hP hw hK
  obtain ⟨xs,hq,hx⟩:=hg
  obtain ⟨its,rv,p,hz⟩:=I.tuple hq
  obtain ⟨f0,f1,f2,f3,f4,f5⟩:=hf it (by simp)
  have hl:=rv.length
  exact wpAny_pyNext_tuple_end (I.ok.hd hc) st (show s.heap.IsTuple a its.toArray from p) (by simp; omega) fun h' eb=>⟨rfl,I.turned (t' := s.toks) (fun b o hb e=>eb b o hb e) f0 f1 f3 f4 f5⟩
 self:=fun _ _ _ _ _ st h=>wpAny_pyIter_tupleiter st h
theorem zfU {P : Program} {w : World} {K : PySem.W.Frag} {tg : Expr} (it : Addr) (lo : Int) (n : Nat) : Turn P w K tg (Itr lo n) [it] it (fun i h=>IsRangeIter h it (lo + (i : Nat) * 1) ((n : Int) - (i : Nat)) 1) where
 mem:=by simp
 obj:=fun i h st b hb=>by
  have e : b = it:=by simpa using hb
  subst e
  exact ⟨_,st,fun v z=>by
   have z' : Data.fields _ = Data.cell v:=z
   cases z'⟩
 keep:=fun i h h' st k=>k it (by simp) _ st
 item:=by
  intro X hP hw hK hc i pins s σ H E I hf st hg
  subst hP hw hK
  obtain ⟨f0,f1,f2,f3,f4,f5⟩:=hf it (by simp)
  have W:=Walks.range (prog:=X.prog) (w:=X.w) (I.ok.hd hc) it lo 1 n
  refine W.item i s _ _ hg st fun v h' tk hv st' kk=>?_
  obtain ⟨t,rfl⟩:=hv
  have I1 : Inv X pins σ H { s with heap:=h',toks:=tk }:=I.turned (fun b o hb e=>kk b o (by simpa using hb) e) f0 f1 f3 f4 f5
  refine ⟨_,rfl,yex (s:={ s with heap:=h',toks:=tk }) (n := "range_iterator") st' rfl rfl (by decide) ⟨.int (lo + i),H,I1,⟨t,?_⟩,⟨rfl,rfl⟩,st',fun b hb=>(hf b hb).1⟩⟩
  rw [Int.mul_one]
 done:=by
  intro X hP hw hK hc i pins s σ H E I hf st hg
  subst hP hw hK
  obtain ⟨f0,f1,f2,f3,f4,f5⟩:=hf it (by simp)
  exact wpAny_pyNext_range_end (I.ok.hd hc) st (by have : n <= i:=hg; omega) fun h' eb=>⟨rfl,I.turned (t' := s.toks) (fun b o hb e=>eb b o hb e) f0 f1 f3 f4 f5⟩
 self:=fun _ _ _ _ _ st h=>wpAny_pyIter_rangeiter st h
end L2
namespace L2
open PySem PySem.Spec PyProof.Rows
section
variable {X : Cx} {tg : Expr}
def yfL (K : PySem.W.Frag) (tl : TE) : TI:=fun σ H R=>tl σ H fun x H1=>∃ a,x = .ref a /\ (∃ xs,SqL K H1 a xs) /\ R (Itl K a) H1
def iTup (K : PySem.W.Frag) (tl : TE) : TI:=fun σ H R=>tl σ H fun x H1=>∃ a,x = .ref a /\ (∃ xs,SqT K H1 a xs) /\ R (Itt K a) H1
theorem zfe {l : Expr} {tl : TE} (hl : PE X l tl) : PI X tg l (yfL X.K tl):=by
 intro pins s σ H R I h
 refine thn (hl pins s σ H _ I h) fun v s1 ⟨x,H1,I1,r1,q1⟩=>?_
 obtain ⟨a,e,⟨xs,hq⟩,q⟩:=q1
 subst e
 cases r1
 obtain ⟨its,rv,p,hz⟩:=I1.list hq
 refine wpAny_pyIter_list p.isList ?_
 refine ⟨s1.heap.objs.size,[s1.heap.objs.size],_,_,H1,rfl,I1.kept (t' := s1.toks) fun b o e=>Heap.get?_push_of_some _ e,zgw a _,⟨_,Heap.get?_push_size _ rfl,rfl,rfl⟩,fun b hb=>?_,q⟩
 have e : b = s1.heap.objs.size:=by simpa using hb
 subst e
 exact I1.fpOk (Nat.le_refl _) (I1.hok.fresh (Nat.le_refl _))
theorem yfg {l : Expr} {tl : TE} (hl : PE X l tl) : PI X tg l (iTup X.K tl):=by
 intro pins s σ H R I h
 refine thn (hl pins s σ H _ I h) fun v s1 ⟨x,H1,I1,r1,q1⟩=>?_
 obtain ⟨a,e,⟨xs,hq⟩,q⟩:=q1
 subst e
 cases r1
 obtain ⟨its,rv,p,hz⟩:=I1.tuple hq
 refine wpAny_pyIter_tuple (show s1.heap.IsTuple a its.toArray from p) ?_
 refine ⟨s1.heap.objs.size,[s1.heap.objs.size],_,_,H1,rfl,I1.kept (t' := s1.toks) fun b o e=>Heap.get?_push_of_some _ e,zfT a _,⟨_,Heap.get?_push_size _ rfl,rfl,rfl⟩,fun b hb=>?_,q⟩
 have e : b = s1.heap.objs.size:=by simpa using hb
 subst e
 exact I1.fpOk (Nat.le_refl _) (I1.hok.fresh (Nat.le_refl _))
theorem zhw {pins : List (Addr × Obj)} {σ : St} {H : Hp} {s : Shared} {R : It -> Hp -> Prop} {E : Value -> Shared -> Prop} {lo hi : Int} {t u v : Tok} {tk : Nat} (I : Inv X pins σ H s) (h1 : -(2 ^ 62) <= lo) (h2 : lo < 2 ^ 62) (h3 : -(2 ^ 62) <= hi) (h4 : hi < 2 ^ 62)
  (q : R (Itr lo (hi - lo).toNat) H) : wpAny (model X.prog X.w) X.A (pyIter (.ref s.heap.objs.size)) (PIE X pins σ tg R) E { s with heap:=s.heap.push { cls:=.type "range",data:=.fields #[.int lo t,.int hi u,.int 1 v] },toks:=tk }:=by
 refine wpAny_pyIter_range (IsRange.new ..) (small_one h1 h2 h3 h4) ?_
 have I1 : Inv X pins σ H { s with heap:=s.heap.push { cls:=.type "range",data:=.fields #[.int lo t,.int hi u,.int 1 v] },toks:=tk }:=I.kept fun b o e=>Heap.get?_push_of_some _ e
 refine ⟨(s.heap.push { cls:=.type "range",data:=.fields #[.int lo t,.int hi u,.int 1 v] }).objs.size,[(s.heap.push { cls:=.type "range",data:=.fields #[.int lo t,.int hi u,.int 1 v] }).objs.size],_,_,H,rfl,
  I1.kept (t' := tk) fun b o e=>Heap.get?_push_of_some _ e,zfU _ lo (hi - lo).toNat,?_,fun b hb=>?_,q⟩
 ·have e1 : lo + ((0 : Nat) : Int) * 1 = lo:=by simp
  have e2 : (((hi - lo).toNat : Nat) : Int) - ((0 : Nat) : Int) = Builtin.Range.rangeSize lo hi 1:=by rw [rangeSize_one]; split<;>omega
  show IsRangeIter _ _ (lo + ((0 : Nat) : Int) * 1) ((((hi - lo).toNat : Nat) : Int) - ((0 : Nat) : Int)) 1
  rw [e1,e2]
  exact Heap.get?_push_size _ rfl
 ·have e : b = (s.heap.push { cls:=.type "range",data:=.fields #[.int lo t,.int hi u,.int 1 v] }).objs.size:=by simpa using hb
  subst e
  exact I1.fpOk (Nat.le_refl _) (I1.hok.fresh (Nat.le_refl _))
def yhq (ta : TA) : TI:=fun σ H R=>ta σ H fun vs H1=>∃ j : Int,vs = [.int j] /\ -(2 ^ 62) <= j /\ j < 2 ^ 62 /\ R (Itr 0 j.toNat) H1
theorem zgx {a : Expr} {ta : TA} {p pos : Pos} (hg : Gl X "range") (hm : X.mg "range" = none) (ha : PA X [a] ta) (hs : starEach [a] X.env = [(false,eval a X.env)]:=by rfl) : PI X tg (.Call (.Name "range" p) [a] [] pos) (yhq ta):=by
 intro pins s σ H R I h
 refine Call_ (yck I hg hm boot_range (PyProof.Rows.callWith_type1 (thn (ha pos pins s σ H _ I h) fun us s1 ⟨vs,H1,I1,r1,q1⟩=>?_) hs rfl))
 obtain ⟨j,e,q1,q2,q⟩:=q1
 subst e
 cases r1 with
 | cons r rr =>
  cases rr
  obtain ⟨t,rfl⟩:=r
  exact call_range_1 (zhw I1 (by omega) (by omega) q1 q2 (by simpa using q))
def tFor (wi : TI) (g : TG) (tb : TS) : TS:=fun D σ H=>wi σ H fun J H1=>∃ W : Nat -> Nat -> St -> Hp -> Prop,(∃ m,W 0 m σ H1) /\ ∀ i m σ H,W i m σ H ->
 (J.stop i H /\ D.nx σ H) \/ (J.go i H /\ ∃ N : St -> Hp -> Prop,(∀ σ' H',N σ' H' -> ∃ m',m' < m /\ W (i + 1) m' σ' H') /\ ∀ x H',J.yld i H x H' -> g x σ H' fun σ2 H2=>tb { D with nx:=N,ct:=N,bk:=D.nx } σ2 H2)
def ycl (fp : List Addr) (h : Heap) : List (Addr × Obj):=fp.filterMap fun b=>(h.get? b).map fun o=>(b,o)
theorem za5 {fp : List Addr} {h : Heap} {b : Addr} {o : Obj} (hb : b ∈ fp) (e : h.get? b = some o) : (b,o) ∈ ycl fp h:=List.mem_filterMap.mpr ⟨b,hb,by rw [e]; rfl⟩
theorem zgy {fp : List Addr} {h : Heap} {p : Addr × Obj} (hp : p ∈ ycl fp h) : p.1 ∈ fp /\ h.get? p.1 = some p.2:=by
 obtain ⟨b,hb,e⟩:=List.mem_filterMap.mp hp
 cases q : h.get? b with
 | none=>rw [q] at e; cases e
 | some o =>
  rw [q] at e
  have e' : (b,o) = p:=Option.some.inj e
  subst e'
  exact ⟨hb,q⟩
theorem Inv.pinned {pins : List (Addr × Obj)} {σ : St} {H : Hp} {s : Shared} {fp : List Addr} (I : Inv X pins σ H s) (hf : ∀ b ∈ fp,FpOk X pins H b) (ho : ∀ b ∈ fp,∃ o,s.heap.get? b = some o /\ ∀ v,o.data ≠ .cell v) : Inv X (pins++ycl fp s.heap) σ H s :=
 I.pins_of fun p hp=>(List.mem_append.mp hp).elim (fun z=>I.pin p (List.mem_append_right _ z)) fun z=>by
  obtain ⟨hb,e⟩:=zgy z
  obtain ⟨f0,f1,f2,_⟩:=hf p.1 hb
  obtain ⟨o,e',d⟩:=ho p.1 hb
  rw [e] at e'; cases e'
  exact ⟨e,f0,f1,f2,d⟩
theorem Inv.unpinned {pins pl : List (Addr × Obj)} {σ : St} {H : Hp} {s : Shared} (I : Inv X (pins++pl) σ H s) : Inv X pins σ H s:=I.pins_of fun p hp=>I.pin p (List.mem_append_right _ (List.mem_append_left _ hp))
theorem yfh {iter : Expr} {body : List Stmt} {wi : TI} {g : TG} {tb : TS} {pos : Pos} (hp : PassesOwn (model X.prog X.w) X.A X.env X.xe) (hc : X.calm = true) (hi : PI X tg iter wi) (hg : PG X tg g) (hb : PSs X body tb)
  (hs : ∀ x,foldedSetIterable iter X.env x = pure x:=by intro _; rfl) : PS X (.For tg iter body [] pos) (tFor wi g tb):=by
 intro pins s σ H D I h
 refine wpAny_For (thn (hi pins s σ H _ I h) fun v s1 h1=>thn h1 fun itv s2 h2=>?_) hs
 obtain ⟨it,fp,tn,J,H2,e,I2,T,st2,f2,W,⟨m0,w0⟩,turn⟩:=h2
 subst e
 have stat : ∀ {H' : Hp},(∀ b ∈ fp,H' b = none) -> ∀ b ∈ fp,FpOk X pins H' b:=fun hn b hb=>⟨hn b hb,(f2 b hb).2⟩
 refine codeAny_forLoop_any (fun n s' => ∃ i σ' H',Inv X pins σ' H' s' /\ tn i s'.heap /\ (∀ b ∈ fp,H' b = none) /\ W i n σ' H') ?_ m0 ⟨0,σ,H2,I2,st2,fun b hb=>(f2 b hb).1,w0⟩
 rintro n s3 ⟨i,σ3,H3,I3,st3,fr3,w3⟩
 rcases turn i n σ3 H3 w3 with ⟨stop,qn⟩ | ⟨go,N,hN,step⟩
 ·refine wpAny_passesOwn hp (thn (T.done X rfl rfl rfl hc i pins s3 σ3 H3 X.xe I3 (stat fr3) st3 stop) fun r s4 ⟨hr,I4⟩=>?_)
  subst hr
  exact wpAny_execs_nil ⟨σ3,H3,I4,qn⟩
 ·refine wpAny_passesOwn hp (thn (T.item X rfl rfl rfl hc i pins s3 σ3 H3 X.xe I3 (stat fr3) st3 go) fun r s4 ⟨u,hr,h4⟩=>?_)
  subst hr
  refine wpAny_passesOwn hp (thn h4 fun _ s5 ⟨x,H5,I5,r5,y5,st5,fr5⟩=>?_)
  have I5' := I5.pinned (stat fr5) (T.obj _ _ st5)
  refine wpAny_passesOwn hp (thn (hg _ s5 σ3 H5 x u _ I5' r5 (step x H5 y5)) fun _ s6 ⟨σ6,H6,I6,q6⟩=>?_)
  refine wpAny_passesOwn hp (thn (hb _ s6 σ6 H6 _ I6 q6) fun f s7 q7=>?_)
  have again : ∀ {σ7 : St} {H7 : Hp},Inv X (pins++ycl fp s5.heap) σ7 H7 s7 -> N σ7 H7 -> ∃ m,m < n /\ ∃ i σ' H',Inv X pins σ' H' s7 /\ tn i s7.heap /\ (∀ b ∈ fp,H' b = none) /\ W i m σ' H' := fun {σ7 H7} I7 n7=>by
   obtain ⟨m',hm,w7⟩:=hN σ7 H7 n7
   refine ⟨m',hm,i + 1,σ7,H7,I7.unpinned,T.keep _ _ _ st5 fun b hb o e=>(I7.pin (b,o) (List.mem_append_right _ (List.mem_append_right _ (za5 hb e)))).1,fun b hb=>?_,w7⟩
   obtain ⟨o,e,d⟩:=T.obj _ _ st5 b hb
   exact (I7.pin (b,o) (List.mem_append_right _ (List.mem_append_right _ (za5 hb e)))).2.1
  cases f with
  | next=>obtain ⟨σ7,H7,I7,n7⟩:=q7; exact again I7 n7
  | cont=>obtain ⟨σ7,H7,I7,n7⟩:=q7; exact again I7 n7
  | brk=>obtain ⟨σ7,H7,I7,q7⟩:=q7; exact ⟨σ7,H7,I7.unpinned,q7⟩
  | ret v=>obtain ⟨x7,σ7,H7,I7,r7,q7⟩:=q7; exact ⟨x7,σ7,H7,I7.unpinned,r7,q7⟩
end
end L2
namespace L2
open PySem PySem.Spec PyProof.Rows
abbrev R2:=V -> V -> Hp -> VK -> Prop
def OpR (X : Cx) (f : Value -> Value -> Sem Value) (r : R2) : Prop :=
 ∀ (pins : List (Addr × Obj)) (s : Shared) (σ : St) (H : Hp) (x y : V) (v u : Value) (Q : VK),Inv X pins σ H s -> RelV x v -> RelV y u -> r x y H Q ->
  wpAny (model X.prog X.w) X.A (f v u) (EP X pins σ Q) X.xe s
def UnR (X : Cx) (f : Value -> Sem Value) (r : V -> Hp -> VK -> Prop) : Prop :=
 ∀ (pins : List (Addr × Obj)) (s : Shared) (σ : St) (H : Hp) (x : V) (v : Value) (Q : VK),Inv X pins σ H s -> RelV x v -> r x H Q ->
  wpAny (model X.prog X.w) X.A (f v) (EP X pins σ Q) X.xe s
def CallR (X : Cx) (f : Value) (r : List V -> Hp -> VK -> Prop) : Prop :=
 ∀ (pins : List (Addr × Obj)) (s : Shared) (σ : St) (H : Hp) (xs : List V) (us : List Value) (Q : VK),Inv X pins σ H s -> Vals xs us -> r xs H Q ->
  wpAny (model X.prog X.w) X.A (call f us) (EP X pins σ Q) X.xe s
def TruR (X : Cx) (r : V -> Hp -> (Bool -> Hp -> Prop) -> Prop) : Prop :=
 ∀ (pins : List (Addr × Obj)) (s : Shared) (σ : St) (H : Hp) (x : V) (v : Value) (Q : Bool -> Hp -> Prop),Inv X pins σ H s -> RelV x v -> r x H Q ->
  wpAny (model X.prog X.w) X.A (truthy v) (TP X pins σ Q) X.xe s
def tOp (r : R2) (ta tb : TE) : TE:=fun σ H Q=>ta σ H fun x H1=>tb σ H1 fun y H2=>r x y H2 Q
def tUn (r : V -> Hp -> VK -> Prop) (ta : TE) : TE:=fun σ H Q=>ta σ H fun x H1=>r x H1 Q
def rI (C : Int -> Int -> Prop) (g : Int -> Int -> V) : R2:=fun x y H Q=>∃ i j,x = .int i /\ y = .int j /\ C i j /\ Q (g i j) H
def rI0 (g : Int -> Int -> V) : R2:=fun x y H Q=>∃ i j,x = .int i /\ y = .int j /\ Q (g i j) H
def rU (g : Int -> V) : V -> Hp -> VK -> Prop:=fun x H Q=>∃ i,x = .int i /\ Q (g i) H
section
variable {X : Cx} {a b c : Expr} {ta tb tc : TE} {pos : Pos}
theorem binT (ha : PE X a ta) (hb : PE X b tb) {pins : List (Addr × Obj)} {s : Shared} {σ : St} {H : Hp} {R : V -> V -> Hp -> Prop} (I : Inv X pins σ H s)
  (h : ta σ H fun x H1=>tb σ H1 fun y H2=>R x y H2) {Q : Value -> Shared -> Prop} {f : Value -> Value -> Sem Value}
  (hf : ∀ v u s2 x y H2,Inv X pins σ H2 s2 -> RelV x v -> RelV y u -> R x y H2 -> wpAny (model X.prog X.w) X.A (f v u) Q X.xe s2) :
  wpAny (model X.prog X.w) X.A (eval a X.env) (fun v s₁=>wpAny (model X.prog X.w) X.A (eval b X.env) (fun u s₂=>wpAny (model X.prog X.w) X.A (f v u) Q X.xe s₂) X.xe s₁) X.xe s:=by
 refine thn (ha pins s σ H _ I h) fun v s1 ⟨x,H1,I1,r1,q1⟩=>?_
 refine thn (hb pins s1 σ H1 _ I1 q1) fun u s2 ⟨y,H2,I2,r2,q2⟩=>?_
 exact hf v u s2 x y H2 I2 r1 r2 q2
theorem yhr {op : Operator} {r : R2} (ho : OpR X (binaryOp op) r) (ha : PE X a ta) (hb : PE X b tb) : PE X (.BinOp a op b pos) (tOp r ta tb):=by
 intro pins s σ H Q I h
 exact wpAny_BinOp (binT ha hb I h fun v u s2 x y H2 I2 rx ry q=>ho pins s2 σ H2 x y v u Q I2 rx ry q)
theorem yhs {op : UnaryOp} {r : V -> Hp -> VK -> Prop} (ho : UnR X (unaryOp op) r) (ha : PE X a ta) : PE X (.UnaryOp op a pos) (tUn r ta):=by
 intro pins s σ H Q I h
 exact UnaryOp_ (thn (ha pins s σ H _ I h) fun v s1 ⟨x,H1,I1,r1,q1⟩=>ho pins s1 σ H1 x v Q I1 r1 q1)
theorem opI {f : Value -> Value -> Sem Value} {C : Int -> Int -> Prop} {g : Int -> Int -> Int}
  (rule : ∀ (i j : Int) (t u : Tok) (s : Shared) (Q : Value -> Shared -> Prop) (E : Value -> Shared -> Prop),C i j -> Q (.int (g i j) s.toks) { s with toks:=s.toks + 1 } -> wpAny (model X.prog X.w) X.A (f (.int i t) (.int j u)) Q E s) :
  OpR X f (rI C fun i j=>.int (g i j)):=by
 intro pins s σ H x y v u Q I rx ry h
 obtain ⟨i,j,rfl,rfl,hc,q⟩:=h
 obtain ⟨t,rfl⟩:=rx
 obtain ⟨t',rfl⟩:=ry
 exact rule i j t t' s _ _ hc ⟨.int (g i j),H,I.tok _,⟨_,rfl⟩,q⟩
theorem opI0 {f : Value -> Value -> Sem Value} {g : Int -> Int -> Int}
  (rule : ∀ (i j : Int) (t u : Tok) (s : Shared) (Q : Value -> Shared -> Prop) (E : Value -> Shared -> Prop),Q (.int (g i j) s.toks) { s with toks:=s.toks + 1 } -> wpAny (model X.prog X.w) X.A (f (.int i t) (.int j u)) Q E s) :
  OpR X f (rI0 fun i j=>.int (g i j)):=by
 intro pins s σ H x y v u Q I rx ry h
 obtain ⟨i,j,rfl,rfl,q⟩:=h
 obtain ⟨t,rfl⟩:=rx
 obtain ⟨t',rfl⟩:=ry
 exact rule i j t t' s _ _ ⟨.int (g i j),H,I.tok _,⟨_,rfl⟩,q⟩
theorem opB0 {f : Value -> Value -> Sem Value} {g : Int -> Int -> Bool}
  (rule : ∀ (i j : Int) (t u : Tok) (s : Shared) (Q : Value -> Shared -> Prop) (E : Value -> Shared -> Prop),Q (.bool (g i j)) s -> wpAny (model X.prog X.w) X.A (f (.int i t) (.int j u)) Q E s) :
  OpR X f (rI0 fun i j=>.bl (g i j)):=by
 intro pins s σ H x y v u Q I rx ry h
 obtain ⟨i,j,rfl,rfl,q⟩:=h
 obtain ⟨t,rfl⟩:=rx
 obtain ⟨t',rfl⟩:=ry
 exact rule i j t t' s _ _ ⟨.bl (g i j),H,I,rfl,q⟩
def CPow (i j : Int) : Prop:=0 <= j /\ j <= 1000000 /\ i.natAbs < 2 ^ 64
def CMul (i j : Int) : Prop:=(-(2 ^ 64) < i /\ i < 2 ^ 64) \/ (-(2 ^ 64) < j /\ j < 2 ^ 64)
theorem CMul.ok {i j : Int} (h : CMul i j) : IntMulOk i j:=by
 rcases h with ⟨h1,h2⟩ | ⟨h1,h2⟩
 ·exact .of_left (intBits_le_64 h1 h2)
 ·exact .of_right (intBits_le_64 h1 h2)
theorem op_add : OpR X (binaryOp .Add) (rI0 fun i j=>.int (i + j)):=opI0 fun _ _ _ _ _ _ _ q=>add_int q
theorem ygi : OpR X (binaryOp .Sub) (rI0 fun i j=>.int (i - j)):=opI0 fun _ _ _ _ _ _ _ q=>sub_int q
theorem ygj : OpR X (binaryOp .Mod) (rI (fun _ j=>0 < j) fun i j=>.int (i % j)):=opI fun i j _ _ _ _ _ hc q=>by
 have h1 : (0 : Int) < j:=hc
 exact mod_int' (by omega) (by rw [Int.fmod_eq_emod_of_nonneg i (by omega)]; exact q)
theorem ygk : OpR X (binaryOp .Pow) (rI CPow fun i j=>.int (i ^ j.toNat)):=opI fun _ _ _ _ _ _ _ hc q=>pow_int_small hc.1 hc.2.1 hc.2.2 q
theorem unI {f : Value -> Sem Value} {g : Int -> Int}
  (rule : ∀ (i : Int) (t : Tok) (s : Shared) (Q : Value -> Shared -> Prop) (E : Value -> Shared -> Prop),Q (.int (g i) s.toks) { s with toks:=s.toks + 1 } -> wpAny (model X.prog X.w) X.A (f (.int i t)) Q E s) :
  UnR X f (rU fun i=>.int (g i)):=by
 intro pins s σ H x v Q I rx h
 obtain ⟨i,rfl,q⟩:=h
 obtain ⟨t,rfl⟩:=rx
 exact rule i t s _ _ ⟨.int (g i),H,I.tok _,⟨_,rfl⟩,q⟩
theorem ygl : UnR X (unaryOp .USub) (rU fun i=>.int (-i)):=unI fun _ _ _ _ _ q=>neg_int q
end
def scal : V -> V -> Bool
 | .non,.non=>true | .non,.int _=>true | .int _,.non=>true | .non,.bl _=>true | .bl _,.non=>true | .non,.str _=>true | .str _,.non=>true
 | .int _,.int _=>true | .bl _,.bl _=>true | .str _,.str _=>true | .byt _,.byt _=>true
 | .int _,.str _=>true | .str _,.int _=>true | .bl _,.str _=>true | .str _,.bl _=>true
 | _,_=>false
def rEq : R2:=fun x y H Q=>scal x y = true /\ Q (.bl (decide (x = y))) H
def rNe : R2:=fun x y H Q=>scal x y = true /\ Q (.bl (!decide (x = y))) H
theorem zff {i j : Int} : decide (V.int i = V.int j) = (i == j):=by
 rw [Bool.eq_iff_iff]
 simp
theorem yfi {i j : Bool} : decide (V.bl i = V.bl j) = (i == j):=by
 rw [Bool.eq_iff_iff]
 simp
theorem zfg {i j : Str} : decide (V.str i = V.str j) = (i == j):=by
 rw [Bool.eq_iff_iff]
 simp
theorem zfh {i j : Array UInt8} : decide (V.byt i = V.byt j) = (i.toList == j.toList):=by
 rw [Bool.eq_iff_iff]
 cases i
 cases j
 simp
section
variable {X : Cx} {a b c : Expr} {ta tb tc : TE} {pos : Pos}
theorem yaJ {pins : List (Addr × Obj)} {σ : St} {H : Hp} {s : Shared} {Q : VK} {k k' : Bool} (I : Inv X pins σ H s) (q : Q (.bl k) H) (e : k = k') : EP X pins σ Q (.bool k') s:=by
 subst e
 exact ⟨.bl k,H,I,rfl,q⟩
theorem op_eq : OpR X (compareOp .Eq) rEq:=by
 intro pins s σ H x y v u Q I rx ry h
 obtain ⟨hs,q⟩:=h
 cases x with
 | non =>
  cases rx
  cases y with
  | non=>cases ry; exact PySem.EqNone.eq_none_none (yaJ I q (by simp))
  | bl j=>cases ry; exact PySem.EqNone.eq_none_bool (yaJ I q (by simp))
  | int j=>obtain ⟨t',rfl⟩:=ry; exact PySem.EqNone.eq_none_int (yaJ I q (by simp))
  | str j=>obtain ⟨t',rfl⟩:=ry; exact PySem.EqNone.eq_none_str (yaJ I q (by simp))
  | _=>exact absurd (show false = true from hs) Bool.false_ne_true
 | bl i =>
  cases rx
  cases y with
  | non=>cases ry; exact PySem.EqNone.eq_bool_none (yaJ I q (by simp))
  | bl j=>cases ry; exact eq_bool (yaJ I q yfi)
  | str j=>obtain ⟨t',rfl⟩:=ry; exact PySem.EqMixed.eq_bool_str (yaJ I q (by simp))
  | _=>exact absurd (show false = true from hs) Bool.false_ne_true
 | int i =>
  obtain ⟨t,rfl⟩:=rx
  cases y with
  | non=>cases ry; exact PySem.EqNone.eq_int_none (yaJ I q (by simp))
  | int j=>obtain ⟨t',rfl⟩:=ry; exact eq_int (yaJ I q zff)
  | str j=>obtain ⟨t',rfl⟩:=ry; exact PySem.EqMixed.eq_int_str (yaJ I q (by simp))
  | _=>exact absurd (show false = true from hs) Bool.false_ne_true
 | str i =>
  obtain ⟨t,rfl⟩:=rx
  cases y with
  | non=>cases ry; exact PySem.EqNone.eq_str_none (yaJ I q (by simp))
  | bl j=>cases ry; exact PySem.EqMixed.eq_str_bool (yaJ I q (by simp))
  | int j=>obtain ⟨t',rfl⟩:=ry; exact PySem.EqMixed.eq_str_int (yaJ I q (by simp))
  | str j=>obtain ⟨t',rfl⟩:=ry; exact eq_str (yaJ I q zfg)
  | _=>exact absurd (show false = true from hs) Bool.false_ne_true
 | byt i =>
  obtain ⟨t,rfl⟩:=rx
  cases y with
  | byt j=>obtain ⟨t',rfl⟩:=ry; exact PySem.W.eq_bytes (yaJ I q zfh)
  | _=>exact absurd (show false = true from hs) Bool.false_ne_true
 | _=>cases y<;>exact absurd (show false = true from hs) Bool.false_ne_true
theorem op_ne : OpR X (compareOp .NotEq) rNe:=by
 intro pins s σ H x y v u Q I rx ry h
 obtain ⟨hs,q⟩:=h
 cases x with
 | non =>
  cases rx
  cases y with
  | non=>cases ry; exact PySem.EqNone.ne_none_none (yaJ I q (by simp))
  | bl j=>cases ry; exact PySem.EqNone.ne_none_bool (yaJ I q (by simp))
  | int j=>obtain ⟨t',rfl⟩:=ry; exact PySem.EqNone.ne_none_int (yaJ I q (by simp))
  | str j=>obtain ⟨t',rfl⟩:=ry; exact PySem.EqNone.ne_none_str (yaJ I q (by simp))
  | _=>exact absurd (show false = true from hs) Bool.false_ne_true
 | bl i =>
  cases rx
  cases y with
  | non=>cases ry; exact PySem.EqNone.ne_bool_none (yaJ I q (by simp))
  | bl j=>cases ry; exact ne_bool (yaJ I q (congrArg not yfi))
  | str j=>obtain ⟨t',rfl⟩:=ry; exact PySem.EqMixed.ne_bool_str (yaJ I q (by simp))
  | _=>exact absurd (show false = true from hs) Bool.false_ne_true
 | int i =>
  obtain ⟨t,rfl⟩:=rx
  cases y with
  | non=>cases ry; exact PySem.EqNone.ne_int_none (yaJ I q (by simp))
  | int j=>obtain ⟨t',rfl⟩:=ry; exact ne_int (yaJ I q (congrArg not zff))
  | str j=>obtain ⟨t',rfl⟩:=ry; exact PySem.EqMixed.ne_int_str (yaJ I q (by simp))
  | _=>exact absurd (show false = true from hs) Bool.false_ne_true
 | str i =>
  obtain ⟨t,rfl⟩:=rx
  cases y with
  | non=>cases ry; exact PySem.EqNone.ne_str_none (yaJ I q (by simp))
  | bl j=>cases ry; exact PySem.EqMixed.ne_str_bool (yaJ I q (by simp))
  | int j=>obtain ⟨t',rfl⟩:=ry; exact PySem.EqMixed.ne_str_int (yaJ I q (by simp))
  | str j=>obtain ⟨t',rfl⟩:=ry; exact ne_str (yaJ I q (congrArg not zfg))
  | _=>exact absurd (show false = true from hs) Bool.false_ne_true
 | byt i =>
  obtain ⟨t,rfl⟩:=rx
  cases y with
  | byt j=>obtain ⟨t',rfl⟩:=ry; exact PySem.W.ne_bytes (yaJ I q (congrArg not zfh))
  | _=>exact absurd (show false = true from hs) Bool.false_ne_true
 | _=>cases y<;>exact absurd (show false = true from hs) Bool.false_ne_true
theorem op_lt : OpR X (compareOp .Lt) (rI0 fun i j=>.bl (decide (i < j))):=opB0 fun _ _ _ _ _ _ _ q=>lt_int q
theorem op_le : OpR X (compareOp .LtE) (rI0 fun i j=>.bl (decide (i <= j))):=opB0 fun _ _ _ _ _ _ _ q=>le_int q
theorem yht : OpR X (compareOp .Gt) (rI0 fun i j=>.bl (decide (j < i))):=opB0 fun _ _ _ _ _ _ _ q=>gt_int q
theorem yhu : OpR X (compareOp .GtE) (rI0 fun i j=>.bl (decide (j <= i))):=opB0 fun _ _ _ _ _ _ _ q=>ge_int q
theorem zgz : OpR X (compareOp .Lt) (fun x y H Q=>∃ i j,x = .str i /\ y = .str j /\ Q (.bl (decide (i.cps.toList < j.cps.toList))) H):=by
 intro pins s σ H x y v u Q I rx ry h
 obtain ⟨i,j,rfl,rfl,q⟩:=h
 obtain ⟨t,rfl⟩:=rx
 obtain ⟨t',rfl⟩:=ry
 exact lt_str (yaJ I q rfl)
theorem zgA : OpR X (compareOp .In) (fun x y H Q=>∃ i j,x = .str i /\ y = .str j /\ Q (.bl (!(Builtin.Str.occurrences j i 0 j.length 1).isEmpty)) H):=by
 intro pins s σ H x y v u Q I rx ry h
 obtain ⟨i,j,rfl,rfl,q⟩:=h
 obtain ⟨t,rfl⟩:=rx
 obtain ⟨t',rfl⟩:=ry
 exact in_str (yaJ I q rfl)
theorem OpR.or {f : Value -> Value -> Sem Value} {r r' : R2} (h : OpR X f r) (h' : OpR X f r') : OpR X f (fun x y H Q=>r x y H Q \/ r' x y H Q):=by
 intro pins s σ H x y v u Q I rx ry q
 rcases q with q | q
 ·exact h pins s σ H x y v u Q I rx ry q
 ·exact h' pins s σ H x y v u Q I rx ry q
theorem yal (b : Expr) {op : CmpOp} (h : op ≠ .In:=by decide) (h2 : op ≠ .NotIn:=by decide) : behindInMarks op b = false:=by
 have e1 : (op == CmpOp.In) = false:=by cases op<;>first | rfl | exact absurd rfl h
 have e2 : (op == CmpOp.NotIn) = false:=by cases op<;>first | rfl | exact absurd rfl h2
 cases b<;>simp [behindInMarks,e1,e2]
theorem ziA {op : CmpOp} {r : R2} (ho : OpR X (compareOp op) r) (ha : PE X a ta) (hb : PE X b tb) (hm : behindInMarks op b = false) : PE X (.Compare a [op] [b] pos) (tOp r ta tb):=by
 intro pins s σ H Q I h
 exact wpAny_Compare1 (binT ha hb I h fun v u s2 x y H2 I2 rx ry q=>ho pins s2 σ H2 x y v u Q I2 rx ry q) hm
def ye2 (t : TE) : TT:=fun σ H Q=>t σ H fun x H' => ∃ k,x = .bl k /\ Q k H'
theorem ziB {op : CmpOp} {r : R2} (ho : OpR X (compareOp op) r) (ha : PE X a ta) (hb : PE X b tb) (hm : behindInMarks op b = false) : PT X (.Compare a [op] [b] pos) (ye2 (tOp r ta tb)):=by
 intro pins s σ H Q I h
 refine wpAny_isTrue_Compare1 (thn (ha pins s σ H _ I h) fun v s1 ⟨x,H1,I1,r1,q1⟩=>thn (hb pins s1 σ H1 _ I1 q1) fun u s2 ⟨y,H2,I2,r2,q2⟩ =>
  thn (ho pins s2 σ H2 x y v u _ I2 r1 r2 q2) fun c s3 ⟨z,H3,I3,r3,k,e,q3⟩=>?_) hm
 subst e
 cases r3
 exact wpAny_truthy_bool ⟨H3,I3,q3⟩
def yeL (r r' : R2) (ta tb tc : TE) : TE:=fun σ H Q=>ta σ H fun x H1=>tb σ H1 fun y H2=>r x y H2 fun z H3=>∃ k,z = .bl k /\
 (if k = true then tc σ H3 fun w' H4=>r' y w' H4 Q else Q (.bl false) H3)
theorem zhx {op op' : CmpOp} {r r' : R2} (ho : OpR X (compareOp op) r) (ho' : OpR X (compareOp op') r') (ha : PE X a ta) (hb : PE X b tb) (hc : PE X c tc)
  (hm : lastMarks [op,op'] [b,c] = false:=by with_unfolding_all rfl) : PE X (.Compare a [op,op'] [b,c] pos) (yeL r r' ta tb tc):=by
 intro pins s σ H Q I h
 refine Compare_chain (thn (ha pins s σ H _ I h) fun v s1 ⟨x,H1,I1,r1,q1⟩=>chain_link (thn (hb pins s1 σ H1 _ I1 q1) fun u s2 ⟨y,H2,I2,r2,q2⟩ =>
  thn (ho pins s2 σ H2 x y v u _ I2 r1 r2 q2) fun d s3 ⟨z,H3,I3,r3,k,e,q3⟩=>?_)) hm
 subst e
 cases r3
 refine wpAny_truthy_bool ?_
 cases k with
 | false=>exact ite_ff ⟨.bl false,H3,I3,rfl,q3⟩
 | true=>exact ite_tt (chain_last (thn (hc pins s3 σ H3 _ I3 q3) fun w' s4 ⟨z',H4,I4,r4,q4⟩=>ho' pins s4 σ H4 y z' u w' Q I4 r2 r4 q4))
theorem zhy {op op' : CmpOp} {r r' : R2} (ho : OpR X (compareOp op) r) (ho' : OpR X (compareOp op') r') (ha : PE X a ta) (hb : PE X b tb) (hc : PE X c tc)
  (hm : lastMarks [op,op'] [b,c] = false:=by with_unfolding_all rfl) : PT X (.Compare a [op,op'] [b,c] pos) (ye2 (yeL r r' ta tb tc)):=by
 intro pins s σ H Q I h
 refine isTrue_chain (thn (ha pins s σ H _ I h) fun v s1 ⟨x,H1,I1,r1,q1⟩=>test_link (thn (hb pins s1 σ H1 _ I1 q1) fun u s2 ⟨y,H2,I2,r2,q2⟩ =>
  thn (ho pins s2 σ H2 x y v u _ I2 r1 r2 q2) fun d s3 ⟨z,H3,I3,r3,k,e,q3⟩=>?_)) hm
 subst e
 cases r3
 refine wpAny_truthy_bool ?_
 cases k with
 | false =>
  obtain ⟨k',e',q'⟩:=q3
  cases e'
  exact ite_ff ⟨H3,I3,q'⟩
 | true =>
  refine ite_tt (test_last (thn (hc pins s3 σ H3 _ I3 q3) fun w' s4 ⟨z',H4,I4,r4,q4⟩=>thn (ho' pins s4 σ H4 y z' u w' _ I4 r2 r4 q4) fun d' s5 ⟨z2,H5,I5,r5,k2,e2,q5⟩=>?_))
  subst e2
  cases r5
  exact wpAny_truthy_bool ⟨H5,I5,q5⟩
def TruV (K : PySem.W.Frag) (x : V) (H : Hp) (k : Bool) : Prop :=
 match x with
 | .non=>k = false
 | .bl b=>k = b
 | .int i=>k = (i != 0)
 | .str y=>y.length <= sizeLine /\ k = ((y.length : Int) != 0)
 | .byt y=>y.size <= sizeLine /\ k = ((y.size : Int) != 0)
 | .ref p=>(∃ xs,SqL K H p xs /\ k = !xs.isEmpty) \/ (∃ xs,SqT K H p xs /\ k = !xs.isEmpty) \/ ∃ kvs,H p = some (.dK kvs) /\ k = !kvs.isEmpty
 | _=>False
theorem zfV {κ : Type} {kvs : List (κ × V)} {vs : List (κ × Value)} (r : KV kvs vs) : (!vs.isEmpty) = !kvs.isEmpty:=by
 cases r<;>rfl
theorem zcO {xs : List V} {its : List Value} (r : Vals xs its) : (!its.toArray.isEmpty) = !xs.isEmpty:=by
 cases r<;>simp
theorem ycW : (sizeLine : Nat) < 2 ^ 63:=by rw [sizeLine_eq]; decide
theorem ygm : TruR X (fun x H Q=>∃ k,TruV X.K x H k /\ Q k H):=by
 intro pins s σ H x v Q I rx h
 obtain ⟨k,e,q⟩:=h
 have hl:=ycW
 have hs : sizeLine = 16777216:=sizeLine_eq
 cases x with
 | non =>
  cases rx
  have e' : k = false:=e
  subst e'
  exact truthy_none ⟨H,I,q⟩
 | bl b =>
  cases rx
  have e' : k = b:=e
  subst e'
  exact wpAny_truthy_bool ⟨H,I,q⟩
 | int i =>
  obtain ⟨t,rfl⟩:=rx
  have e' : k = (i != 0):=e
  subst e'
  exact PySem.P.truthy_int ⟨H,I,q⟩
 | str y =>
  obtain ⟨t,rfl⟩:=rx
  obtain ⟨hy,e'⟩ : y.length <= sizeLine /\ k = ((y.length : Int) != 0):=e
  subst e'
  exact PySem.P.truthy_str (by omega) ⟨H,I.tok _,q⟩
 | byt y =>
  obtain ⟨t,rfl⟩:=rx
  obtain ⟨hy,e'⟩ : y.size <= sizeLine /\ k = ((y.size : Int) != 0):=e
  subst e'
  exact PySem.W.truthy_bytes (by omega) ⟨H,I.tok _,q⟩
 | ref p =>
  cases rx
  have e' : (∃ xs,SqL X.K H p xs /\ k = !xs.isEmpty) \/ (∃ xs,SqT X.K H p xs /\ k = !xs.isEmpty) \/ ∃ kvs,H p = some (.dK kvs) /\ k = !kvs.isEmpty:=e
  rcases e' with ⟨xs,hx,e'⟩ | ⟨xs,hx,e'⟩ | ⟨kvs,hx,e'⟩
  ·subst e'
   obtain ⟨its,r,pl,hz⟩:=I.list hx
   have hlen:=r.length
   exact wpAny_truthy_list pl.isList (by simp only [List.size_toArray]; omega) ⟨H,I.tok _,by rw [zcO r]; exact q⟩
  ·subst e'
   obtain ⟨its,r,pl,hz⟩:=I.tuple hx
   have hlen:=r.length
   exact truthy_tuple pl (by simp only [List.size_toArray]; omega) ⟨H,I.tok _,by rw [zcO r]; exact q⟩
  ·subst e'
   obtain ⟨hz,hS,vs,r,m⟩ : kvs.length <= sizeLine /\ (p == sysModules) = false /\ ∃ vs,KV kvs vs /\ s.heap.DictOf (ybg X.prog X.w) p vs:=I.hok p _ hx
   have hlen : kvs.length = vs.length:=Paired.length r
   exact wpAny_truthy_dict hS m (by omega) ⟨H,I.tok _,by rw [zfV r]; exact q⟩
 | _=>exact (show False from e).elim
theorem zhz (ha : PE X a ta) (he : ∀ whole,isTrue a X.env whole = (do let v <- whole; standAt a.pos; holding [v] (truthy v))) :
  PT X a (fun σ H Q=>ta σ H fun x H' => ∃ k,TruV X.K x H' k /\ Q k H'):=by
 intro pins s σ H Q I h
 exact isTrue_plain (thn (ha pins s σ H _ I h) fun v s1 ⟨x,H1,I1,r1,q1⟩=>ygm pins s1 σ H1 x v Q I1 r1 q1) (he _)
theorem zfW : OpR X (binaryOp .Add) (fun x y H Q=>∃ i j,x = .str i /\ y = .str j /\ i.length + j.length <= sizeLine /\ Q (.str (i++j)) H):=by
 intro pins s σ H x y v u Q I rx ry h
 obtain ⟨i,j,rfl,rfl,hz,q⟩:=h
 obtain ⟨t,rfl⟩:=rx
 obtain ⟨t',rfl⟩:=ry
 exact add_str (fun t' tk=>⟨.str (i++j),H,I.tok _,⟨_,rfl⟩,q⟩) hz
theorem yb3 {x : V} {us : List Value} (r : Vals [x] us) : ∃ u,us = [u] /\ RelV x u:=by
 cases r with
 | cons r1 r2=>cases r2; exact ⟨_,rfl,r1⟩
theorem ye3 {x y : V} {us : List Value} (r : Vals [x,y] us) : ∃ u w',us = [u,w'] /\ RelV x u /\ RelV y w' := by
 cases r with
 | cons r1 r2 =>
  cases r2 with
  | cons r3 r4=>cases r4; exact ⟨_,_,rfl,r1,r3⟩
theorem zhA : CallR X (.builtin "abs") (fun xs H Q=>∃ i,xs = [.int i] /\ Q (.int (if i < 0 then -i else i)) H):=by
 intro pins s σ H xs us Q I r h
 obtain ⟨i,rfl,q⟩:=h
 obtain ⟨u,rfl,t,rfl⟩:=yb3 r
 exact call_abs_int fun u tk=>⟨.int (if i < 0 then -i else i),H,I.tok _,⟨_,rfl⟩,q⟩
theorem zgB (hc : X.calm = true) : CallR X (.builtin "max") (fun xs H Q=>∃ i j,xs = [.int i,.int j] /\ Q (.int (if j > i then j else i)) H):=by
 intro pins s σ H xs us Q I r h
 obtain ⟨i,j,rfl,q⟩:=h
 obtain ⟨u,w',rfl,⟨t,rfl⟩,⟨t',rfl⟩⟩:=ye3 r
 refine max_two_ints (I.ok.hd hc) fun h' tk k=>⟨_,H,I.kept k,?_,q⟩
 by_cases hj : j > i
 ·rw [if_pos hj,if_pos hj]; exact ⟨_,rfl⟩
 ·rw [if_neg hj,if_neg hj]; exact ⟨_,rfl⟩
theorem zgC : CallR X (.type "int") (fun xs H Q=>(∃ i,xs = [.int i] /\ Q (.int i) H) \/ ∃ k,xs = [.bl k] /\ Q (.int (if k then 1 else 0)) H):=by
 intro pins s σ H xs us Q I r h
 rcases h with ⟨i,rfl,q⟩ | ⟨k,rfl,q⟩
 ·obtain ⟨u,rfl,t,rfl⟩:=yb3 r
  exact call_int_int ⟨.int i,H,I,⟨_,rfl⟩,q⟩
 ·obtain ⟨u,rfl,r1⟩:=yb3 r
  cases r1
  exact call_int_bool ⟨.int (if k then 1 else 0),H,I.tok _,⟨_,rfl⟩,q⟩
end
end L2
namespace L2
open PySem PySem.Spec PyProof.Rows
structure ObjM (h : Heap) (x dx C : Addr) (mA : Str -> Option Value) : Prop where
 obj : h.get? x = some (PySem.W.instObj C dx)
 ns : h.Ns1 dx mA
 ne : dx ≠ x
theorem zgD {h : Heap} {dx : Addr} {mA : Str -> Option Value} (n : h.Ns1 dx mA) : ∃ od,h.get? dx = some od /\ ∀ name,PySem.W.lookIn name od = some (mA name):=by
 obtain ⟨o,es,ep,ho,hd,hk,_,hm⟩:=n
 refine ⟨o,ho,fun name=>?_⟩
 have e:=hm name
 unfold nsFind findBy at e
 rw [<- Array.find?_toList] at e
 unfold PySem.W.lookIn
 rw [hd]
 dsimp only
 split
 ·rename_i y q
  rw [q] at e
  exact congrArg some e
 ·rename_i q
  rw [q] at e
  have a : es.toList.any (·.refKey) = false:=by
   rw [List.any_eq_false]
   intro y hy
   obtain ⟨z,t,hkey⟩:=hk y (Array.mem_toList_iff.mp hy)
   simp [DictEntry.refKey,hkey]
  have a' : ¬ es.toList.any (·.refKey) = true:=by rw [a]; exact Bool.false_ne_true
  rw [if_neg a']
  exact congrArg some e
theorem ObjM.look {h : Heap} {x dx C : Addr} {mA : Str -> Option Value} (I : ObjM h x dx C mA) : ∃ od,PySem.W.InstAt h x (PySem.W.instObj C dx) C (some od) /\ ∀ name,PySem.W.lookIn name od = some (mA name) :=
 let ⟨od,ho,hl⟩:=zgD I.ns
 ⟨od,⟨I.obj,rfl,rfl,ho⟩,hl⟩
section
variable {prog : Program} {w : World} {A : Around} {E : Value -> Shared -> Prop} {s : Shared} {K : PySem.W.Frag} {x dx C f : Addr} {mA : Str -> Option Value} {name : Str} {v : Value}
theorem ziC {expr : Bool} {Q : Value -> Shared -> Prop} (X : K.In s.heap) (I : ObjM s.heap x dx C mA) (hg : PySem.W.plainGet K C name = true) (hh : PySem.W.hasDictIn K C = true)
  (ha : PySem.W.findIn K (.ref C) name = some none) (hv : mA name = some v) (hv' : PySem.W.handedIn v = true) (h : Q v { s with toks:=s.toks + 1 }) :
  wpAny (model prog w) A (getAttr (.ref x) name expr) Q E s:=by
 obtain ⟨od,J,hl⟩:=I.look
 exact PySem.W.get_value X J (PySem.W.plainGet_of hg).1 (PySem.W.findObj_own hh ha rfl (by rw [hl,hv])) hv' h
theorem zhB {pl : Sem Bool} {Q : Value × List Value -> Shared -> Prop} (X : K.In s.heap) (I : ObjM s.heap x dx C mA) (hg : PySem.W.plainGet K C name = true)
  (hf : PySem.W.findIn K (.ref C) name = some (some (.ref f))) (ht : PySem.W.isFn K (.ref f) = true) (hv : mA name = none) (h : Q (.ref f,[.ref x]) s) :
  wpAny (model prog w) A (getMethod (.ref x) name pl) Q E s:=by
 obtain ⟨od,J,hl⟩:=I.look
 exact PySem.W.method_fn X J (PySem.W.plainGet_of hg).1 (PySem.W.plainGet_of hg).2 hf (beq_iff_eq.mp ht) (by show (PySem.W.lookIn name od).map (·.isSome) = some false; rw [hl,hv]; rfl) h
theorem ziD {ns : List Str} {Q : Unit -> Shared -> Prop} (X : K.In s.heap) (I : ObjM s.heap x dx C mA)
  (hs : PySem.W.findIn K (.ref C) "__setattr__" = some (some (.builtin "object.__setattr__"))) (hp : PySem.W.plainOver K C = true) (ht : PySem.W.takerIn K C name = some none) (hh : PySem.W.hasDictIn K C = true)
  (hw : PySem.Within mA ns) (hsz : ns.length <= sizeLine)
  (h : ∀ h',ObjM h' x dx C (fun y=>if y = name then some v else mA y) -> Heap.SameBut dx s.heap h' -> Q () { s with heap:=h',toks:=s.toks + 2 }) :
  wpAny (model prog w) A (setAttr (.ref x) name v) Q E s:=by
 obtain ⟨od,J,hl⟩:=I.look
 refine PySem.W.set_plain X J hs (PySem.W.osa_open (s:={ s with toks:=s.toks + 1 }) (r:=none) X J hp ht fun b=>?_)
 obtain ⟨cd,hc,hd'⟩:=PySem.W.any_some hh
 have hx : s.heap.get? x = some ⟨.ref C,some dx,.plain,#[]⟩:=I.obj
 refine wpAny_bind (wpAny_pure (wpAny_bind (wpAny_bind (wpAny_loadPart hx (wpAny_bind (PySem.W.Looks.here (s:={ s with toks:=s.toks + 1 }) (PySem.W.looks_clsIn X hc) ?_))))))
 rw [hd']
 refine wpAny_pure (a:=some dx) (wpAny_bind (wpAny_pure (wpAny_bind ?_)))
 refine wpAny_nsSet1 (s:={ s with toks:=s.toks + 1 }) I.ns fun h' hn2 hs2=>?_
 obtain ⟨oD,esD,epD,hoD,hdD,hcD⟩:=hn2.count (PySem.Within.cons name v hw)
 refine wpAny_bind (wpAny_lookBehind hoD (by rw [hdD]; exact pastItsLine_dict (Nat.le_trans hcD (by rw [List.length_cons]; omega))) ?_)
 exact wpAny_pure (h _ ⟨(hs2.2 _ (Ne.symm I.ne)).trans I.obj,hn2,I.ne⟩ hs2)
theorem zhC {R : Result -> Shared -> Prop} {vs : List Value} {kw : List (Str × Value)} (X : K.In s.heap) (hm : PySem.W.makesIn K C = true)
  (hi : PySem.W.findIn K (.ref C) "__init__" = some (some (.ref f))) (hf : PySem.W.typeIn K (.ref f) = some (.type "function"))
  (h : codeAny (model prog w) (A.under (.builtin "type.__call__" ⟨.ref C :: vs,kw⟩)) (.call (.ref f) ⟨.ref (s.heap.objs.size + 1) :: vs,kw⟩) (PySem.W.InitBack (s.heap.objs.size + 1) R)
   { s with heap:=(s.heap.push PySem.W.emptyDict).push (PySem.W.instObj C s.heap.objs.size) }) :
  codeAny (model prog w) A (.call (.ref C) ⟨vs,kw⟩) R s:=by
 obtain ⟨hh,g,d,t,os⟩:=s
 exact PySem.W.make_core (PySem.W.makes_of X hm) (PySem.W.looks_findIn X hi) (fun self=>PySem.W.bind_fn X self hf) (.inl rfl) h
end
def putF (f : Str) (v : V) : List (Str × V) -> List (Str × V)
 | []=>[(f,v)]
 | (g,x) :: r=>if g = f then (g,v) :: r else (g,x) :: putF f v r
theorem za0 (f g : Str) (v : V) : ∀ fs : List (Str × V),(putF f v fs).lookup g = if g = f then some v else fs.lookup g
 | []=>by
  show List.lookup g [(f,v)] = _
  by_cases h : g = f
  ·have hb : (g == f) = true:=beq_iff_eq.mpr h
   simp only [List.lookup,hb,if_pos h]
  ·have hb : (g == f) = false:=beq_eq_false_iff_ne.mpr h
   simp only [List.lookup,hb,if_neg h]
 | (k,x) :: r=>by
  have ih:=za0 f g v r
  rw [show putF f v ((k,x) :: r) = (if k = f then (k,v) :: r else (k,x) :: putF f v r) from rfl]
  by_cases hk : k = f
  ·rw [if_pos hk]
   by_cases h : g = k
   ·have hb : (g == k) = true:=beq_iff_eq.mpr h
    simp only [List.lookup,hb,if_pos (h.trans hk)]
   ·have hb : (g == k) = false:=beq_eq_false_iff_ne.mpr h
    simp only [List.lookup,hb,if_neg (fun e : g = f=>h (e.trans hk.symm))]
  ·rw [if_neg hk]
   by_cases h : g = k
   ·have hb : (g == k) = true:=beq_iff_eq.mpr h
    simp only [List.lookup,hb,if_neg (fun e : g = f=>hk (h.symm.trans e))]
   ·have hb : (g == k) = false:=beq_eq_false_iff_ne.mpr h
    simp only [List.lookup,hb]
    exact ih
theorem zbN (f : Str) (v : V) : ∀ fs : List (Str × V),f ∈ (putF f v fs).map (·.1) /\ ∀ g,g ∈ fs.map (·.1) -> g ∈ (putF f v fs).map (·.1)
 | []=>⟨by simp [putF],fun g h=>by simp at h⟩
 | (k,x) :: r=>by
  obtain ⟨i1,i2⟩:=zbN f v r
  rw [show putF f v ((k,x) :: r) = (if k = f then (k,v) :: r else (k,x) :: putF f v r) from rfl]
  by_cases hk : k = f
  ·rw [if_pos hk]
   subst hk
   exact ⟨by simp,fun g h=>by simpa using h⟩
  ·rw [if_neg hk]
   refine ⟨?_,fun g h=>?_⟩
   ·rw [List.map_cons]
    exact List.mem_cons_of_mem _ i1
   ·rw [List.map_cons] at h ⊢
    rcases List.mem_cons.mp h with e | e
    ·exact List.mem_cons.mpr (.inl e)
    ·exact List.mem_cons_of_mem _ (i2 g e)
theorem zci (f : Str) (v : V) : ∀ fs : List (Str × V),(putF f v fs).length <= fs.length + 1
 | []=>by simp [putF]
 | (k,x) :: r=>by
  have ih:=zci f v r
  rw [show putF f v ((k,x) :: r) = (if k = f then (k,v) :: r else (k,x) :: putF f v r) from rfl]
  by_cases hk : k = f
  ·rw [if_pos hk,List.length_cons,List.length_cons]; omega
  ·rw [if_neg hk,List.length_cons,List.length_cons]; omega
theorem RelO.some_of {v : V} {o : Option Value} (r : RelO (some v) o) : ∃ u,o = some u /\ RelV v u:=by
 cases o with
 | none=>exact (show False from r).elim
 | some u=>exact ⟨u,rfl,r⟩
theorem RelO.none_of {o : Option Value} (r : RelO none o) : o = none:=by
 cases o with
 | none=>rfl
 | some u=>exact (show False from r).elim
theorem zgE {v : V} {u : Value} (r : RelV v u) : PySem.W.handedIn u = true:=by
 cases v with
 | non=>cases (show u = Value.none from r); rfl
 | bl b=>cases (show u = Value.bool b from r); rfl
 | int i=>obtain ⟨t,e⟩:=(show ∃ t,u = Value.int i t from r); cases e; rfl
 | str x=>obtain ⟨t,e⟩:=(show ∃ t,u = Value.str x t from r); cases e; rfl
 | byt b=>obtain ⟨t,e⟩:=(show ∃ t,u = Value.bytes b t from r); cases e; rfl
 | flt b=>obtain ⟨t,e⟩:=(show ∃ t,u = Value.float b t from r); cases e; rfl
 | ref a=>cases (show u = Value.ref a from r); rfl
 | ty n=>cases (show u = Value.type n from r); rfl
section
variable {P : Program} {w : World} {H H' : Hp} {h h' : Heap} {a C dx : Addr} {fs fs' : List (Str × V)}
theorem zb1 (hok : HOk P w H h) (e : H a = some (.ins C dx fs)) : ∃ mA,ObjM h a dx C mA /\ (∀ f,RelO (fs.lookup f) (mA f)) /\ PySem.Within mA (fs.map (·.1)) /\ fs.length <= 1000 /\ H dx = some (.own a):=by
 obtain ⟨d,z,ne,ob,mA,n,r,q⟩:=(show ObjOk P w H h a (.ins C dx fs) from hok a _ e)
 exact ⟨mA,⟨ob,n,ne⟩,r,q,z,d⟩
end
structure Cls (K : PySem.W.Frag) (C : Addr) : Prop where
 pg : PySem.W.plainGet K C Str.empty = true
 hd : PySem.W.hasDictIn K C = true
 po : PySem.W.plainOver K C = true
 sa : PySem.W.findIn K (.ref C) "__setattr__" = some (some (.builtin "object.__setattr__"))
theorem Cls.get {K : PySem.W.Frag} {C : Addr} (c : Cls K C) (f : Str) : PySem.W.plainGet K C f = true:=c.pg
def NoAttr (K : PySem.W.Frag) (C : Addr) (f : Str) : Prop:=PySem.W.findIn K (.ref C) f = some none
theorem NoAttr.taker {K : PySem.W.Frag} {C : Addr} {f : Str} (n : NoAttr K C f) : PySem.W.takerIn K C f = some none:=by
 unfold PySem.W.takerIn
 rw [show PySem.W.findIn K (.ref C) f = some none from n]
 rfl
structure Meth (K : PySem.W.Frag) (C : Addr) (m : Str) (f : Addr) : Prop where
 at_ : PySem.W.findIn K (.ref C) m = some (some (.ref f))
 fn : PySem.W.isFn K (.ref f) = true
 kp : PySem.W.keepIn K (.ref f) = true
section
variable {X : Cx} {pins : List (Addr × Obj)} {σ : St} {H : Hp} {s : Shared} {a C dx : Addr} {fs : List (Str × V)} {f : Str} {v : V} {A : Around} {E : Value -> Shared -> Prop}
theorem zfX {b : Bool} {Q : Value -> Shared -> Prop} (I : Inv X pins σ H s) (e : H a = some (.ins C dx fs)) (c : Cls X.K C) (n : NoAttr X.K C f) (l : fs.lookup f = some v)
  (h : ∀ u s',Inv X pins σ H s' -> RelV v u -> Q u s') : wpAny (model X.prog X.w) A (getAttr (.ref a) f b) Q E s:=by
 obtain ⟨mA,O,r,_,_,_⟩:=zb1 I.hok e
 obtain ⟨u,hu,ru⟩:=RelO.some_of (v:=v) (o:=mA f) (by rw [<- l]; exact r f)
 exact ziC I.kIn O (c.get f) c.hd n hu (zgE ru) (h u _ (I.tok _) ru)
theorem zcP {m : Str} {g : Addr} {pl : Sem Bool} {Q : Value × List Value -> Shared -> Prop} (I : Inv X pins σ H s) (e : H a = some (.ins C dx fs)) (c : Cls X.K C) (k : Meth X.K C m g) (l : fs.lookup m = none)
  (h : Q (.ref g,[.ref a]) s) : wpAny (model X.prog X.w) A (getMethod (.ref a) m pl) Q E s:=by
 obtain ⟨mA,O,r,_,_,_⟩:=zb1 I.hok e
 have hn : mA m = none:=RelO.none_of (by rw [<- l]; exact r m)
 exact zhB I.kIn O (c.get m) k.at_ k.fn hn h
theorem zfY {y : V} {u : Value} {Q : Unit -> Shared -> Prop} (I : Inv X pins σ H s) (e : H a = some (.ins C dx fs)) (c : Cls X.K C) (n : NoAttr X.K C f) (hl : fs.length < 1000) (ry : RelV y u)
  (h : ∀ s',Inv X pins σ (upd H a (.ins C dx (putF f y fs))) s' -> Q () s') : wpAny (model X.prog X.w) A (setAttr (.ref a) f u) Q E s:=by
 obtain ⟨mA,O,r,wi,_,ho⟩:=zb1 I.hok e
 have hz : (fs.map (·.1)).length <= sizeLine:=by rw [List.length_map,sizeLine_eq]; omega
 refine ziD I.kIn O c.sa c.po n.taker c.hd wi hz fun h' O' sb=>h _ ?_
 have hd : ∃ o,h'.get? dx = some o:=let ⟨o,_,_,e',_⟩:=O'.ns; ⟨o,e'⟩
 refine I.write (x:=a) (e:=dx) (by rw [e]; exact True.intro) (.inr ho) (fun b q hb z=>(sb.2 b hb).trans z) hd ?_
 refine ⟨by rw [yay O.ne]; exact ho,?_,O.ne,O'.obj,_,O'.ns,fun g=>?_,fun g hg=>?_⟩
 ·have:=zci f y fs; omega
 ·show RelO ((putF f y fs).lookup g) (if g = f then some u else mA g)
  rw [za0]
  by_cases q : g = f
  ·rw [if_pos q,if_pos q]; exact ry
  ·rw [if_neg q,if_neg q]; exact r g
 ·by_cases q : g = f
  ·rw [q]; exact (zbN f y fs).1
  ·refine (zbN f y fs).2 g (wi g fun z=>hg ?_)
   show (if g = f then some u else mA g) = none
   rw [if_neg q]; exact z
theorem Inv.made (I : Inv X pins σ H s) : Inv X pins σ (upd (upd H s.heap.objs.size (.own (s.heap.objs.size + 1))) (s.heap.objs.size + 1) (.ins C s.heap.objs.size []))
  { s with heap:=(s.heap.push PySem.W.emptyDict).push (PySem.W.instObj C s.heap.objs.size) }:=by
 have e1 : (s.heap.push PySem.W.emptyDict).get? s.heap.objs.size = some PySem.W.emptyDict:=Heap.get?_push_size s.heap rfl
 have e2 : ((s.heap.push PySem.W.emptyDict).push (PySem.W.instObj C s.heap.objs.size)).get? (s.heap.objs.size + 1) = some (PySem.W.instObj C s.heap.objs.size):=by
  have:=Heap.get?_push_size (s.heap.push PySem.W.emptyDict) (o:=PySem.W.instObj C s.heap.objs.size) rfl
  rwa [Heap.size_push] at this
 have e3 : (s.heap.push PySem.W.emptyDict).Ns s.heap.objs.size (fun _=>none):=⟨PySem.W.emptyDict,#[],_,e1,rfl,(fun e he=>absurd he (by simp)),fun _=>rfl⟩
 have I1:=I.laid (a:=s.heap.objs.size) (o:=.own (s.heap.objs.size + 1)) (h' := s.heap.push PySem.W.emptyDict) (t' := s.toks) (fun b u q=>Heap.get?_push_of_some _ q) (Nat.le_refl _) ⟨_,e1⟩
 refine I1.laid (a:=s.heap.objs.size + 1) (o:=.ins C s.heap.objs.size []) (t' := s.toks) (fun b u q=>Heap.get?_push_of_some _ q) (Nat.le_of_eq (Heap.size_push _ _)) ?_
 have ne : s.heap.objs.size ≠ s.heap.objs.size + 1:=Nat.ne_of_lt (Nat.lt_succ_self _)
 refine ⟨by rw [yay ne,zar],Nat.zero_le _,ne,e2,fun _=>none,(Heap.Ns1.of_empty e3).at fun o q=>Heap.get?_push_of_some _ q,fun _=>True.intro,fun y hy=>absurd rfl hy⟩
theorem ziE {prog : Program} {w : World} {env : Env} {e : Expr} {f : Str} {pos : Pos} {s : Shared} {Q : Value -> Shared -> Prop} (hb : attributeBase e f env (eval e env) = eval e env)
  (h : wpAny (model prog w) A (eval e env) (fun o s₁=>wpAny (model prog w) A (getAttr o f true) Q E s₁) E s) : wpAny (model prog w) A (eval (.Attribute e f pos) env) Q E s :=
 Attribute_any_ h (by rw [arm_eval_Attribute,hb])
end
def tFld (K : PySem.W.Frag) (ta : TE) (f : Str) : TE:=fun σ H Q=>ta σ H fun x H1=>∃ a C dx fs v,x = .ref a /\ H1 a = some (.ins C dx fs) /\ Cls K C /\ NoAttr K C f /\ fs.lookup f = some v /\ Q v H1
def sFld (K : PySem.W.Frag) (ta tv : TE) (f : Str) : TS:=fun D σ H=>tv σ H fun y H1=>ta σ H1 fun x H2=>∃ a C dx fs,x = .ref a /\ H2 a = some (.ins C dx fs) /\ Cls K C /\ NoAttr K C f /\ fs.length < 1000 /\
 D.nx σ (upd H2 a (.ins C dx (putF f y fs)))
section
variable {X : Cx} {o e value : Expr} {f : Str} {pos pos' tpos : Pos} {ta tv : TE}
theorem ygn (he : PE X e ta) (hb : attributeBase e f X.env (eval e X.env) = eval e X.env) : PE X (.Attribute e f pos) (tFld X.K ta f):=by
 intro pins s σ H Q I h
 refine ziE hb (thn (he pins s σ H _ I h) fun u s1 ⟨x,H1,I1,rx,a,C,dx,fs,v,ex,ea,c,n,l,q⟩=>?_)
 subst ex
 obtain rfl : u = Value.ref a:=rx
 exact zfX I1 ea c n l fun u' s2 I2 ru=>⟨v,H1,I2,ru,q⟩
theorem ygo (ha : PE X o ta) (hv : PE X value tv) (hs : swapsWith value (some (.Attribute o f pos')) pos.line X.env = pure false) : PS X (.Assign [.Attribute o f pos'] value pos) (sFld X.K ta tv f):=by
 intro pins s σ H D I h
 refine plainObj_wpAny_Assign_Attribute (thn (hv pins s σ H _ I h) fun u s1 ⟨y,H1,I1,ry,q⟩=>thn (ha pins s1 σ H1 _ I1 q) fun ov s2 ⟨x,H2,I2,rx,a,C,dx,fs,ex,ea,c,n,l,q2⟩=>?_) hs
 subst ex
 obtain rfl : ov = Value.ref a:=rx
 exact zfY I2 ea c n l ry fun s3 I3=>⟨σ,_,I3,q2⟩
end
section
variable {X : Cx} {pins : List (Addr × Obj)} {σ : St} {H : Hp} {s : Shared} {A : Around} {E : Value -> Shared -> Prop} {Q : Value -> Shared -> Prop} {c : Value} {b : Bool}
inductive TyOf (K : PySem.W.Frag) (H : Hp) : V -> Value -> Prop where
 | non : TyOf K H .non (.type "NoneType")
 | bl (x : Bool) : TyOf K H (.bl x) (.type "bool")
 | int (i : Int) : TyOf K H (.int i) (.type "int")
 | str (x : Str) : TyOf K H (.str x) (.type "str")
 | flt (x : UInt64) : TyOf K H (.flt x) (.type "float")
 | lst {a : Addr} {xs : List V} (e : H a = some (.lst xs)) : TyOf K H (.ref a) (.type "list")
 | frz {a : Addr} {o : Obj} {xs : List V} (e : H a = some (.frz o (.lst xs))) : TyOf K H (.ref a) (.type "list")
 | tup {a : Addr} {xs : List V} (e : H a = some (.tup xs)) : TyOf K H (.ref a) (.type "tuple")
 | dK {a : Addr} {kvs : List (Key × V)} (e : H a = some (.dK kvs)) : TyOf K H (.ref a) (.type "dict")
 | dT {a : Addr} {kvs : List (List Key × V)} (e : H a = some (.dT kvs)) : TyOf K H (.ref a) (.type "dict")
 | ins {a C dx : Addr} {fs : List (Str × V)} (e : H a = some (.ins C dx fs)) (cl : Cls K C) (ha : PySem.W.findIn K (.ref C) "__class__" = some (some (.builtin "object.__class__")))
   (hn : PySem.W.specialIn K (.builtin "object.__class__") "__get__" = some (some (.builtin "getset_descriptor.__get__"))) (htk : PySem.W.takesIn K (.builtin "object.__class__") = some true)
   (hm : PySem.W.mroIn K C (.type "object") = some true) : TyOf K H (.ref a) (.ref C)
theorem zgF {x : V} {u t : Value} (I : Inv X pins σ H s) (rx : RelV x u) (ty : TyOf X.K H x t) (e : PySem.W.kitOne X.K t c = some b) (h : ∀ tk,Q (.bool b) { s with toks:=tk }) :
  wpAny (model X.prog X.w) A (call (.builtin "isinstance") [u,c]) Q E s:=by
 cases ty with
 | non=>cases (show u = Value.none from rx); exact PySem.W.kia_one PySem.W.kitx_none I.kIn True.intro e (fun z=>nomatch z) h
 | bl y=>cases (show u = Value.bool y from rx); exact PySem.W.kia_one PySem.W.kitx_bool I.kIn True.intro e (fun z=>nomatch z) h
 | int i=>obtain ⟨t,q⟩:=(show ∃ t,u = Value.int i t from rx); cases q; exact PySem.W.kia_one PySem.W.kitx_int I.kIn True.intro e (fun z=>nomatch z) h
 | str y=>obtain ⟨t,q⟩:=(show ∃ t,u = Value.str y t from rx); cases q; exact PySem.W.kia_one PySem.W.kitx_str I.kIn True.intro e (fun z=>nomatch z) h
 | flt y=>obtain ⟨t,q⟩:=(show ∃ t,u = Value.float y t from rx); cases q; exact PySem.W.kia_one PySem.W.kitx_float I.kIn True.intro e (fun z=>nomatch z) h
 | @lst a xs ea =>
  cases (show u = Value.ref a from rx)
  obtain ⟨_,_,n,_,h1⟩:=(show ObjOk X.prog X.w H s.heap a (.lst xs) from I.hok a _ ea)
  exact PySem.W.kia_one PySem.W.kitx_list I.kIn ⟨_,h1,rfl⟩ e (fun z=>nomatch z) h
 | @frz a ob xs ea =>
  cases (show u = Value.ref a from rx)
  obtain ⟨_,_,_,n,_,h1⟩:=(show ObjOk X.prog X.w H s.heap a (.frz ob (.lst xs)) from I.hok a _ ea)
  exact PySem.W.kia_one PySem.W.kitx_list I.kIn ⟨_,h1,rfl⟩ e (fun z=>nomatch z) h
 | @tup a xs ea =>
  cases (show u = Value.ref a from rx)
  obtain ⟨_,_,_,p⟩:=(show ObjOk X.prog X.w H s.heap a (.tup xs) from I.hok a _ ea)
  obtain ⟨o,h1,h2,_⟩:=p
  exact PySem.W.kia_one PySem.W.kitx_tuple I.kIn ⟨o,h1,h2⟩ e (fun z=>nomatch z) h
 | @dK a kvs ea =>
  cases (show u = Value.ref a from rx)
  obtain ⟨_,_,vs,_,p⟩:=(show ObjOk X.prog X.w H s.heap a (.dK kvs) from I.hok a _ ea)
  obtain ⟨o,es,ep,h1,h2,_⟩:=p
  exact PySem.W.kia_one PySem.W.kitx_dict I.kIn ⟨o,h1,h2.1⟩ e (fun z=>nomatch z) h
 | @dT a kvs ea =>
  cases (show u = Value.ref a from rx)
  obtain ⟨_,_,xs,_,o,es,ep,h1,h2,_⟩:=(show ObjOk X.prog X.w H s.heap a (.dT kvs) from I.hok a _ ea)
  exact PySem.W.kia_one PySem.W.kitx_dict I.kIn ⟨o,h1,h2.1⟩ e (fun z=>nomatch z) h
 | @ins a C dx fs ea cl ha hn htk hm =>
  cases (show u = Value.ref a from rx)
  obtain ⟨mA,O,_⟩:=zb1 I.hok ea
  obtain ⟨od,J,_⟩:=O.look
  exact PySem.W.kia_one (PySem.W.kitx_own (cl.get _) cl.hd ha hn htk hm) I.kIn J e (fun z=>nomatch z) h
end
end L2
namespace L2
open PySem PySem.Spec PyProof.Rows
structure Room (k : Nat) (A : Around) : Prop where
 hd : A.handled = none
 dp : A.depth + 3 * k + 5 < recursionLimit
 un : A.units + 16 * k + 200 < cLine
theorem Room.mono {j k : Nat} {A : Around} (r : Room k A) (h : j <= k) : Room j A:=⟨r.hd,by have:=r.dp; omega,by have:=r.un; omega⟩
theorem Room.deeper {k : Nat} {A : Around} (r : Room (k + 1) A) (env : Env) : Room k (A.deeper env) :=
 ⟨r.hd,by have:=r.dp; show A.depth + 1 + 3 * k + 5 < _; omega,by have:=r.un; show A.units + 3 + 16 * k + 200 < _; omega⟩
theorem zfZ {A : Around} {C : Addr} {us : List Value} {kw : List (Str × Value)} : (A.under (.builtin "type.__call__" ⟨.ref C :: us,kw⟩)).depth = A.depth + 1:=by
 first | rfl | simp [Around.under,Code.weight,Code.isCreation,Code.isGuard,Code.isCaller,Code.frames,Code.isFrame,guardIds]
theorem zf0 {A : Around} {C : Addr} {us : List Value} {kw : List (Str × Value)} : (A.under (.builtin "type.__call__" ⟨.ref C :: us,kw⟩)).units = A.units + 1:=by
 first | rfl | simp [Around.under,Code.cUnits,Code.frames,Code.isFrame]
theorem Room.make {k : Nat} {A : Around} (r : Room (k + 1) A) (C : Addr) (us : List Value) (kw : List (Str × Value)) : Room k (A.under (.builtin "type.__call__" ⟨.ref C :: us,kw⟩)) :=
 ⟨r.hd,by have:=r.dp; rw [zfZ]; omega,by have:=r.un; rw [zf0]; omega⟩
theorem Room.depth {k : Nat} {A : Around} (r : Room k A) : A.depth < recursionLimit:=by have:=r.dp; omega
def tNil : TA:=fun _ H Q=>Q [] H
def yhv (ta : TE) (tr : TA) : TA:=fun σ H Q=>ta σ H fun x H1=>tr σ H1 fun xs H2=>Q (x :: xs) H2
section
variable {X : Cx} {e : Expr} {es : List Expr} {te : TE} {t : TA} {pos : Pos}
theorem yfj : PA X [] tNil:=fun _ _ _ _ H Q I h=>Calls.spliced_nil ⟨[],H,I,.nil,h⟩
theorem zc5 (ha : PE X e te) (hr : PA X es t) (hs : starEach (e :: es) X.env = (false,eval e X.env) :: starEach es X.env:=by rfl) : PA X (e :: es) (yhv te t):=by
 intro pos pins s σ H Q I h
 rw [hs]
 show wpAny _ _ (spliced ((false,eval e X.env) :: backTo pos (starEach es X.env))) _ _ s
 refine Calls.spliced_cons (thn (ha pins s σ H _ I h) fun u s1 ⟨x,H1,I1,r1,q1⟩=>?_)
 exact thn (hr pos pins s1 σ H1 _ I1 q1) fun us s2 ⟨xs,H2,I2,r2,q2⟩=>⟨x :: xs,H2,I2,.cons r1 r2,q2⟩
def tTup (t : TA) : TE:=fun σ H Q=>t σ H fun xs H1=>xs.length <= sizeLine /\ ∀ p,H1 p = none -> Q (.ref p) (upd H1 p (.tup xs))
def tLst (t : TA) : TE:=fun σ H Q=>t σ H fun xs H1=>xs.length <= sizeLine /\ ∀ p,H1 p = none -> Q (.ref p) (upd H1 p (.lst xs))
theorem ygp {x1} (h : PA X es t) : PE X (.Tuple es x1 pos) (tTup t):=by
 intro pins s σ H Q I hq
 refine wpAny_Tuple_spliced (thn (h pos pins s σ H _ I hq) fun us s1 ⟨xs,H1,I1,r,z,q⟩=>⟨by rw [<- r.length]; exact z,?_⟩)
 have hf : H1 s1.heap.objs.size = none:=I1.hok.fresh (Nat.le_refl _)
 refine ⟨.ref s1.heap.objs.size,upd H1 s1.heap.objs.size (.tup xs),I1.laid (t' := s1.toks) (fun b u e=>Heap.get?_push_of_some _ e) (Nat.le_refl _) ?_,rfl,q _ hf⟩
 exact ⟨z,us,r,⟨_,Heap.get?_push_size _ rfl,rfl,_,rfl⟩⟩
theorem yfk (h : PA X es t) : PE X (.List es pos) (tLst t):=by
 intro pins s σ H Q I hq
 refine wpAny_List_spliced (thn (h pos pins s σ H _ I hq) fun us s1 ⟨xs,H1,I1,r,z,q⟩=>⟨by rw [<- r.length]; exact z,?_⟩)
 have hf : H1 s1.heap.objs.size = none:=I1.hok.fresh (Nat.le_refl _)
 refine ⟨.ref s1.heap.objs.size,upd H1 s1.heap.objs.size (.lst xs),I1.laid (t' := s1.toks) (fun b u e=>Heap.get?_push_of_some _ e) (Nat.le_refl _) ?_,rfl,q _ hf⟩
 exact ⟨z,us,0,r,Heap.get?_push_size _ rfl⟩
end
abbrev Sp:=List V -> Hp -> VK -> XK -> Prop
abbrev CXT:=List Env -> Hp -> Shared -> XK -> Value -> Shared -> Prop
structure Env0 (P : Program) (w : World) (K : PySem.W.Frag) (mg : Str -> Option Value) (base : Heap) (A : Around) (outer : List Env) (s : Shared) (H : Hp) : Prop where
 frames : A.frames = some outer
 mod : Mod K mg base
 bs : ∀ b o,base.get? b = some o -> s.heap.get? b = some o /\ H b = none
 bsz : base.objs.size <= s.heap.objs.size
 funs : s.heap.FunFrames base outer
 frf : ∀ b ∈ frs outer,H b = none
 hok : HOk P w H s.heap
 bare : AllBare s.gens
def CE (outer : List Env) (P : Program) (w : World) (H : Hp) (s : Shared) (Q : VK) (u : Value) (s' : Shared) : Prop :=
 ∃ v H',s'.os = s.os /\ AllBare s'.gens /\ Un (frs outer) [] H H' s.heap s'.heap /\ HOk P w H' s'.heap /\ RelV v u /\ Q v H'
def CR (CX : CXT) (outer : List Env) (P : Program) (w : World) (H : Hp) (s : Shared) (Q : VK) (E : XK) (r : Result) (s' : Shared) : Prop :=
 match r with
 | .ok (.ret u)=>CE outer P w H s Q u s'
 | .ok _=>False
 | .error e=>CX outer H s E e s'
structure FnOk (P : Program) (w : World) (K : PySem.W.Frag) (mg : Str -> Option Value) (base : Heap) (CX : CXT) (k : Nat) (f : Addr) (fd : FuncData) (ps : List Str) (sp : Sp) : Prop where
 len : ∀ vs H Q E,sp vs H Q E -> vs.length = ps.length
 run : ∀ (A : Around) (outer : List Env) (s : Shared) (H : Hp) (args : Args) (us : List Value) (vs : List V) (Q : VK) (E : XK),Room k A -> Env0 P w K mg base A outer s H -> BindsTo s fd args (ps.zip us) -> Vals vs us -> sp vs H Q E ->
  codeAny (model P w) A (.call (.ref f) args) (CR CX outer P w H s Q E) s
theorem FnOk.imp {P : Program} {w : World} {K : PySem.W.Frag} {mg : Str -> Option Value} {base : Heap} {CX : CXT} {k : Nat} {f : Addr} {fd : FuncData} {ps : List Str} {sp sp' : Sp} (F : FnOk P w K mg base CX k f fd ps sp)
  (h : ∀ vs H Q E,sp' vs H Q E -> sp vs H Q E) : FnOk P w K mg base CX k f fd ps sp' :=
 ⟨fun vs H Q E q=>F.len vs H Q E (h _ _ _ _ q),fun A outer s H args us vs Q E hr he hb hv hs=>F.run A outer s H args us vs Q E hr he hb hv (h _ _ _ _ hs)⟩
theorem Env0.make {P : Program} {w : World} {K : PySem.W.Frag} {mg : Str -> Option Value} {base : Heap} {A : Around} {outer : List Env} {s : Shared} {H : Hp} (e : Env0 P w K mg base A outer s H) (C : Addr) (us : List Value) (kw : List (Str × Value)) :
  Env0 P w K mg base (A.under (.builtin "type.__call__" ⟨.ref C :: us,kw⟩)) outer s H:=⟨by first | exact e.frames | (simpa [Around.under,Code.envs,Code.isFrame,pushEnvs] using e.frames),e.mod,e.bs,e.bsz,e.funs,e.frf,e.hok,e.bare⟩
section
variable {X : Cx} {pins : List (Addr × Obj)} {σ : St} {H : Hp} {s s' : Shared}
theorem Inv.env0 (I : Inv X pins σ H s) : Env0 X.prog X.w X.K X.mg X.base X.A X.stack s H :=
 ⟨I.ok.frames,I.ok.mod,I.bs,Nat.le_trans I.ok.bsz I.sz,I.stack,I.stkFree,I.hok,I.bare⟩
theorem Inv.after {Q : VK} {u : Value} (I : Inv X pins σ H s) (h : CE X.stack X.prog X.w H s Q u s') : EP X pins σ Q u s' := by
 obtain ⟨v,H',os,bare,un,hok,r,q⟩:=h
 obtain ⟨hh,g,d,t,os'⟩:=s'
 obtain rfl : os' = s.os:=os
 exact ⟨v,H',I.call (h' := hh) (g' := g) (d' := d) (t' := t) (ch:=[]) un hok bare (fun b z=>absurd z (by simp)),r,q⟩
end
def Binds (K : PySem.W.Frag) (fd : FuncData) (ps : List Str) (ds : List Value) : Prop :=
 ∀ (s : Shared) (us : List Value),K.In s.heap -> (us++ds).length = ps.length -> BindsTo s fd ⟨us,[]⟩ (ps.zip (us++ds))
theorem Binds.all {K : PySem.W.Frag} {fd : FuncData} {ps : List Str} (h : ∀ us : List Value,us.length = ps.length -> bindArgs fd ⟨us,[]⟩ = pure (ps.zip us)) : Binds K fd ps []:=fun s us _ hl=>by
 rw [List.append_nil] at hl ⊢
 exact .of_eq (h us hl)
def ygq (CX : CXT) (X : Cx) (E : XK) : Prop:=∀ (pins : List (Addr × Obj)) (σ : St) (H : Hp) (s : Shared) (e : Value) (s' : Shared),Inv X pins σ H s -> CX X.stack H s E e s' -> X.xe e s'
section
variable {X : Cx} {CX : CXT} {k : Nat} {f C : Addr} {fd : FuncData} {ps : List Str} {sp : Sp} {dvs : List V} {ds : List Value} {E : XK} {x m : Str} {p pos apos : Pos} {e o : Expr} {es : List Expr} {ta : TE} {t : TA}
structure Mk (K : PySem.W.Frag) (C f : Addr) : Prop where
 makes : PySem.W.makesIn K C = true
 init : PySem.W.findIn K (.ref C) "__init__" = some (some (.ref f))
 fn : PySem.W.isFn K (.ref f) = true
 kp : PySem.W.keepIn K (.ref C) = true
end
section
variable {X : Cx} {CX : CXT} {k : Nat} {f C : Addr} {fd : FuncData} {ps ks : List Str} {sp : Sp} {E : XK} {x m : Str} {p pos apos kpos : Pos} {e o : Expr} {es : List Expr} {kws : List Keyword} {te ta : TE} {t tk : TA} {nm : Option Str}
variable {g : List Value -> List Value -> List Value} {gV : List V -> List V -> List V}
end
structure FnScope (N P : List Str) (sc : Scope) : Prop where
 kind : sc.kind = .function
 co : sc.isCoroutine = false
 gen : sc.isGenerator = false
 nd : N.Nodup
 pre : N.take P.length = P
 par : ∀ x ∈ P,sc.names.lookup x = some .local \/ sc.names.lookup x = some .cell
 nofree : ∀ y ∈ sc.names,y.2 ≠ .free
theorem zdu {kindOf : Str -> Option NameKind} {x : Str} : ∀ {binds : List (Str × Value)} {m : Str -> Option Value},(∀ v,(x,v) ∉ binds) -> bindL kindOf binds m x = m x
 | [],_,_=>rfl
 | (n,v) :: r,m,h=>by
  unfold bindL
  rw [zdu fun w hw=>h w (List.mem_cons_of_mem _ hw)]
  split
  ·have : x ≠ n:=by rintro rfl; exact h v List.mem_cons_self
   simp [this]
  ·rfl
theorem zdv {kindOf : Str -> Option NameKind} {x : Str} : ∀ {binds : List (Str × Value)} {m : Str -> Option Value},(∀ v,(x,v) ∉ binds) -> bindC kindOf binds m x = m x
 | [],_,_=>rfl
 | (n,v) :: r,m,h=>by
  unfold bindC
  rw [zdv fun w hw=>h w (List.mem_cons_of_mem _ hw)]
  split
  ·rfl
  ·have : x ≠ n:=by rintro rfl; exact h v List.mem_cons_self
   simp [this]
theorem zdw {kindOf : Str -> Option NameKind} {x : Str} {v : Value} : ∀ {P : List Str} {vs : List Value} {i : Nat} {m : Str -> Option Value},P.Nodup -> P[i]? = some x -> vs[i]? = some v -> kindOf x = some .local ->
  bindL kindOf (P.zip vs) m x = some v
 | [],_,_,_,_,h,_,_=>by simp at h
 | _ :: _,[],_,_,_,_,h,_=>by simp at h
 | p :: P,w :: vs,0,m,nd,h1,h2,hk=>by
  simp at h1 h2; subst h1; subst h2
  show bindL kindOf ((p,w) :: P.zip vs) m p = _
  unfold bindL
  rw [zdu fun v hv=>(List.nodup_cons.mp nd).1 (List.of_mem_zip hv).1,if_pos hk]
  simp
 | p :: P,w :: vs,i + 1,m,nd,h1,h2,hk=>by
  show bindL kindOf ((p,w) :: P.zip vs) m x = _
  unfold bindL
  exact zdw (i:=i) (List.nodup_cons.mp nd).2 (by simpa using h1) (by simpa using h2) hk
theorem zdx {kindOf : Str -> Option NameKind} {x : Str} {v : Value} : ∀ {P : List Str} {vs : List Value} {i : Nat} {m : Str -> Option Value},P.Nodup -> P[i]? = some x -> vs[i]? = some v -> kindOf x ≠ some .local ->
  bindC kindOf (P.zip vs) m x = some v
 | [],_,_,_,_,h,_,_=>by simp at h
 | _ :: _,[],_,_,_,_,h,_=>by simp at h
 | p :: P,w :: vs,0,m,nd,h1,h2,hk=>by
  simp at h1 h2; subst h1; subst h2
  show bindC kindOf ((p,w) :: P.zip vs) m p = _
  unfold bindC
  rw [zdv fun v hv=>(List.nodup_cons.mp nd).1 (List.of_mem_zip hv).1,if_neg hk]
  simp
 | p :: P,w :: vs,i + 1,m,nd,h1,h2,hk=>by
  show bindC kindOf ((p,w) :: P.zip vs) m x = _
  unfold bindC
  exact zdx (i:=i) (List.nodup_cons.mp nd).2 (by simpa using h1) (by simpa using h2) hk
def start (N : List Str) (vs : List V) : St:=vs.map some++List.replicate (N.length - vs.length) none
def cxOf (CX : CXT) (P : Program) (w : World) (K : PySem.W.Frag) (mg : Str -> Option Value) (base : Heap) (N : List Str) (qual : Str) (scope : Scope) (f : Addr) (cd : Value) (A : Around) (outer : List Env) (s : Shared) (H : Hp) (E : XK) : Cx where
 prog:=P
 w:=w
 K:=K
 mg:=mg
 base:=base
 A:=A.deeper (envOfC qual scope s.heap.objs.size f cd)
 N:=N
 s₀:=s
 H₀:=H
 env:=envOfC qual scope s.heap.objs.size f cd
 outer:=outer
 stack:=envOfC qual scope s.heap.objs.size f cd :: outer
 ex:=[]
 calm:=true
 fn:=fun _=>true
 pn:=[]
 xe:=fun e s' => wpAny (model P w) (A.deeper (envOfC qual scope s.heap.objs.size f cd)) (leaving (envOfC qual scope s.heap.objs.size f cd) e) (fun _ s'' => CX outer H s E e s'') (fun e' s'' => CX outer H s E e' s'') s'
theorem zd3 {sc : Scope} {n : Nat} {x : Str} (h : sc.names.lookup x = some .cell) : ∃ c,(cellsFrom n sc.names []).lookup x = some c:=by
 have q:=PySem.W.cellsFrom_some sc.names n [] (.inl h)
 exact Option.isSome_iff_exists.mp q
theorem zgG {CX : CXT} {P : Program} {w : World} {K : PySem.W.Frag} {mg : Str -> Option Value} {base : Heap} {N ps : List Str} {qual : Str} {scope : Scope} {f : Addr} {cd : Value} {A : Around} {outer : List Env} {s s1 : Shared} {H : Hp} {E : XK} {us : List Value} {vs : List V}
  (S : FnScope N ps scope) (hd : A.handled = none) (e0 : Env0 P w K mg base A outer s H) (hl : vs.length = ps.length) (r : Vals vs us)
  (x : InCallC s s.heap.objs.size (bindL (envOfC qual scope s.heap.objs.size f cd).kindOf (ps.zip us) fun _=>none) (cellsFrom (s.heap.objs.size + 1) scope.names []) (bindC (envOfC qual scope s.heap.objs.size f cd).kindOf (ps.zip us) fun _=>none) s1) :
  Inv (cxOf CX P w K mg base N qual scope f cd A outer s H E) [] (start N vs) H s1:=by
 have hpl : ps.length <= N.length:=by have:=congrArg List.length S.pre; rw [List.length_take] at this; omega
 obtain ⟨h1,tk,rfl,hk⟩:=x.done
 have noA : ∀ b : Addr,b ∉ (cxOf CX P w K mg base N qual scope f cd A outer s H E).ex:=fun b z=>absurd (show b ∈ ([] : List Addr) from z) (by simp)
 refine ⟨⟨e0.mod,S.kind,rfl,rfl,Nat.le_refl _,fun y z c h1 h2=>?_,fun y hy=>?_,fun y c _ h=>?_,fun _=>hd,Around.frames_deeper e0.frames,.inr ⟨rfl,rfl⟩,fun b z=>absurd z (noA b),e0.bs,e0.bsz,fun b _ _=>noA b,fun b z=>absurd z (noA b),e0.funs,e0.frf⟩,
  rfl,e0.bare,Un.kept hk,⟨_,x.toInCall.ns,fun i y v h1 h2 h3=>?_⟩,fun y c h=>⟨_,x.cell y c h⟩,e0.hok.fresh (Nat.le_refl _),fun y c h=>?_,fun p hp=>absurd (show p ∈ ([] : List (Addr × Obj)) from hp) (by simp),e0.hok.kept hk,?_⟩
 ·exact name_of_addr x.apart (PySem.mem_of_lookup h1) (PySem.mem_of_lookup h2)
 ·have hy : scope.names.lookup y = some .cell \/ scope.names.lookup y = some .free:=hy
  rcases hy with hy | hy
  ·exact zd3 hy
  ·exact absurd rfl (S.nofree _ (PySem.mem_of_lookup hy))
 ·exact Nat.le_of_lt (x.above y c (PySem.mem_of_lookup h))
 ·have hi : i < vs.length:=by
   unfold start at h2
   by_cases hi : i < vs.length
   ·exact hi
   ·rw [List.getElem?_append_right (by simpa using hi)] at h2
    rw [List.getElem?_replicate] at h2
    split at h2<;>cases h2
  have ha : vs[i]? = some v:=by
   unfold start at h2
   rw [List.getElem?_append_left (by simpa using hi),List.getElem?_map] at h2
   cases e : vs[i]? with
   | none=>rw [e] at h2; cases h2
   | some a=>rw [e] at h2; cases h2; rfl
  obtain ⟨u,hu,rv⟩:=r.get ha
  have hp : ps[i]? = some y:=by
   rw [<- S.pre,List.getElem?_take_of_lt (by omega)]; exact h1
  have ndP : ps.Nodup:=by rw [<- S.pre]; exact S.nd.sublist (List.take_sublist _ _)
  refine ⟨u,rv,?_⟩
  rcases S.par y (List.mem_of_getElem? hp) with k | k
  ·exact .inl ⟨k,zdw ndP hp hu k⟩
  ·obtain ⟨c,e⟩:=zd3 (n:=s.heap.objs.size + 1) k
   refine .inr ⟨.inl k,c,e,?_⟩
   have q:=x.cell y c e
   rw [zdx ndP hp hu (by show scope.names.lookup y ≠ _; rw [k]; decide)] at q
   exact q
 ·exact e0.hok.fresh (Nat.le_of_lt (x.above y c (PySem.mem_of_lookup h)))
 ·unfold start
  show _ = N.length
  rw [List.length_append,List.length_map,List.length_replicate]
  omega
theorem yhw {CX : CXT} {P : Program} {w : World} {K : PySem.W.Frag} {mg : Str -> Option Value} {base : Heap} {k : Nat} {f : Addr} {name qual : Str} {params : Arguments} {body : List Stmt} {scope : Scope} {dV kV doc pm cdv ct oc : Value} {an od : Option Addr}
  {osl : Array (Option Value)} {N ps : List Str} {sp : Sp} (lk : K.lookup f = some ⟨oc,od,.func (PySem.W.fnOf name qual params body scope dV kV doc pm an cdv ct),osl⟩) (hcd : PySem.W.codeIn K cdv qual = true) (S : FnScope N ps scope)
  (len : ∀ vs H Q E,sp vs H Q E -> vs.length = ps.length)
  (hbody : ∀ (A : Around) (outer : List Env) (s : Shared) (H : Hp) (vs : List V) (Q : VK) (E : XK),Room k (A.deeper (envOfC qual scope s.heap.objs.size f cdv)) -> sp vs H Q E ->
   ∃ t,PSs (cxOf CX P w K mg base N qual scope f cdv A outer s H E) body t /\ t { nx:=fun _ H' => Q .non H',rt:=Q } (start N vs) H) :
  FnOk P w K mg base CX (k + 1) f (PySem.W.fnOf name qual params body scope dV kV doc pm an cdv ct) ps sp:=by
 refine ⟨len,fun A outer s H args us vs Q E hr e0 hb r hsp=>?_⟩
 have hl:=len _ _ _ _ hsp
 have KX : K.In s.heap:=e0.mod.kin.keeps fun b o e=>(e0.bs b o e).1
 have lim : s.heap.NoLimit:=e0.mod.nolimit.keeps fun b o e=>(e0.bs b o e).1
 have hkind : ∀ y ∈ ps.zip us,scope.names.lookup y.1 = some .local \/ (scope.names.lookup y.1 = some .cell /\ ((cellsFrom (s.heap.objs.size + 1) scope.names []).lookup y.1).isSome = true):=fun ⟨n,v⟩ hy=>by
  rcases S.par n (List.of_mem_zip hy).1 with q | q
  ·exact .inl q
  ·exact .inr ⟨q,PySem.W.cellsFrom_some _ _ _ (.inl q)⟩
 refine codeAny_call_function hr.depth (KX _ _ lk) rfl S.co S.gen rfl (PySem.W.codeRec_of KX hcd) (hb _ _ _ _ ?_)
 refine wpAny_newFunctionEnv_cells S.kind hkind fun env he s1 x=>?_
 subst he
 refine ⟨lim.keeps x.toInCall.keep,codeAny_func ?_⟩
 obtain ⟨t,ht,hq⟩:=hbody A outer s H vs Q E (hr.deeper _) hsp
 have I : Inv (cxOf CX P w K mg base N qual scope f cdv A outer s H E) [] (start N vs) H s1:=zgG S hr.hd e0 hl r x
 refine wpAny_mono (ht [] s1 (start N vs) H _ I hq) (fun fl s' hs=>?_) fun e s' hs=>hs
 have fin : ∀ {σ' : St} {H' : Hp} {v : V} {u : Value},Inv (cxOf CX P w K mg base N qual scope f cdv A outer s H E) [] σ' H' s' -> RelV v u -> Q v H' -> CE outer P w H s Q u s' :=
  fun {σ' H' v u} J rv q=>⟨v,H',J.os,J.bare,J.base,J.hok,rv,q⟩
 cases fl with
 | ret u =>
  obtain ⟨v,σ',H',J,rv,q⟩:=hs
  exact fin J rv q
 | next =>
  obtain ⟨σ',H',J,q⟩:=hs
  exact fin (v:=V.non) (u:=Value.none) J rfl q
 | brk =>
  obtain ⟨_,_,_,q⟩:=hs
  exact False.elim q
 | cont =>
  obtain ⟨_,_,_,q⟩:=hs
  exact False.elim q
end L2
namespace L2
open PySem PySem.Spec PyProof.Rows
section
variable {X : Cx} {x : Str} {p pos : Pos} {e : Expr} {es : List Expr} {t : TA} {id T : String} {r : List V -> Hp -> VK -> Prop}
def tCB (r : List V -> Hp -> VK -> Prop) (t : TA) : TE:=fun σ H Q=>t σ H fun vs H1=>r vs H1 Q
theorem zd4 (hc : CallR X (.builtin id) r) (hg : Gl X x) (hm : X.mg x = none) (hv : bootBuiltins x = some (.builtin id)) (ha : PA X (e :: es) t) (hn : x ≠ "__name__" := by decide) (hdb : (x == ("__debug__" : Str)) = false:=by decide)
  (he : starEach (e :: es) X.env = (false,eval e X.env) :: starEach es X.env:=by rfl) (hpl : (backTo pos (starEach es X.env)).any (·.1) = false:=by rfl) : PE X (.Call (.Name x p) (e :: es) [] pos) (tCB r t):=by
 intro pins s σ H Q I h
 refine wpAny_Call_Name_kw (yck I hg hm hv ?_ hn hdb)
 exact PyProof.Rows.callWith_builtin1 (thn (ha pos pins s σ H _ I h) fun us s1 ⟨vs,H1,I1,r1,q1⟩=>hc pins s1 σ H1 vs us Q I1 r1 q1) he hpl
theorem zgH (hc : CallR X (.type T) r) (hg : Gl X x) (hm : X.mg x = none) (hv : bootBuiltins x = some (.type T)) (ha : PA X (e :: es) t) (hn : x ≠ "__name__" := by decide) (hdb : (x == ("__debug__" : Str)) = false:=by decide)
  (he : starEach (e :: es) X.env = (false,eval e X.env) :: starEach es X.env:=by rfl) (hpl : (backTo pos (starEach es X.env)).any (·.1) = false:=by rfl) : PE X (.Call (.Name x p) (e :: es) [] pos) (tCB r t):=by
 intro pins s σ H Q I h
 refine wpAny_Call_Name_kw (yck I hg hm hv ?_ hn hdb)
 exact PyProof.Rows.callWith_type1 (thn (ha pos pins s σ H _ I h) fun us s1 ⟨vs,H1,I1,r1,q1⟩=>hc pins s1 σ H1 vs us Q I1 r1 q1) he hpl
end
end L2
namespace HT
open PySem PyProof.Rows
section
open PySem.SeqAt
open PySem.AutoSeq1 (wpAny_loadPart')
open PySem.MeetsSeq PySem.MeetsSeq2 PySem.MeetsSeq3
end
section
variable {prog : Program} {w : World} {A : Around} {E : Value -> Shared -> Prop} {s : Shared}
theorem cat_tup {t b : Addr} {vs ws : List Value} {Q : Value -> Shared -> Prop} (ht : IsTup s.heap t vs.toArray) (hb : IsTup s.heap b ws.toArray) (hv : vs ≠ [])
  (h1 : ws = [] -> Q (.ref t) s) (h2 : ws ≠ [] -> Q (.ref s.heap.objs.size) { s with heap:=s.heap.push { cls:=.type "tuple",data:=.seq (vs++ws).toArray } })
  (hsz : vs.length + ws.length <= sizeLine) : wpAny (model prog w) A (binaryOp .Add (.ref t) (.ref b)) Q E s:=by
 obtain ⟨⟨cls,dd,data,sl⟩,ho,hc,n,hd⟩:=id ht
 obtain ⟨⟨cls2,dd2,data2,sl2⟩,ho2,hc2,n2,hd2⟩:=id hb
 simp only at hc hd hc2 hd2
 subst hc hd hc2 hd2
 have e : vs.toArray++ws.toArray = (vs++ws).toArray:=by simp
 by_cases hw : ws = []
 ·exact concat_meets ⟨_,ho,rfl⟩ ⟨_,ho2,rfl⟩ noFill_tuple_add seq_tuple_add PySem.F.slot_tuple_add PySem.F.entry_tuple_add (PySem.F.args_tuple_add_2 _ _)
   (tuple_addW1 t b vs.toArray ws.toArray n n2 dd dd2 sl sl2 (by simpa using hv) (by simp [hw])) ⟨ho,ho2,h1 hw⟩
 ·refine concat_meets ⟨_,ho,rfl⟩ ⟨_,ho2,rfl⟩ noFill_tuple_add seq_tuple_add PySem.F.slot_tuple_add PySem.F.entry_tuple_add (PySem.F.args_tuple_add_2 _ _)
   (tuple_addW2 t b vs.toArray ws.toArray n n2 dd dd2 sl sl2 (by simpa using hv) (by simpa using hw) (by rw [List.size_toArray,List.size_toArray]; exact hsz)) ⟨ho,ho2,?_⟩
  rw [e]
  exact h2 hw
def sIx (n d : Nat) : Option Int -> Nat
 | none=>d
 | some v=>if v < 0 then (v + (n : Int)).toNat else min v.toNat n
theorem sIx_none (n d : Nat) : sIx n d none = d:=rfl
theorem sIx_nat (n d k : Nat) : sIx n d (some (k : Int)) = min k n:=by
 show (if (k : Int) < 0 then ((k : Int) + (n : Int)).toNat else min (k : Int).toNat n) = min k n
 rw [if_neg (by omega),Int.toNat_natCast]
theorem sIx_le (n d : Nat) (hd : d <= n) (o : Option Int) : sIx n d o <= n:=by
 cases o with
 | none=>exact hd
 | some v =>
  show (if v < 0 then (v + (n : Int)).toNat else min v.toNat n) <= n
  by_cases hv : v < 0
  ·rw [if_pos hv]; omega
  ·rw [if_neg hv]; exact Nat.min_le_right _ _
theorem zfi (v : Int) (n d : Nat) : (if v < 0 then max (v + (n : Int)) 0 else min v (n : Int)) = ((sIx n d (some v) : Nat) : Int):=by
 show (if v < 0 then max (v + (n : Int)) 0 else min v (n : Int)) = (((if v < 0 then (v + (n : Int)).toNat else min v.toNat n) : Nat) : Int)
 by_cases hv : v < 0
 ·simp only [if_pos hv]; omega
 ·simp only [if_neg hv]; omega
theorem zf1 (lo hi : Option Int) (n : Nat) : Builtin.Slice.sliceAdjust lo hi 1 (n : Int) = (((sIx n 0 lo : Nat) : Int),((sIx n n hi : Nat) : Int)):=by
 have h1 : ¬ ((1 : Int) < 0):=by omega
 unfold Builtin.Slice.sliceAdjust
 simp only [h1,if_false]
 refine Prod.ext ?_ ?_
 ·cases lo with
  | none=>rfl
  | some v=>exact zfi v n 0
 ·cases hi with
  | none=>rfl
  | some v=>exact zfi v n n
theorem zf2 (i j : Nat) : Builtin.Slice.slicePlaces (i : Int) (j : Int) 1 = j - i:=by
 unfold Builtin.Slice.slicePlaces
 have h1 : (1 : Int) > 0:=by omega
 simp only [h1,if_true,Int.ediv_one]
 split<;>omega
theorem zcQ {v : Value} {o : Option Int} {Q : Option Int -> Shared -> Prop} (p : IsPart v o) (h : Q o s) : wpAny (model prog w) A (Builtin.Slice.slicePartIndex v) Q E s:=by
 cases p with
 | none=>exact slicePart_none h
 | int i t=>exact slicePart_int h
theorem zcu {sl : Addr} {vl vu : Value} {lo hi : Option Int} {n : Nat} {Q : Int × Int × Nat -> Shared -> Prop} (hs : s.heap.IsSliceOf sl vl vu .none) (pl : IsPart vl lo) (pu : IsPart vu hi)
  (h : Q (((sIx n 0 lo : Nat) : Int),1,sIx n n hi - sIx n 0 lo) s) : wpAny (model prog w) A (Builtin.Slice.sliceApplied (.ref sl) (pure (n : Int))) Q E s:=by
 obtain ⟨os,hos,hcs,hds⟩:=id hs
 unfold Builtin.Slice.sliceApplied Builtin.Slice.sliceFields
 refine wpAny_bind (wpAny_bind (wpAny_field hos hds (x:=vl) rfl (wpAny_bind (wpAny_field hos hds (x:=vu) rfl (wpAny_bind (wpAny_field hos hds (x:=.none) rfl (wpAny_pure ?_)))))))
 refine wpAny_bind (slicePart_none ?_)
 show wpAny _ _ (if ((1 : Int) == 0) = true then _ else _) _ _ s
 rw [if_neg (by decide)]
 refine wpAny_bind (zcQ pl (wpAny_bind (zcQ pu (wpAny_bind (wpAny_pure ?_)))))
 show wpAny _ _ (match Builtin.Slice.sliceAdjust lo hi 1 (n : Int) with | (lo,hi)=>pure (lo,(1 : Int),Builtin.Slice.slicePlaces lo hi 1)) _ _ s
 rw [zf1 lo hi n]
 show wpAny _ _ (pure (((sIx n 0 lo : Nat) : Int),(1 : Int),Builtin.Slice.slicePlaces ((sIx n 0 lo : Nat) : Int) ((sIx n n hi : Nat) : Int) 1)) _ _ s
 rw [zf2]
 exact wpAny_pure h
theorem zhD (xs : Array Value) (i k : Nat) : ((List.range k).filterMap fun (m : Nat)=>xs[((i : Int) + (m : Int) * 1).toNat]?).toArray = ((xs.toList.drop i).take k).toArray:=by
 have e : (fun (m : Nat)=>xs[((i : Int) + (m : Int) * 1).toNat]?) = fun m=>xs[i + m]? := by
  funext m
  have : ((i : Int) + (m : Int) * 1).toNat = i + m:=by omega
  rw [this]
 rw [e]
 have:=pick_run xs i k
 rw [List.filterMap_map] at this
 have e2 : ((fun x=>xs[x]?) ∘ fun x=>i + x) = fun m=>xs[i + m]? := rfl
 rw [e2] at this
 rw [this]
theorem getItem_tuple_cut {t sl : Addr} {items : Array Value} {vl vu : Value} {lo hi : Option Int} {Q : Value -> Shared -> Prop} (ht : IsTup s.heap t items) (hs : s.heap.IsSliceOf sl vl vu .none) (pl : IsPart vl lo) (pu : IsPart vu hi)
  (hw : ¬ (sIx items.size 0 lo = 0 /\ sIx items.size items.size hi = items.size))
  (h : Q (.ref s.heap.objs.size) { s with heap:=s.heap.push { cls:=.type "tuple",data:=.seq ((items.toList.drop (sIx items.size 0 lo)).take (sIx items.size items.size hi - sIx items.size 0 lo)).toArray } })
  (hsz : items.size <= sizeLine) : wpAny (model prog w) A (getItem (.ref t) (.ref sl)) Q E s:=by
 have htake : sizeOk (.seq ((items.toList.drop (sIx items.size 0 lo)).take (sIx items.size items.size hi - sIx items.size 0 lo)).toArray):=by
  show ((items.toList.drop (sIx items.size 0 lo)).take (sIx items.size items.size hi - sIx items.size 0 lo)).toArray.size <= sizeLine
  rw [List.size_toArray,List.length_take,List.length_drop,Array.length_toList]
  omega
 have hj : sIx items.size items.size hi <= items.size:=sIx_le _ _ (Nat.le_refl _) hi
 obtain ⟨os,hos,hcs,hds⟩:=id hs
 have hTs : s.TypeIs (.ref sl) "slice" := ⟨os,hos,hcs⟩
 unfold getItem
 try with_reducible refine wpAny_holding ?_
 first | refine wpAny_bind (wpAny_pure ?_) | skip
 refine wpAny_bind (wpAny_sequenceKey ht.typeIs (by decide) ?_)
 refine wpAny_bind (wpAny_callSpecial?_slot (name:=Str.ofString "__getitem__") ht.typeIs PyProof.Rows.slot_tuple_getitem
  (wpAny_call_entry PyProof.Rows.slot_tuple_getitem ht.typeIs entry_tuple_getitem ?_ (args_tuple_getitem _ _)))
 show wpAny _ _ (Builtin.Tuple.tupleItemsOf (.ref t) >>= _) _ _ s
 refine wpAny_bind (tupleItemsOf_ ht ?_)
 refine wpAny_bind (wpAny_typeOf hTs ?_)
 rw [if_pos (by decide)]
 refine wpAny_bind (zcu hs pl pu ?_)
 have hno : ¬ ((((sIx items.size 0 lo : Nat) : Int) == 0 && (1 : Int) == 1 && (sIx items.size items.size hi - sIx items.size 0 lo) == items.size) = true):=by
  intro q
  rw [Bool.and_eq_true,Bool.and_eq_true] at q
  have q1 : ((sIx items.size 0 lo : Nat) : Int) = 0:=eq_of_beq q.1.1
  have q2 : sIx items.size items.size hi - sIx items.size 0 lo = items.size:=eq_of_beq q.2
  exact hw ⟨by omega,by omega⟩
 show wpAny _ _ (if (((sIx items.size 0 lo : Nat) : Int) == 0 && (1 : Int) == 1 && (sIx items.size items.size hi - sIx items.size 0 lo) == items.size) = true then _ else _) _ _ s
 rw [if_neg hno,zhD]
 first
  | exact wpAny_bind (m:=Builtin.Tuple.tupleExact _) (wpAny_newObj_type (wpAny_pure ⟨_,rfl,wpAny_pure h⟩) htake)
  | exact wpAny_bind (m:=Builtin.Tuple.tupleExact _) (wpAny_newObj_type (wpAny_bind (wpAny_pure (wpAny_pure ⟨_,rfl,wpAny_pure h⟩))) htake)
  | exact wpAny_bind (wpAny_bind (m:=Builtin.Tuple.tupleExact _) (wpAny_newObj_type (wpAny_pure (wpAny_pure ⟨_,rfl,wpAny_pure h⟩)) htake))
  | exact wpAny_bind (wpAny_bind (m:=Builtin.Tuple.tupleExact _) (wpAny_newObj_type (wpAny_pure ⟨_,rfl,wpAny_pure h⟩) htake))
end
end HT
namespace L2
open PySem PySem.Spec PyProof.Rows
abbrev TO:=St -> Hp -> (Option Int -> Hp -> Prop) -> Prop
def PO (X : Cx) (e : Option Expr) (t : TO) : Prop :=
 ∀ (pins : List (Addr × Obj)) (s : Shared) (σ : St) (H : Hp) (Q : Option Int -> Hp -> Prop),Inv X pins σ H s -> t σ H Q ->
  wpAny (model X.prog X.w) X.A (evalPart e X.env) (fun u s' => ∃ o H',Inv X pins σ H' s' /\ IsPart u o /\ Q o H') X.xe s
def yeZ : TO:=fun _ H Q=>Q none H
def yfM (t : TE) : TO:=fun σ H Q=>t σ H fun x H1=>∃ i,x = .int i /\ Q (some i) H1
section
variable {X : Cx} {e : Expr} {te : TE} {lo hi : Option Expr} {tl th : TO} {pos p2 : Pos}
theorem ziF : PO X none yeZ:=by
 intro pins s σ H Q I h
 rw [evalPart_none]
 exact wpAny_pure ⟨none,H,I,.none,h⟩
theorem ziG (h : PE X e te) : PO X (some e) (yfM te):=by
 intro pins s σ H Q I hw
 rw [evalPart_some]
 refine thn (h pins s σ H _ I hw) fun u s1 ⟨x,H1,I1,r1,q1⟩=>?_
 obtain ⟨i,rfl,q⟩:=q1
 obtain ⟨t,rfl⟩:=r1
 exact ⟨some i,H1,I1,.int i t,q⟩
def SlR (X : Cx) (r : V -> Option Int -> Option Int -> Hp -> VK -> Prop) : Prop :=
 ∀ (pins : List (Addr × Obj)) (s : Shared) (σ : St) (H : Hp) (x : V) (v vl vu : Value) (lo hi : Option Int) (sl : Addr) (Q : VK),Inv X pins σ H s -> RelV x v -> s.heap.IsSliceOf sl vl vu .none -> IsPart vl lo -> IsPart vu hi -> r x lo hi H Q ->
  ∃ T id,typeLookup (.type T) "__getitem__" = pure (some (.builtin id)) /\ s.TypeIs v T /\ wpAny (model X.prog X.w) X.A (getItem v (.ref sl)) (EP X pins σ Q) X.xe s
theorem SlR.or {r r' : V -> Option Int -> Option Int -> Hp -> VK -> Prop} (h : SlR X r) (h' : SlR X r') : SlR X (fun x lo hi H Q=>r x lo hi H Q \/ r' x lo hi H Q):=by
 intro pins s σ H x v vl vu lo hi sl Q I rx hs pl pu q
 rcases q with q | q
 ·exact h pins s σ H x v vl vu lo hi sl Q I rx hs pl pu q
 ·exact h' pins s σ H x v vl vu lo hi sl Q I rx hs pl pu q
def tSl (r : V -> Option Int -> Option Int -> Hp -> VK -> Prop) (te : TE) (tl th : TO) : TE:=fun σ H Q=>te σ H fun x H1=>tl σ H1 fun l H2=>th σ H2 fun u H3=>r x l u H3 Q
theorem zhE {r : V -> Option Int -> Option Int -> Hp -> VK -> Prop} (hr : SlR X r) (he : PE X e te) (hl : PO X lo tl) (hu : PO X hi th) : PE X (.Subscript e (.Slice lo hi none p2) pos) (tSl r te tl th):=by
 intro pins s σ H Q I h
 refine Subscript_ (thn (he pins s σ H _ I h) fun v s1 ⟨x,H1,I1,r1,q1⟩=>?_)
 refine wpAny_Slice (thn (hl pins s1 σ H1 _ I1 q1) fun vl s2 ⟨l,H2,I2,pl,q2⟩=>thn (hu pins s2 σ H2 _ I2 q2) fun vu s3 ⟨u,H3,I3,pu,q3⟩=>?_)
 rw [evalPart_none]
 refine wpAny_pure ?_
 have I4 : Inv X pins σ H3 { s3 with heap:=s3.heap.push { cls:=.type "slice",data:=.fields #[vl,vu,.none] } }:=I3.kept (t' := s3.toks) fun b ob q=>Heap.get?_push_of_some _ q
 obtain ⟨T,id,hT,ht,hg⟩:=hr pins { s3 with heap:=s3.heap.push { cls:=.type "slice",data:=.fields #[vl,vu,.none] } } σ H3 x v vl vu l u s3.heap.objs.size Q I4 r1 (Heap.IsSliceOf.new ..) pl pu q3
 show wpAny (model X.prog X.w) X.A (subscriptTail e (.Slice lo hi none p2) v (.ref s3.heap.objs.size)) (EP X pins σ Q) X.xe { s3 with heap:=s3.heap.push { cls:=.type "slice",data:=.fields #[vl,vu,.none] } }
 exact tail_any (ops:=[.ref s3.heap.objs.size,v]) ht hT hg (by with_unfolding_all rfl)
def cutV (xs : List V) (lo hi : Option Int) : List V:=(xs.drop (HT.sIx xs.length 0 lo)).take (HT.sIx xs.length xs.length hi - HT.sIx xs.length 0 lo)
theorem zcj (xs : List V) (lo hi : Option Int) : (cutV xs lo hi).length <= xs.length:=by
 unfold cutV
 rw [List.length_take,List.length_drop]
 omega
def rSlT (K : PySem.W.Frag) : V -> Option Int -> Option Int -> Hp -> VK -> Prop:=fun x lo hi H Q=>∃ a xs,x = .ref a /\ SqT K H a xs /\
 ¬ (HT.sIx xs.length 0 lo = 0 /\ HT.sIx xs.length xs.length hi = xs.length) /\ ∀ p,H p = none -> Q (.ref p) (upd H p (.tup (cutV xs lo hi)))
theorem sl_tup : SlR X (rSlT X.K):=by
 intro pins s σ H x v vl vu lo hi sl Q I rx hs pl pu h
 obtain ⟨a,xs,rfl,hx,hw,q⟩:=h
 cases rx
 obtain ⟨its,r,ht,hz⟩:=I.tuple hx
 have hlen : its.toArray.size = xs.length:=by rw [List.size_toArray]; exact r.length.symm
 refine ⟨"tuple",_,PyProof.Rows.slot_tuple_getitem.lookup,ht.typeIs,?_⟩
 refine HT.getItem_tuple_cut ht hs pl pu (by rw [hlen]; exact hw) ?_ (by rw [hlen]; exact hz)
 rw [hlen]
 refine ⟨.ref s.heap.objs.size,_,I.laid (t' := s.toks) (o:=.tup (cutV xs lo hi)) (fun b ob q=>Heap.get?_push_of_some _ q) (Nat.le_refl _) ?_,rfl,q _ (I.hok.fresh (Nat.le_refl _))⟩
 exact ⟨Nat.le_trans (zcj xs lo hi) hz,_,(r.drop (HT.sIx xs.length 0 lo)).take (HT.sIx xs.length xs.length hi - HT.sIx xs.length 0 lo),IsTup.new _ _⟩
def yhx (K : PySem.W.Frag) : R2:=fun x y H Q=>∃ a b xs ys,x = .ref a /\ y = .ref b /\ SqT K H a xs /\ SqT K H b ys /\ xs ≠ [] /\ xs.length + ys.length <= sizeLine /\
 (ys = [] -> Q (.ref a) H) /\ (ys ≠ [] -> ∀ p,H p = none -> Q (.ref p) (upd H p (.tup (xs++ys))))
theorem Vals.nil_iff {xs : List V} {us : List Value} (r : Vals xs us) : us = [] ↔ xs = []:=by
 cases r with
 | nil=>simp
 | cons _ _=>simp
theorem ziH : OpR X (binaryOp .Add) (yhx X.K):=by
 intro pins s σ H x y v u Q I rx ry h
 obtain ⟨a,b,xs,ys,rfl,rfl,ha,hb,hx,hz,q1,q2⟩:=h
 cases rx
 cases ry
 obtain ⟨its,r1,p1,_⟩:=I.tuple ha
 obtain ⟨its2,r2,p2,_⟩:=I.tuple hb
 refine HT.cat_tup p1 p2 (fun z=>hx (r1.nil_iff.mp z)) (fun z=>⟨.ref a,H,I,rfl,q1 (r2.nil_iff.mp z)⟩) (fun z=>?_) (by rw [<- r1.length,<- r2.length]; exact hz)
 refine ⟨.ref s.heap.objs.size,_,I.laid (t' := s.toks) (o:=.tup (xs++ys)) (fun b ob q=>Heap.get?_push_of_some _ q) (Nat.le_refl _) ?_,rfl,q2 (fun w=>z (r2.nil_iff.mpr w)) _ (I.hok.fresh (Nat.le_refl _))⟩
 exact ⟨by rw [List.length_append]; exact hz,_,r1.append r2,IsTup.new _ _⟩
end
end L2
namespace L2
open PySem PySem.Spec PyProof.Rows
def ixN (n : Nat) (i : Int) : Option Nat:=if 0 <= i then (if i < n then some i.toNat else none) else if -(n : Int) <= i then some (i + n).toNat else none
def atI {α : Type} (xs : List α) (i : Int) : Option α:=(ixN xs.length i).bind fun j=>xs[j]?
theorem zfj {n : Nat} {i : Int} {j : Nat} (h : ixN n i = some j) : seqIndex? i n = some j /\ j < n /\ -(n : Int) <= i /\ i < n:=by
 unfold ixN at h
 by_cases h0 : 0 <= i
 ·rw [if_pos h0] at h
  by_cases h1 : i < n
  ·rw [if_pos h1] at h
   have e : i.toNat = j:=Option.some.inj h
   exact ⟨by rw [seqIndex_of h0 h1,e],by omega,by omega,h1⟩
  ·rw [if_neg h1] at h; cases h
 ·rw [if_neg h0] at h
  by_cases h1 : -(n : Int) <= i
  ·rw [if_pos h1] at h
   have e : (i + n).toNat = j:=Option.some.inj h
   exact ⟨by rw [seqIndex_neg (by omega) h1,e],by omega,h1,by omega⟩
  ·rw [if_neg h1] at h; cases h
theorem zb2 {α : Type} {xs : List α} {i : Int} {v : α} (h : atI xs i = some v) : ∃ j,seqIndex? i xs.length = some j /\ xs[j]? = some v /\ j < xs.length /\ -(xs.length : Int) <= i /\ i < xs.length:=by
 unfold atI at h
 cases e : ixN xs.length i with
 | none=>rw [e] at h; cases h
 | some j =>
  rw [e] at h
  obtain ⟨h1,h2,h3,h4⟩:=zfj e
  exact ⟨j,h1,h,h2,h3,h4⟩
theorem zc6 {α : Type} {xs : List α} {j : Nat} {v : α} (h : xs[j]? = some v) : atI xs (j : Int) = some v:=by
 have hj : j < xs.length:=(List.getElem?_eq_some_iff.mp h).1
 have e : ixN xs.length (j : Int) = some j:=by
  unfold ixN
  rw [if_pos (by omega),if_pos (by omega)]; simp
 unfold atI; rw [e]; exact h
def ye0 (b : Expr) : Prop:=∀ o i,subscripted b false o i = operate [o,i] (getItem o i)
def IxR (X : Cx) (r : R2) : Prop :=
 ∀ (value slice : Expr) (pins : List (Addr × Obj)) (s : Shared) (σ : St) (H : Hp) (x y : V) (v u : Value) (Q : VK),Inv X pins σ H s -> RelV x v -> RelV y u -> r x y H Q ->
  subscripted slice false v u = operate [v,u] (getItem v u) -> wpAny (model X.prog X.w) X.A (subscriptTail value slice v u) (EP X pins σ Q) X.xe s
def MtR (X : Cx) (id : String) (r : V -> List V -> Hp -> VK -> Prop) : Prop :=
 ∀ (pins : List (Addr × Obj)) (s : Shared) (σ : St) (H : Hp) (x : V) (xs : List V) (v : Value) (us : List Value) (Q : VK),Inv X pins σ H s -> RelV x v -> Vals xs us -> r x xs H Q ->
  wpAny (model X.prog X.w) X.A (call (.builtin id) (v :: us)) (EP X pins σ Q) X.xe s
section
variable {X : Cx} {a b : Expr} {ta tb : TE} {pos : Pos}
theorem IxR.or {r r' : R2} (h : IxR X r) (h' : IxR X r') : IxR X (fun x y H Q=>r x y H Q \/ r' x y H Q):=by
 intro value slice pins s σ H x y v u Q I rx ry q hs
 rcases q with q | q
 ·exact h value slice pins s σ H x y v u Q I rx ry q hs
 ·exact h' value slice pins s σ H x y v u Q I rx ry q hs
theorem yhy {r : R2} (hr : IxR X r) (ha : PE X a ta) (hb : PE X b tb) (hs : ye0 b) : PE X (.Subscript a b pos) (tOp r ta tb):=by
 intro pins s σ H Q I h
 exact Subscript_ (binT ha hb I h fun v u s2 x y H2 I2 rx ry q=>hr a b pins s2 σ H2 x y v u Q I2 rx ry q (hs _ _))
def rIxL (K : PySem.W.Frag) : R2:=fun x y H Q=>∃ p xs i v,x = .ref p /\ y = .int i /\ SqL K H p xs /\ atI xs i = some v /\ Q v H
def rIxT (K : PySem.W.Frag) : R2:=fun x y H Q=>∃ p xs i v,x = .ref p /\ y = .int i /\ SqT K H p xs /\ atI xs i = some v /\ Q v H
def rIxS : R2:=fun x y H Q=>∃ z i c,x = .str z /\ y = .int i /\ z.length <= sizeLine /\ atI z.cps.toList i = some c /\ Q (.str ⟨#[c]⟩) H
theorem ziI : IxR X (rIxL X.K):=by
 intro value slice pins s σ H x y v u Q I rx ry h hs
 obtain ⟨p,xs,i,z,rfl,rfl,hq,he,q⟩:=h
 cases rx
 obtain ⟨t,rfl⟩:=ry
 obtain ⟨its,r,pl,hz⟩:=I.list hq
 obtain ⟨j,h1,h2,h3,h4,h5⟩:=zb2 he
 obtain ⟨w,ew,rw'⟩:=r.get h2
 have hl:=r.length
 have hn:=ycW
 have fin : EP X pins σ Q w s:=⟨z,H,I,rw',q⟩
 by_cases h0 : 0 <= i
 ·have hj : i.toNat = j:=by
   rw [seqIndex_of h0 h5] at h1
   exact Option.some.inj h1
  exact item_listR pl.isList h0 (by omega) (by rw [hj]; simpa using ew) fin hs
 ·have hj : (i + (its.toArray.size : Int)).toNat = j:=by
   rw [seqIndex_neg (by omega) h4] at h1
   rw [List.size_toArray,<- hl]
   exact Option.some.inj h1
  exact subscriptTail_builtinR (x:=w) pl.isList.typeIs slot_list_getitem.lookup
   (wpAny_getItem_list_neg (Q:=fun r s' => r = w /\ EP X pins σ Q r s') pl.isList (by omega) (by rw [List.size_toArray]<;>omega) (by omega) (by rw [hj]; simpa using ew) ⟨rfl,fin⟩) hs
theorem ix_tup : IxR X (rIxT X.K):=by
 intro value slice pins s σ H x y v u Q I rx ry h hs
 obtain ⟨p,xs,i,z,rfl,rfl,hq,he,q⟩:=h
 cases rx
 obtain ⟨t,rfl⟩:=ry
 obtain ⟨its,r,pl,hz⟩:=I.tuple hq
 obtain ⟨j,h1,h2,h3,h4,h5⟩:=zb2 he
 obtain ⟨w,ew,rw'⟩:=r.get h2
 have hl:=r.length
 have hn:=ycW
 have fin : EP X pins σ Q w s:=⟨z,H,I,rw',q⟩
 exact subscriptTail_builtinR (x:=w) pl.typeIs slot_tuple_getitem.lookup
  (getItem_tuple (j:=j) (Q:=fun r s' => r = w /\ EP X pins σ Q r s') pl (by omega) (by omega) (by rw [List.size_toArray,<- hl]; exact h1) (by simpa using ew) ⟨rfl,fin⟩) hs
theorem ygr : IxR X rIxS:=by
 intro value slice pins s σ H x y v u Q I rx ry h hs
 obtain ⟨z,i,c,rfl,rfl,hz,he,q⟩:=h
 obtain ⟨t,rfl⟩:=rx
 obtain ⟨t',rfl⟩:=ry
 obtain ⟨j,h1,h2,h3,h4,h5⟩:=zb2 he
 have hl : z.cps.toList.length = z.length:=by simp [Str.length]
 rw [hl] at h1 h4 h5
 have hn:=ycW
 exact tail_any (typeIs_str s z t) slot_str_getitem.lookup (getItem_str (c:=c) (by
  have e1 : decide (i < -(2 ^ 63 : Int)) = false:=decide_eq_false (by omega)
  have e2 : decide (i ≥ 2 ^ 63) = false:=decide_eq_false (by omega)
  rw [e1,e2,Bool.or_false]) (by rw [h1]; simpa using h2) ⟨.str ⟨#[c]⟩,H,I.tok _,⟨_,rfl⟩,q⟩) hs
def rIx (K : PySem.W.Frag) : R2:=fun x y H Q=>rIxL K x y H Q \/ rIxT K x y H Q \/ rIxS x y H Q
theorem ygs : IxR X (rIx X.K):=ziI.or (ix_tup.or ygr)
theorem zf3 (its : List Value) (n j : Nat) (u : Value) : Obj.mapSeq (·.setIfInBounds j u) { cls:=.type "list",data:=.seq its.toArray n } = { cls:=.type "list",data:=.seq (its.set j u).toArray n }:=by
 simp [Obj.mapSeq]
theorem Inv.lst {pins : List (Addr × Obj)} {σ : St} {H : Hp} {s : Shared} {p : Addr} {xs : List V} (I : Inv X pins σ H s) (h : H p = some (.lst xs)) :
  ∃ (its : List Value) (n : Nat),Vals xs its /\ s.heap.get? p = some { cls:=.type "list",data:=.seq its.toArray n } /\ xs.length <= sizeLine:=by
 obtain ⟨z,its,n,r,e⟩:=I.hok p _ h
 exact ⟨its,n,r,e,z⟩
theorem Inv.lstUpd {pins : List (Addr × Obj)} {σ : St} {H : Hp} {s : Shared} {p : Addr} {xs ys : List V} {its its' : List Value} {n n' : Nat} {f : Obj -> Obj} (I : Inv X pins σ H s) (h : H p = some (.lst xs))
  (ho : s.heap.get? p = some { cls:=.type "list",data:=.seq its.toArray n }) (hf : f { cls:=.type "list",data:=.seq its.toArray n } = { cls:=.type "list",data:=.seq its'.toArray n' }) (r : Vals ys its') (hz : ys.length <= sizeLine) (t : Nat) :
  Inv X pins σ (upd H p (.lst ys)) { s with heap:=s.heap.update p f,toks:=t }:=by
 have e : (s.heap.update p f).get? p = some { cls:=.type "list",data:=.seq its'.toArray n' }:=by
  rw [Heap.get?_update_self f ho (by rw [hf]<;>rfl),hf]
 refine I.write (x:=p) (e:=p) (by rw [h]; trivial) (.inl rfl) (fun b u hb q=>(Heap.get?_update_other _ _ (Ne.symm hb)).trans q) ⟨_,e⟩ ?_
 exact ⟨hz,its',n',r,e⟩
def yhz : V -> V -> V -> Hp -> (Hp -> Prop) -> Prop:=fun o i v H Q=>∃ p xs k j,o = .ref p /\ i = .int k /\ H p = some (.lst xs) /\ ixN xs.length k = some j /\ Q (upd H p (.lst (xs.set j v)))
theorem zhF : PSet X yhz:=by
 intro pins s σ H o i v ov iv u Q I ro ri rv h
 obtain ⟨p,xs,k,j,rfl,rfl,hp,hj,q⟩:=h
 cases ro
 obtain ⟨t,rfl⟩:=ri
 obtain ⟨its,n,r,ho,hz⟩:=I.lst hp
 obtain ⟨h1,h2,h3,h4⟩:=zfj hj
 have hl:=r.length
 have hn:=ycW
 have I' : Inv X pins σ (upd H p (.lst (xs.set j v))) { s with heap:=s.heap.update p (Obj.mapSeq (·.setIfInBounds j u)) } :=
  I.lstUpd hp ho (zf3 its n j u) (r.set rv j) (by rw [List.length_set]; exact hz) s.toks
 by_cases h0 : 0 <= k
 ·have hk : k.toNat = j:=by
   rw [seqIndex_of h0 h4] at h1
   exact Option.some.inj h1
  exact PySem.W.ki_setAt ho h0 (by omega) (by rw [List.size_toArray,<- hl]; exact h4) (by rw [hk]; exact ⟨_,I',q⟩)
 ·have hk : (k + (its.toArray.size : Int)).toNat = j:=by
   rw [seqIndex_neg (by omega) h3] at h1
   rw [List.size_toArray,<- hl]
   exact Option.some.inj h1
  exact PySem.W.ki_setBack ho (by omega) (by rw [List.size_toArray,<- hl]; exact h3) (by omega) (by rw [hk]; exact ⟨_,I',q⟩)
theorem zd5 (lo hi : Option Int) (n : Nat) : (sliceBounds lo hi none n).1 = ((HT.sIx n 0 lo : Nat) : Int) /\ (sliceBounds lo hi none n).2.1 = ((HT.sIx n n hi : Nat) : Int) /\ (sliceBounds lo hi none n).2.2 = 1:=by
 refine ⟨?_,?_,rfl⟩
 ·cases lo with
  | none=>simp [sliceBounds,HT.sIx]
  | some i =>
   simp only [sliceBounds,HT.sIx,Option.getD_none,show (1 : Int) > 0 by decide,if_true]
   by_cases h : i < 0
   ·simp only [h,if_true]<;>omega
   ·simp only [h,if_false]<;>omega
 ·cases hi with
  | none=>simp [sliceBounds,HT.sIx]
  | some i =>
   simp only [sliceBounds,HT.sIx,Option.getD_none,show (1 : Int) > 0 by decide,if_true]
   by_cases h : i < 0
   ·simp only [h,if_true]<;>omega
   ·simp only [h,if_false]<;>omega
theorem zdV (its : List Value) (lo hi : Option Int) : slicePick its.toArray lo hi none = ((its.drop (HT.sIx its.length 0 lo)).take (HT.sIx its.length its.length hi - HT.sIx its.length 0 lo)).toArray:=by
 obtain ⟨h1,h2,h3⟩:=zd5 lo hi its.toArray.size
 unfold slicePick
 rw [h1,h2,h3]
 simp only [sliceRange_one,pick_run,List.size_toArray]<;>rfl
def rSlL (K : PySem.W.Frag) : V -> Option Int -> Option Int -> Hp -> VK -> Prop:=fun x lo hi H Q=>∃ a xs,x = .ref a /\ SqL K H a xs /\ ∀ p,H p = none -> Q (.ref p) (upd H p (.lst (cutV xs lo hi)))
theorem ziJ : SlR X (rSlL X.K):=by
 intro pins s σ H x v vl vu lo hi sl Q I rx hs pl pu h
 obtain ⟨a,xs,rfl,hx,q⟩:=h
 cases rx
 obtain ⟨its,r,ht,hz⟩:=I.list hx
 have hlen:=r.length
 refine ⟨"list",_,slot_list_getitem.lookup,ht.isList.typeIs,?_⟩
 refine wpAny_getItem_list_slice ht.isList hs pl pu .none (by simp) ?_ (by rw [List.size_toArray]<;>omega)
 rw [zdV,<- hlen]
 refine ⟨.ref s.heap.objs.size,_,I.laid (t' := s.toks) (o:=.lst (cutV xs lo hi)) (fun b ob q=>Heap.get?_push_of_some _ q) (Nat.le_refl _) ?_,rfl,q _ (I.hok.fresh (Nat.le_refl _))⟩
 exact ⟨Nat.le_trans (zcj xs lo hi) hz,_,0,(r.drop (HT.sIx xs.length 0 lo)).take (HT.sIx xs.length xs.length hi - HT.sIx xs.length 0 lo),Heap.get?_push_size _ rfl⟩
theorem zd6 : OpR X (compareOp .NotIn) (fun x y H Q=>∃ i j,x = .str i /\ y = .str j /\ Q (.bl (!(!(Builtin.Str.occurrences j i 0 j.length 1).isEmpty))) H):=by
 intro pins s σ H x y v u Q I rx ry h
 obtain ⟨i,j,rfl,rfl,q⟩:=h
 obtain ⟨t,rfl⟩:=rx
 obtain ⟨t',rfl⟩:=ry
 exact notIn_str ⟨.bl _,H,I,rfl,q⟩
theorem zd7 : CallR X (.builtin "len") (fun xs H Q=>∃ p ys,xs = [.ref p] /\ (SqL X.K H p ys \/ SqT X.K H p ys) /\ Q (.int ys.length) H):=by
 intro pins s σ H xs us Q I r h
 obtain ⟨p,ys,rfl,hq,q⟩:=h
 obtain ⟨u,rfl,rx⟩:=yb3 r
 cases rx
 have hn:=ycW
 rcases hq with hq | hq
 ·obtain ⟨its,r',pl,hz⟩:=I.list hq
  have hlen:=r'.length
  exact Calls.call_len_list pl.isList (by simp only [List.size_toArray]<;>omega) ⟨.int ys.length,H,I.tok _,⟨s.toks + 1,by rw [List.size_toArray,hlen]⟩,q⟩
 ·obtain ⟨its,r',pl,hz⟩:=I.tuple hq
  have hlen:=r'.length
  exact len_tuple pl (by simp only [List.size_toArray]<;>omega) ⟨.int ys.length,H,I.tok _,⟨s.toks + 1,by rw [List.size_toArray,hlen]⟩,q⟩
theorem zd8 : CallR X (.builtin "len") (fun xs H Q=>∃ z,xs = [.str z] /\ z.length <= sizeLine /\ Q (.int z.length) H):=by
 intro pins s σ H xs us Q I r h
 obtain ⟨z,rfl,hz,q⟩:=h
 obtain ⟨u,rfl,t,rfl⟩:=yb3 r
 have hn:=ycW
 exact len_str (by omega) ⟨.int z.length,H,I.tok _,⟨_,rfl⟩,q⟩
theorem CallR.or {f : Value} {r r' : List V -> Hp -> VK -> Prop} (h : CallR X f r) (h' : CallR X f r') : CallR X f (fun xs H Q=>r xs H Q \/ r' xs H Q):=by
 intro pins s σ H xs us Q I rs q
 rcases q with q | q
 ·exact h pins s σ H xs us Q I rs q
 ·exact h' pins s σ H xs us Q I rs q
theorem zd9 : CallR X (.type "list") (fun xs H Q=>∃ p ys,xs = [.ref p] /\ (SqL X.K H p ys \/ SqT X.K H p ys) /\ ∀ l,H l = none -> Q (.ref l) (upd H l (.lst ys))):=by
 intro pins s σ H xs us Q I r h
 obtain ⟨p,ys,rfl,hq,q⟩:=h
 obtain ⟨u,rfl,rx⟩:=yb3 r
 cases rx
 have fin : ∀ (its : List Value),Vals ys its -> ys.length <= sizeLine -> ∀ (h' : Heap) (c' : Nat),(∀ b o',s.heap.get? b = some o' -> h'.get? b = some o') ->
   h'.get? s.heap.objs.size = some { cls:=.type "list",dict:=none,data:=.seq its.toArray c',slots:=#[] } -> EP X pins σ Q (.ref s.heap.objs.size) { s with heap:=h' }:=fun its r' hz h' c' kp e =>
  ⟨.ref s.heap.objs.size,_,I.laid (t' := s.toks) kp (Nat.le_refl _) (show ObjOk X.prog X.w _ h' _ (.lst ys) from ⟨hz,its,c',r',e⟩),rfl,q _ (I.hok.fresh (Nat.le_refl _))⟩
 rcases hq with hq | hq
 ·obtain ⟨its,r',pl,hz⟩:=I.list hq
  have hlen:=r'.length
  obtain ⟨o,ho,hc,n,hd⟩:=pl.isList
  exact call_list_seq p (.inl rfl) ho hc hd (fun h' c' kp e=>fin its r' hz h' c' kp e) (by simp only [List.size_toArray]<;>omega)
 ·obtain ⟨its,r',pl,hz⟩:=I.tuple hq
  have hlen:=r'.length
  obtain ⟨o,ho,hc,n,hd⟩:=pl
  exact call_list_seq p (.inr rfl) ho hc hd (fun h' c' kp e=>fin its r' hz h' c' kp e) (by simp only [List.size_toArray]<;>omega)
def tyV (K : PySem.W.Frag) (T : String) (x : V) (H : Hp) : Prop:=match x with
 | .str _=>T = "str"
 | .int _=>T = "int"
 | .ref p=>(T = "list" /\ ∃ xs,SqL K H p xs) \/ (T = "tuple" /\ ∃ o,K.lookup p = some o /\ o.cls = .type "tuple" /\ o.dict = none) \/
   (T = "dict" /\ ((∃ kvs,H p = some (.dK kvs)) \/ ∃ kvs,H p = some (.dT kvs))) \/ (T = "set" /\ ∃ S n,H p = some (.set S n))
 | _=>False
theorem yfl {pins : List (Addr × Obj)} {σ : St} {H : Hp} {s : Shared} {T : String} {x : V} {v : Value} (I : Inv X pins σ H s) (r : RelV x v) (ty : tyV X.K T x H) :
  s.TypeIs v T /\ ∀ a,v = .ref a -> ∃ ob,s.heap.get? a = some ob /\ ob.dict = none:=by
 cases x with
 | str z =>
  obtain ⟨t,rfl⟩:=r
  cases (show T = "str" from ty)
  exact ⟨typeIs_str s z t,fun _ e=>nomatch e⟩
 | int i =>
  obtain ⟨t,rfl⟩:=r
  cases (show T = "int" from ty)
  exact ⟨typeIs_int s i t,fun _ e=>nomatch e⟩
 | ref p =>
  cases r
  rcases ty with ⟨rfl,xs,hq⟩ | ⟨rfl,o,hk,hc,hd⟩ | ⟨rfl,hk⟩ | ⟨rfl,S,n,hk⟩
  ·obtain ⟨its,_,pl,_⟩:=I.list hq
   refine ⟨pl.isList.typeIs,fun a e=>?_⟩
   cases e
   obtain ⟨o,n,e,c,hd,_⟩:=pl
   exact ⟨o,e,hd⟩
  ·refine ⟨⟨o,I.kIn p o hk,hc⟩,fun a e=>?_⟩
   cases e
   exact ⟨o,I.kIn _ o hk,hd⟩
  ·have z : ∃ o,s.heap.get? p = some o /\ o.ExactDict:=by
    rcases hk with ⟨kvs,hk⟩ | ⟨kvs,hk⟩
    ·obtain ⟨_,_,_,_,o,_,_,e,ex,_⟩:=I.hok p _ hk
     exact ⟨o,e,ex⟩
    ·obtain ⟨_,_,_,_,o,_,_,e,ex,_⟩:=I.hok p _ hk
     exact ⟨o,e,ex⟩
   obtain ⟨o,e,ex⟩:=z
   refine ⟨⟨o,e,ex.1⟩,fun a e2=>?_⟩
   cases e2
   exact ⟨o,e,ex.2.1⟩
  ·obtain ⟨o,_,_,_,e,ex,_⟩:=I.hok p _ hk
   refine ⟨⟨o,e,ex.1⟩,fun a e2=>?_⟩
   cases e2
   exact ⟨o,e,ex.2.1⟩
 | _=>exact False.elim ty
def tBM0 (K : PySem.W.Frag) (T : String) (r : V -> List V -> Hp -> VK -> Prop) (to : TE) : TE:=fun σ H Q=>to σ H fun x H1=>tyV K T x H1 /\ r x [] H1 Q
def tBM (K : PySem.W.Frag) (T : String) (r : V -> List V -> Hp -> VK -> Prop) (to : TE) (t : TA) : TE:=fun σ H Q=>to σ H fun x H1=>tyV K T x H1 /\ t σ H1 fun xs H2=>r x xs H2 Q
variable {o e : Expr} {es : List Expr} {to : TE} {t : TA} {name : Str} {apos cpos : Pos} {T id : String} {r : V -> List V -> Hp -> VK -> Prop}
theorem ygt (pa : PlainAttrs T) (slot : Slot T name id) (hty : typeOf (.builtin id) = pure (.type "method_descriptor")) (hm : MtR X id r) (ho : PE X o to)
  (hbase : attributeBase o name X.env (eval o X.env) = eval o X.env:=by rfl) (hline : (apos.endLine == cpos.line) = true:=by rfl) : PE X (.Call (.Attribute o name apos) [] [] cpos) (tBM0 X.K T r to):=by
 intro pins s σ H Q I h
 refine wpAny_Call_method0_late hbase hline (thn (ho pins s σ H _ I h) fun v s1 ⟨x,H1,I1,r1,ty,q1⟩=>?_)
 obtain ⟨h1,h2⟩:=yfl I1 r1 ty
 exact ⟨T,id,pa,slot,hty,h1,h2,Calls.callWith_builtin rfl (PySem.evalArgs_none (hm pins s1 σ H1 x [] v [] Q I1 r1 .nil q1))⟩
theorem yhA (pa : PlainAttrs T) (slot : Slot T name id) (hty : typeOf (.builtin id) = pure (.type "method_descriptor")) (hm : MtR X id r) (ho : PE X o to) (ha : PA X (e :: es) t)
  (hbase : attributeBase o name X.env (eval o X.env) = eval o X.env:=by rfl)
  (hfew : ((backTo cpos (starEach (e :: es) X.env)).all (fun x=>!x.1) && (backToKw cpos (keywordEach [] X.env)).all (fun x=>x.1.isSome)
   && decide ((e :: es).length + ([] : List Keyword).length + (if ([] : List Keyword).isEmpty then 0 else 1) < 30)) = true:=by rfl)
  (hline : (apos.endLine == cpos.line) = true:=by rfl) (hs : starEach (e :: es) X.env = (false,eval e X.env) :: starEach es X.env:=by rfl) (hplain : (backTo cpos (starEach es X.env)).any (·.1) = false:=by rfl) :
  PE X (.Call (.Attribute o name apos) (e :: es) [] cpos) (tBM X.K T r to t):=by
 intro pins s σ H Q I h
 refine wpAny_Call_method_late hbase hfew hline rfl (thn (ho pins s σ H _ I h) fun v s1 ⟨x,H1,I1,r1,ty,q1⟩=>?_)
 obtain ⟨h1,h2⟩:=yfl I1 r1 ty
 refine ⟨T,id,pa,slot,hty,h1,h2,?_⟩
 have hA:=ha cpos pins s1 σ H1 _ I1 q1
 rw [hs] at hA ⊢
 refine Calls.callWith_builtin (by show (false || (backTo cpos (starEach es X.env)).any (·.1)) = false; rw [hplain]<;>rfl) (Calls.evalArgs_plain ?_)
 exact thn hA fun us s2 ⟨vs,H2,I2,r2,q2⟩=>hm pins s2 σ H2 x vs v us Q I2 r1 r2 q2
end
end L2
namespace L2
open PySem PySem.Spec PyProof.Rows
def MtM (X : Cx) (id : String) (r : V -> List V -> Hp -> VK -> Prop) : Prop :=
 ∀ (pins : List (Addr × Obj)) (s : Shared) (σ : St) (H : Hp) (x : V) (xs : List V) (v : Value) (us : List Value) (Q : VK),Inv X pins σ H s -> RelV x v -> Vals xs us -> r x xs H Q ->
  wpAny (model X.prog X.w) X.A (call (.builtin id) (v :: us)) (EP X pins σ Q) X.xe s
theorem Vals.one : ∀ {x : V} {us : List Value},Vals [x] us -> ∃ u,us = [u] /\ RelV x u
 | _,_,.cons r .nil=>⟨_,rfl,r⟩
theorem Vals.zero : ∀ {us : List Value},Vals [] us -> us = []
 | _,.nil=>rfl
theorem Vals.dropLast {xs : List V} {us : List Value} (h : Vals xs us) : Vals xs.dropLast us.dropLast:=by
 induction h with
 | nil=>exact .nil
 | cons r t ih =>
  cases t with
  | nil=>exact .nil
  | cons q t' => exact .cons r ih
theorem Vals.eraseIdx : ∀ {xs : List V} {us : List Value} (i : Nat),Vals xs us -> Vals (xs.eraseIdx i) (us.eraseIdx i)
 | _,_,_,.nil=>.nil
 | _,_,0,.cons _ t=>t
 | _,_,i + 1,.cons r t=>.cons r (Vals.eraseIdx i t)
theorem zf4 {α : Type} (l : List α) : l.eraseIdx (l.length - 1) = l.dropLast:=by
 induction l with
 | nil=>rfl
 | cons a r ih =>
  cases r with
  | nil=>rfl
  | cons b r =>
   have e : (a :: b :: r).length - 1 = ((b :: r).length - 1) + 1:=by
    have h1 : (a :: b :: r).length = r.length + 2:=rfl
    have h2 : (b :: r).length = r.length + 1:=rfl
    omega
   rw [e,List.eraseIdx_cons_succ,ih]
   all_goals rfl
theorem zdy {α : Type} : ∀ (l : List α) (i : Nat),(l.eraseIdx i).length <= l.length
 | [],_=>Nat.le_refl _
 | _ :: _,0=>Nat.le_succ _
 | _ :: r,i + 1=>Nat.succ_le_succ (zdy r i)
section
variable {X : Cx} {pins : List (Addr × Obj)} {σ : St} {H : Hp} {s : Shared} {l b : Addr} {xs ys zs : List V}
theorem Inv.lset {its its' : List Value} {n : Nat} {f : Array Value -> Array Value} {t' : Nat} (I : Inv X pins σ H s) (hH : H l = some (.lst xs))
  (e : s.heap.get? l = some { cls:=.type "list",data:=.seq its.toArray n }) (hf : f its.toArray = its'.toArray) (hv : Vals ys its') (hz : ys.length <= sizeLine) :
  Inv X pins σ (upd H l (.lst ys)) { s with heap:=s.heap.update l (Obj.mapSeq f),toks:=t' }:=by
 have q:=PySem.IsL.update e f
 rw [hf] at q
 refine I.write (x:=l) (e:=l) (by rw [hH]; exact trivial) (.inl rfl) (fun b' u hb hu=>(Heap.get?_update_other s.heap (Obj.mapSeq f) (Ne.symm hb)).trans hu) ⟨_,q⟩ ?_
 exact ⟨hz,its',_,hv,q⟩
theorem Inv.lnew {its : List Value} {t' : Nat} (I : Inv X pins σ H s) (hv : Vals ys its) (hz : ys.length <= sizeLine) :
  Inv X pins σ (upd H s.heap.objs.size (.lst ys)) { s with heap:=s.heap.push { cls:=.type "list",data:=.seq its.toArray },toks:=t' } :=
 I.laid (fun _ _ q=>Heap.get?_push_of_some _ q) (Nat.le_refl _) ⟨hz,its,0,hv,Heap.get?_push_size _ rfl⟩
theorem Inv.fresh (I : Inv X pins σ H s) : H s.heap.objs.size = none:=I.hok.fresh (Nat.le_refl _)
theorem Inv.lstM (I : Inv X pins σ H s) (hH : H l = some (.lst xs)) : xs.length <= sizeLine /\ ∃ (its : List Value) (n : Nat),Vals xs its /\ xs.length = its.length /\ s.heap.get? l = some { cls:=.type "list",data:=.seq its.toArray n }:=by
 obtain ⟨z,its,n,r,e⟩:=I.hok l _ hH
 exact ⟨z,its,n,r,r.length,e⟩
theorem zhG {n : Nat} (h : n <= sizeLine) : Builtin.List.listTooLong n = false:=by
 unfold Builtin.List.listTooLong
 exact decide_eq_false (by omega)
end
section
variable {X : Cx}
def yfX : V -> List V -> Hp -> VK -> Prop:=fun x vs H Q=>∃ l xs y,x = .ref l /\ vs = [y] /\ H l = some (.lst xs) /\ xs.length < sizeLine /\ Q .non (upd H l (.lst (xs++[y])))
theorem zdz : MtM X "list.append" yfX:=by
 intro pins s σ H x vs v us Q I rx rv h
 obtain ⟨l,xs,y,rfl,rfl,hH,hz,q⟩:=h
 cases rx
 obtain ⟨u,rfl,ru⟩:=rv.one
 obtain ⟨z,its,n,r,hl,e⟩:=I.lstM hH
 refine call_meets F.slot_list_append ⟨_,e,rfl⟩ F.entry_list_append (F.args_list_append_2 _ _) (PySem.list_append l its.toArray n u (by rw [List.size_toArray]; omega)) ⟨e,?_⟩
 refine ⟨.non,_,I.lset (its' := its++[u]) hH e (by simp) (r.append (.cons ru .nil)) ?_,rfl,q⟩
 rw [List.length_append,List.length_singleton]
 omega
def yfY : V -> List V -> Hp -> VK -> Prop:=fun x vs H Q=>∃ l b xs zs,x = .ref l /\ vs = [.ref b] /\ H l = some (.lst xs) /\ H b = some (.lst zs) /\ xs.length + zs.length <= sizeLine /\ Q .non (upd H l (.lst (xs++zs)))
theorem zgI : MtM X "list.extend" yfY:=by
 intro pins s σ H x vs v us Q I rx rv h
 obtain ⟨l,b,xs,zs,rfl,rfl,hH,hB,hz,q⟩:=h
 cases rx
 obtain ⟨u,rfl,ru⟩:=rv.one
 cases ru
 obtain ⟨z,its,n,r,hl,e⟩:=I.lstM hH
 obtain ⟨z2,its2,n2,r2,hl2,e2⟩:=I.lstM hB
 have hsz : its.toArray.size + its2.toArray.size <= sizeLine:=by rw [List.size_toArray,List.size_toArray]; omega
 have hlong : ¬ (!its.toArray.isEmpty && Builtin.List.listTooLong (its.toArray.size + its2.toArray.size)) = true:=by
  rw [zhG hsz,Bool.and_false]
  exact Bool.false_ne_true
 refine call_meets F.slot_list_extend ⟨_,e,rfl⟩ F.entry_list_extend (F.args_list_extend_2 _ _)
  (AutoSeq1.list_extend_list_list_0 l its.toArray n b its2.toArray n2 hlong (by rw [List.size_toArray]; omega) (by omega)) ⟨e,e2,?_⟩
 refine ⟨.non,_,I.lset (its' := its++its2) hH e (by simp) (r.append r2) ?_,rfl,q⟩
 rw [List.length_append]
 omega
def rPop : V -> List V -> Hp -> VK -> Prop:=fun x vs H Q=>∃ l xs y,x = .ref l /\ vs = [] /\ H l = some (.lst xs) /\ xs[xs.length - 1]? = some y /\ Q y (upd H l (.lst xs.dropLast))
theorem ygu : MtM X "list.pop" rPop:=by
 intro pins s σ H x vs v us Q I rx rv h
 obtain ⟨l,xs,y,rfl,rfl,hH,hy,q⟩:=h
 cases rx
 have hus:=rv.zero
 subst hus
 obtain ⟨z,its,n,r,hl,e⟩:=I.lstM hH
 obtain ⟨u,hu,ru⟩:=r.get hy
 have hy' : its.toArray[its.toArray.size - 1]? = some u:=by
  show its.toArray[its.length - 1]? = some u
  rw [<- Array.getElem?_toList,<- hl]
  exact hu
 refine call_meets F.slot_list_pop ⟨_,e,rfl⟩ F.entry_list_pop (F.args_list_pop_1 _) (MeetsSeq.list_pop_last l its.toArray n u hy' (by rw [List.size_toArray]; omega)) ⟨e,?_⟩
 refine ⟨y,_,I.lset (its' := its.dropLast) hH e ?_ r.dropLast ?_,ru,q⟩
 ·show its.toArray.eraseIdxIfInBounds (its.toArray.size - 1) = its.dropLast.toArray
  rw [List.size_toArray,List.eraseIdxIfInBounds_toArray,zf4]
 ·rw [List.length_dropLast]
  omega
def ygv : V -> List V -> Hp -> VK -> Prop:=fun x vs H Q=>∃ l xs i k y,x = .ref l /\ vs = [.int i] /\ H l = some (.lst xs) /\ -(2 ^ 63) <= i /\ i < 2 ^ 63 /\ seqIndex? i xs.length = some k /\ xs[k]? = some y /\ Q y (upd H l (.lst (xs.eraseIdx k)))
theorem zhH : MtM X "list.pop" ygv:=by
 intro pins s σ H x vs v us Q I rx rv h
 obtain ⟨l,xs,i,k,y,rfl,rfl,hH,h1,h2,hk,hy,q⟩:=h
 cases rx
 obtain ⟨u,rfl,ru⟩:=rv.one
 obtain ⟨t,rfl⟩:=ru
 obtain ⟨z,its,n,r,hl,e⟩:=I.lstM hH
 obtain ⟨w,hw,rw'⟩:=r.get hy
 refine call_meets F.slot_list_pop ⟨_,e,rfl⟩ F.entry_list_pop (F.args_list_pop_2 _ _)
  (MeetsSeq.list_pop_at l its.toArray n i t k w (fitsIndex_both h1 h2) (by rw [List.size_toArray,<- hl]; exact hk) (by rw [<- Array.getElem?_toList]; exact hw) (by rw [List.size_toArray]; omega)) ⟨e,?_⟩
 refine ⟨y,_,I.lset (its' := its.eraseIdx k) hH e ?_ (r.eraseIdx k) ?_,rw',q⟩
 ·show its.toArray.eraseIdxIfInBounds k = (its.eraseIdx k).toArray
  rw [List.eraseIdxIfInBounds_toArray]
 ·have:=zdy xs k
  omega
end
section
variable {prog : Program} {w : World} {A : Around} {E : Value -> Shared -> Prop} {s : Shared}
end
section
variable {X : Cx}
end
end L2
namespace L2
open PySem PySem.Spec PyProof.Rows
section
variable {κ : Type} [DecidableEq κ]
def valV (kvs : List (κ × V)) (k : κ) : Option V:=(kvs.find? fun kv=>decide (kv.1 = k)).map (·.2)
def putK (kvs : List (κ × V)) (k : κ) (v : V) : List (κ × V) :=
 if (kvs.any fun kv=>decide (kv.1 = k)) = true then kvs.map (fun kv=>if kv.1 = k then (kv.1,v) else kv) else kvs++[(k,v)]
theorem zbr {p : κ × V} {r : List (κ × V)} {k : κ} (e : p.1 = k) : valV (p :: r) k = some p.2:=by simp [valV,List.find?_cons,e]
theorem zba {p : κ × V} {r : List (κ × V)} {k : κ} (e : ¬ p.1 = k) : valV (p :: r) k = valV r k:=by simp [valV,List.find?_cons,e]
theorem zcv (k : κ) : ∀ kvs : List (κ × V),(kvs.any fun kv=>decide (kv.1 = k)) = (valV kvs k).isSome
 | []=>rfl
 | p :: r=>by
  rw [List.any_cons]
  by_cases e : p.1 = k
  ·simp only [zbr e,decide_eq_true e,Bool.true_or,Option.isSome_some]
  ·rw [zba e,decide_eq_false e,Bool.false_or]; exact zcv k r
theorem zck (kvs : List (κ × V)) (k : κ) (v : V) : (putK kvs k v).length <= kvs.length + 1:=by
 unfold putK
 split
 ·rw [List.length_map]; omega
 ·rw [List.length_append,List.length_cons,List.length_nil]; omega
theorem RelO.isSome_eq {o : Option V} {u : Option Value} (r : RelO o u) : o.isSome = u.isSome:=by
 cases o with
 | none=>cases u with
  | none=>rfl
  | some _=>exact (show False from r).elim
 | some _=>cases u with
  | none=>exact (show False from r).elim
  | some _=>rfl
theorem KV.val {kvs : List (κ × V)} {vs : List (κ × Value)} (r : KV kvs vs) (k : κ) : RelO (valV kvs k) (valueAt vs k):=by
 unfold KV at r
 induction r with
 | nil=>exact True.intro
 | @cons p q ps qs h t ih =>
  obtain ⟨h1,h2⟩:=h
  by_cases e : p.1 = k
  ·have e' : q.1 = k:=h1.symm.trans e
   have b : valueAt (q :: qs) k = some q.2:=by simp [valueAt,List.find?_cons,e']
   rw [zbr e,b]; exact h2
  ·have e' : ¬ q.1 = k:=fun z=>e (h1.trans z)
   have b : valueAt (q :: qs) k = valueAt qs k:=by simp [valueAt,List.find?_cons,e']
   rw [zba e,b]; exact ih
theorem KV.any {kvs : List (κ × V)} {vs : List (κ × Value)} (r : KV kvs vs) (k : κ) : (kvs.any fun kv=>decide (kv.1 = k)) = vs.any fun kv=>decide (kv.1 = k):=by
 unfold KV at r
 induction r with
 | nil=>rfl
 | cons h t ih=>rw [List.any_cons,List.any_cons,ih,h.1]
theorem KV.repl {kvs : List (κ × V)} {vs : List (κ × Value)} (r : KV kvs vs) (k : κ) {y : V} {u : Value} (ry : RelV y u) :
  KV (kvs.map fun kv=>if kv.1 = k then (kv.1,y) else kv) (vs.map fun kv=>if kv.1 = k then (kv.1,u) else kv):=by
 unfold KV at r ⊢
 induction r with
 | nil=>exact .nil
 | @cons p q ps qs h t ih =>
  rw [List.map_cons,List.map_cons]
  refine .cons ?_ ih
  obtain ⟨h1,h2⟩:=h
  by_cases e : p.1 = k
  ·rw [if_pos e,if_pos (h1.symm.trans e)]; exact ⟨h1,ry⟩
  ·rw [if_neg e,if_neg (fun z=>e (h1.trans z))]; exact ⟨h1,h2⟩
theorem KV.put {kvs : List (κ × V)} {vs : List (κ × Value)} (r : KV kvs vs) (k : κ) {y : V} {u : Value} (ry : RelV y u) : KV (putK kvs k y) (stored vs k u):=by
 unfold putK stored
 rw [r.any k]
 by_cases e : (vs.any fun kv=>decide (kv.1 = k)) = true
 ·rw [if_pos e,if_pos e]; exact r.repl k ry
 ·rw [if_neg e,if_neg e]; exact Paired.snoc r ⟨rfl,ry⟩
theorem KV.length {kvs : List (κ × V)} {vs : List (κ × Value)} (r : KV kvs vs) : kvs.length = vs.length:=Paired.length r
end
theorem yey {P : Program} {w : World} {k : Key} {u : Value} (r : RelV (kV k) u) : (ybg P w).is k u = true:=by
 cases k with
 | inl i=>obtain ⟨t,e⟩:=(show ∃ t,u = Value.int i t from r); subst e; exact zcg P w i t
 | inr x=>obtain ⟨t,e⟩:=(show ∃ t,u = Value.str x t from r); subst e; exact zch P w x t
theorem ygw {P : Program} {w : World} {y : V} {k : Key} {u : Value} (e : kOf y = some k) (r : RelV y u) : (ybg P w).is k u = true:=by
 cases y with
 | int i=>cases e; obtain ⟨t,e⟩:=(show ∃ t,u = Value.int i t from r); subst e; exact zcg P w i t
 | str x=>cases e; obtain ⟨t,e⟩:=(show ∃ t,u = Value.str x t from r); subst e; exact zch P w x t
 | bl b=>cases e; cases (show u = Value.bool b from r); exact decide_eq_true rfl
 | _=>cases e
theorem zdA {P : Program} {w : World} : ∀ {ys : List V} {ks : List Key} {us : List Value},ys.map kOf = ks.map some -> Vals ys us -> ItemsAre (ybg P w) ks us
 | [],[],_,_,r=>by cases r; exact .nil
 | [],_ :: _,_,e,_=>by simp at e
 | _ :: _,[],_,e,_=>by simp at e
 | y :: ys,k :: ks,_,e,r=>by
  rw [List.map_cons,List.map_cons] at e
  injection e with e1 e2
  cases r with
  | cons h t=>exact .cons (ygw e1 h) (zdA e2 t)
def KTup (H : Hp) (b : Addr) (k : List Key) : Prop:=∃ ys,H b = some (.tup ys) /\ ys.map kOf = k.map some
theorem KTup.of {H : Hp} {b : Addr} {k : List Key} (e : H b = some (.tup (k.map kV))) : KTup H b k:=⟨_,e,by rw [List.map_map]; exact List.map_congr_left fun x _=>yf3 x⟩
abbrev KT (H : Hp) : List (List Key × V) -> List (List Key × Addr × Value) -> Prop:=Paired fun p q=>p.1 = q.1 /\ (∃ ys,H q.2.1 = some (.tup ys) /\ ys.map kOf = p.1.map some) /\ RelV p.2 q.2.2
theorem KT.val {H : Hp} {kvs : List (List Key × V)} {xs : List (List Key × Addr × Value)} (r : KT H kvs xs) (k : List Key) : RelO (valV kvs k) ((atKey xs k).map (·.2)):=by
 induction r with
 | nil=>exact True.intro
 | @cons p q ps qs h t ih =>
  obtain ⟨h1,_,h2⟩:=h
  by_cases e : p.1 = k
  ·have e' : q.1 = k:=h1.symm.trans e
   have b : atKey (q :: qs) k = some q.2:=by simp [atKey,List.find?_cons,e']
   rw [zbr e,b]; exact h2
  ·have e' : ¬ q.1 = k:=fun z=>e (h1.trans z)
   have b : atKey (q :: qs) k = atKey qs k:=by simp [atKey,List.find?_cons,e']
   rw [zba e,b]; exact ih
theorem KT.repl {H : Hp} {kvs : List (List Key × V)} {xs : List (List Key × Addr × Value)} (r : KT H kvs xs) (k : List Key) {y : V} {u : Value} (ry : RelV y u) :
  KT H (kvs.map fun kv=>if kv.1 = k then (kv.1,y) else kv) (xs.map (putAt k u)):=by
 induction r with
 | nil=>exact .nil
 | @cons p q ps qs h t ih =>
  rw [List.map_cons,List.map_cons]
  refine .cons ?_ ih
  obtain ⟨h1,h2,h3⟩:=h
  unfold putAt
  by_cases e : p.1 = k
  ·rw [if_pos e,if_pos (h1.symm.trans e)]; exact ⟨h1,h2,ry⟩
  ·rw [if_neg e,if_neg (fun z=>e (h1.trans z))]; exact ⟨h1,h2,h3⟩
theorem KT.put {H : Hp} {kvs : List (List Key × V)} {xs : List (List Key × Addr × Value)} (r : KT H kvs xs) (k : List Key) {b : Addr} {y : V} {u : Value} (hb : KTup H b k) (ry : RelV y u) :
  KT H (putK kvs k y) (storedH xs k b u):=by
 have e : (kvs.any fun kv=>decide (kv.1 = k)) = (atKey xs k).isSome:=by
  rw [zcv,(r.val k).isSome_eq,Option.isSome_map]
 unfold putK storedH
 rw [e]
 by_cases q : (atKey xs k).isSome = true
 ·rw [if_pos q,if_pos q]; exact r.repl k ry
 ·rw [if_neg q,if_neg q]; exact Paired.snoc r ⟨rfl,hb,ry⟩
theorem KT.keeps {H H' : Hp} {kvs : List (List Key × V)} {xs : List (List Key × Addr × Value)} (r : KT H kvs xs) (ht : ∀ b ys,H b = some (.tup ys) -> H' b = some (.tup ys)) : KT H' kvs xs :=
 Paired.mapP r fun _ _ z=>⟨z.1,z.2.1.imp fun _ e=>⟨ht _ _ e.1,e.2⟩,z.2.2⟩
section
variable {P : Program} {w : World} {H : Hp} {h : Heap} {a : Addr}
theorem rd_of {u : HO} (ok : HOk P w H h) (e : Rd H a u) : ObjOk P w H h a u:=e.ok ok
theorem ydV {kvs : List (Key × V)} (ok : HOk P w H h) (e : Rd H a (.dK kvs)) : kvs.length <= sizeLine /\ (a == sysModules) = false /\ ∃ vs,KV kvs vs /\ h.DictOf (ybg P w) a vs :=
 show ObjOk P w H h a (.dK kvs) from rd_of ok e
theorem yhB {kvs : List (Key × V)} (ok : HOk P w H h) (e : H a = some (.dK kvs)) : kvs.length <= sizeLine /\ (a == sysModules) = false /\ ∃ vs,KV kvs vs /\ h.DictOf (ybg P w) a vs:=ydV ok (.inl e)
theorem ydK {ks : List Key} (ok : HOk P w H h) (e : KTup H a ks) : (tupleKind (ybg P w)).is h ks a:=by
 obtain ⟨ys,e,ek⟩:=e
 obtain ⟨_,its,r,o,h1,h2,n,h3⟩:=(show ObjOk P w H h a (.tup ys) from ok a _ e)
 exact ⟨o,its.toArray,n,h1,h2,h3,by simpa using zdA ek r⟩
theorem yed {kvs : List (List Key × V)} (ok : HOk P w H h) (e : Rd H a (.dT kvs)) : kvs.length <= sizeLine /\ (a == sysModules) = false /\
  ∃ xs,KT H kvs xs /\ h.DictOfH (tupleKind (ybg P w)) a xs:=by
 obtain ⟨z,y,xs,r,o,es,ep,h1,h2,h3,h4,h5⟩:=(show ObjOk P w H h a (.dT kvs) from rd_of ok e)
 refine ⟨z,y,xs,r,o,es,ep,h1,h2,h3,h4,fun x hx=>?_,h5⟩
 have all : ∀ {l : List (List Key × V)} {m : List (List Key × Addr × Value)},KT H l m -> ∀ x ∈ m,(tupleKind (ybg P w)).is h x.1 x.2.1:=by
  intro l m q
  induction q with
  | nil=>intro x hx; exact nomatch hx
  | @cons p q ps qs hq t ih =>
   intro x hx
   rcases List.mem_cons.mp hx with e | hx
   ·subst e
    exact ydK ok (by rw [<- hq.1]; exact hq.2.1)
   ·exact ih x hx
 exact all r x hx
theorem yhC {kvs : List (List Key × V)} (ok : HOk P w H h) (e : H a = some (.dT kvs)) : kvs.length <= sizeLine /\ (a == sysModules) = false /\
  ∃ xs,KT H kvs xs /\ h.DictOfH (tupleKind (ybg P w)) a xs:=yed ok (.inl e)
end
def DGet (H : Hp) (a : Addr) (y : V) (r : Option V) : Prop :=
 (∃ kvs k,Rd H a (.dK kvs) /\ y = kV k /\ r = valV kvs k) \/ ∃ kvs k b,Rd H a (.dT kvs) /\ y = .ref b /\ KTup H b k /\ r = valV kvs k
def DPut (H : Hp) (a : Addr) (y v : V) (H' : Hp) : Prop :=
 (∃ kvs k,H a = some (.dK kvs) /\ y = kV k /\ kvs.length < sizeLine /\ H' = upd H a (.dK (putK kvs k v))) \/
 ∃ kvs k b,H a = some (.dT kvs) /\ y = .ref b /\ KTup H b k /\ kvs.length < sizeLine /\ H' = upd H a (.dT (putK kvs k v))
theorem DGet.k {H : Hp} {a : Addr} {kvs : List (Key × V)} {k : Key} (e : H a = some (.dK kvs)) : DGet H a (kV k) (valV kvs k):=.inl ⟨kvs,k,.inl e,rfl,rfl⟩
theorem DGet.t {H : Hp} {a b : Addr} {kvs : List (List Key × V)} {k : List Key} (e : H a = some (.dT kvs)) (eb : KTup H b k) : DGet H a (.ref b) (valV kvs k):=.inr ⟨kvs,k,b,.inl e,rfl,eb,rfl⟩
theorem DPut.k {H : Hp} {a : Addr} {kvs : List (Key × V)} {k : Key} {v : V} (e : H a = some (.dK kvs)) (hl : kvs.length < sizeLine) : DPut H a (kV k) v (upd H a (.dK (putK kvs k v))):=.inl ⟨kvs,k,e,rfl,hl,rfl⟩
theorem DPut.t {H : Hp} {a b : Addr} {kvs : List (List Key × V)} {k : List Key} {v : V} (e : H a = some (.dT kvs)) (eb : KTup H b k) (hl : kvs.length < sizeLine) :
  DPut H a (.ref b) v (upd H a (.dT (putK kvs k v))):=.inr ⟨kvs,k,b,e,rfl,eb,hl,rfl⟩
section
variable {X : Cx} {pins : List (Addr × Obj)} {σ : St} {H : Hp} {s : Shared} {a : Addr} {y v : V} {u r : Value} {o : Option V} {A : Around} {E : Value -> Shared -> Prop}
theorem Inv.big (I : Inv X pins σ H s) : sysModules < s.heap.objs.size:=by
 have h : mainGlobals < s.heap.objs.size:=(I.mod.glob.keeps I.bk).lt
 exact Nat.lt_trans (by decide) h
theorem zgJ {Q : Value -> Shared -> Prop} (hu : A.units + 1 < cLine) (I : Inv X pins σ H s) (g : DGet H a y (some v)) (ry : RelV y u) (h : ∀ w' s',Inv X pins σ H s' -> RelV v w' -> Q w' s') :
  wpAny (model X.prog X.w) A (getItem (.ref a) u) Q E s:=by
 rcases g with ⟨kvs,k,e,ey,l⟩ | ⟨kvs,k,b,e,ey,eb,l⟩
 ·subst ey
  obtain ⟨z,hd,vs,rel,dd⟩:=ydV I.hok e
  obtain ⟨w',hw,rw'⟩:=RelO.some_of (v:=v) (o:=valueAt vs k) (by rw [l]; exact rel.val k)
  exact wpAny_getItem_of (yey ry) dd.mapOf hw (h w' _ (I.tok _) rw')
 ·subst ey
  cases (show u = Value.ref b from ry)
  obtain ⟨z,hd,xs,rel,dd⟩:=yed I.hok e
  obtain ⟨w',hw,rw'⟩:=RelO.some_of (v:=v) (o:=(atKey xs k).map (·.2)) (by rw [l]; exact rel.val k)
  obtain ⟨p,hp,hp2⟩:=Option.map_eq_some_iff.mp hw
  refine wpAny_getItem_heap (tupleKind_room_in1 hu) (ydK I.hok eb) dd hp ?_
  rw [hp2]
  exact h w' _ (I.tok _) rw'
theorem d_in {Q : Value -> Shared -> Prop} (hu : A.units + 1 < cLine) (I : Inv X pins σ H s) (g : DGet H a y o) (ry : RelV y u) (h : ∀ s',Inv X pins σ H s' -> Q (.bool o.isSome) s') :
  wpAny (model X.prog X.w) A (compareOp .In u (.ref a)) Q E s:=by
 rcases g with ⟨kvs,k,e,ey,l⟩ | ⟨kvs,k,b,e,ey,eb,l⟩
 ·subst ey
  obtain ⟨z,hd,vs,rel,dd⟩:=ydV I.hok e
  refine wpAny_in_of (yey ry) hd dd.mapOf ?_
  rw [<- (rel.val k).isSome_eq,<- l]
  exact h _ (I.tok _)
 ·subst ey
  cases (show u = Value.ref b from ry)
  obtain ⟨z,hd,xs,rel,dd⟩:=yed I.hok e
  refine wpAny_in_heap (tupleKind_room_in1 hu) (ydK I.hok eb) hd dd ?_
  have q:=(rel.val k).isSome_eq
  rw [Option.isSome_map] at q
  rw [<- q,<- l]
  exact h _ (I.tok _)
theorem ziK {Q : Value -> Shared -> Prop} (hu : A.units + 1 < cLine) (I : Inv X pins σ H s) (g : DGet H a y o) (ry : RelV y u) (h : ∀ s',Inv X pins σ H s' -> Q (.bool (!o.isSome)) s') :
  wpAny (model X.prog X.w) A (compareOp .NotIn u (.ref a)) Q E s:=by
 rcases g with ⟨kvs,k,e,ey,l⟩ | ⟨kvs,k,b,e,ey,eb,l⟩
 ·subst ey
  obtain ⟨z,hd,vs,rel,dd⟩:=ydV I.hok e
  refine wpAny_notIn_of (yey ry) hd dd.mapOf ?_
  rw [<- (rel.val k).isSome_eq,<- l]
  exact h _ (I.tok _)
 ·subst ey
  cases (show u = Value.ref b from ry)
  obtain ⟨z,hd,xs,rel,dd⟩:=yed I.hok e
  refine wpAny_notIn_heap (tupleKind_room_in1 hu) (ydK I.hok eb) hd dd ?_
  have q:=(rel.val k).isSome_eq
  rw [Option.isSome_map] at q
  rw [<- q,<- l]
  exact h _ (I.tok _)
theorem zfk {h' : Heap} {t' : Nat} {ob : HO} (I : Inv X pins σ H s) (mu : Mut (H a)) (hs : Heap.SameBut a s.heap h') (he : ∃ q,h'.get? a = some q) (new : ObjOk X.prog X.w (upd H a ob) h' a ob) :
  Inv X pins σ (upd H a ob) { s with heap:=h',toks:=t' } :=
 I.write (x:=a) (e:=a) mu (.inl rfl) (fun b q hb z=>(hs.2 b hb).trans z) he new
theorem ygx {P : Program} {w : World} {H' : Hp} {h' : Heap} {kvs : List (Key × V)} {vs : List (Key × Value)} (z : kvs.length <= sizeLine) (hd : (a == sysModules) = false) (rel : KV kvs vs) (dd : h'.DictOf (ybg P w) a vs) :
  ObjOk P w H' h' a (.dK kvs):=⟨z,hd,vs,rel,dd⟩
theorem zgK {H' : Hp} {Q : Unit -> Shared -> Prop} (hu : A.units + 1 < cLine) (I : Inv X pins σ H s) (g : DPut H a y v H') (ry : RelV y u) (rv : RelV v r) (h : ∀ s',Inv X pins σ H' s' -> Q () s') :
  wpAny (model X.prog X.w) A (setItem (.ref a) u r) Q E s:=by
 rcases g with ⟨kvs,k,e,ey,l,eH⟩ | ⟨kvs,k,b,e,ey,eb,l,eH⟩
 ·subst ey eH
  obtain ⟨z,hd,vs,rel,dd⟩:=yhB I.hok e
  have hz : vs.length <= sizeLine:=by rw [<- rel.length]; exact z
  have hl : (putK kvs k v).length <= sizeLine:=by have:=zck kvs k v; omega
  refine wpAny_setItem_pairs (hsz:=hz) (yey ry) dd fun h' dd' hs=>h _ ?_
  have he : ∃ q,h'.get? a = some q:=let ⟨q,_,_,hq,_⟩:=dd'; ⟨q,hq⟩
  exact zfk I (by rw [e]; exact True.intro) hs he (ygx hl hd (rel.put k rv) dd')
 ·subst ey eH
  cases (show u = Value.ref b from ry)
  obtain ⟨z,hd,xs,rel,dd⟩:=yhC I.hok e
  have hz : xs.length <= sizeLine:=by rw [<- Paired.length rel]; exact z
  have hl : (putK kvs k v).length <= sizeLine:=by have:=zck kvs k v; omega
  refine wpAny_setItem_heap (hsz:=hz) (tupleKind_room_in1 hu) (ydK I.hok eb) dd fun h' dd' hs=>h _ ?_
  obtain ⟨q,es,ep,hq,h2,h3,h4,_,h5⟩:=dd'
  refine zfk I (by rw [e]; exact True.intro) hs ⟨q,hq⟩ ⟨hl,hd,_,(rel.put k eb rv).keeps fun c ys ec=>?_,q,es,ep,hq,h2,h3,h4,h5⟩
  rw [yay (yhg ec e (fun z=>nomatch z))]
  exact ec
end
section
variable {X : Cx} {pins : List (Addr × Obj)} {σ : St} {H : Hp} {s : Shared} {a : Addr} {kvs : List (Key × V)} {k : Key} {u : Value} {A : Around} {E : Value -> Shared -> Prop}
theorem yhD {Q : Value -> Shared -> Prop} (I : Inv X pins σ H s) (e : Rd H a (.dK kvs)) (h : ∀ t s',Inv X pins σ H s' -> Q (.int kvs.length t) s') : wpAny (model X.prog X.w) A (call (.builtin "len") [.ref a]) Q E s:=by
 obtain ⟨z,hd,vs,rel,dd⟩:=ydV I.hok e
 refine call_len_dict hd dd (by rw [<- rel.length]; rw [sizeLine_eq] at z; omega) ?_
 rw [<- rel.length]
 exact h _ _ (I.tok _)
end
def NoSl (i : Expr) : Prop:=∀ ov iv,subscripted i false ov iv = operate [ov,iv] (getItem ov iv)
theorem ziL {prog : Program} {w : World} {A : Around} {E : Value -> Shared -> Prop} {s : Shared} {env : Env} {value slice : Expr} {pos : Pos} {T id : String} {Q : Value -> Shared -> Prop}
  (hl : typeLookup (.type T) "__getitem__" = pure (some (.builtin id))) (hs : NoSl slice)
  (h : wpAny (model prog w) A (eval value env) (fun o s₁=>wpAny (model prog w) A (eval slice env) (fun i s₂=>s₂.TypeIs o T /\ wpAny (model prog w) A (getItem o i) Q E s₂) E s₁) E s) :
  wpAny (model prog w) A (eval (.Subscript value slice pos) env) Q E s:=by
 refine Subscript_ (wpAny_mono h (fun o s₁ h₁=>wpAny_mono h₁ (fun i s₂ h₂=>?_) fun _ _ x=>x) fun _ _ x=>x)
 obtain ⟨hT,h₂⟩:=h₂
 unfold subscriptTail
 refine wpAny_bind ?_
 rw [getitemInPython_of_ne hT.not_modules]
 refine wpAny_bind (wpAny_specialOf hT hl ?_)
 have fin : wpAny (model prog w) A (subscripted slice false o i) (fun r s₃=>wpAny (model prog w) A (letTemporaryGo value o r >>= fun _=>pure r) Q E s₃) E s₂:=by
  rw [hs o i]
  exact wpAny_operating (wpAny_mono h₂ (fun r s₃ h₃=>wpAny_bind (wpAny_letTemporaryGo (wpAny_pure h₃))) fun _ _ x=>x)
 first
  | exact wpAny_pure (wpAny_bind fin)
  | exact wpAny_bind (wpAny_pure (wpAny_bind fin))
  | exact wpAny_bind fin
theorem zeP {X : Cx} {pins : List (Addr × Obj)} {σ : St} {H : Hp} {s : Shared} {a : Addr} {y : V} {o : Option V} (I : Inv X pins σ H s) (g : DGet H a y o) : s.TypeIs (.ref a) "dict" := by
 rcases g with ⟨kvs,k,e,_,_⟩ | ⟨kvs,k,b,e,_,_,_⟩
 ·obtain ⟨_,_,vs,_,dd⟩:=ydV I.hok e
  exact dd.typeIs
 ·obtain ⟨_,_,xs,_,dd⟩:=yed I.hok e
  exact dd.typeIs
def yhE (td ty : TE) : TE:=fun σ H Q=>td σ H fun x H1=>ty σ H1 fun y H2=>∃ a v,x = .ref a /\ DGet H2 a y (some v) /\ Q v H2
def yhF (td ty tv : TE) : TS:=fun D σ H=>tv σ H fun v H1=>td σ H1 fun x H2=>ty σ H2 fun y H3=>∃ a H4,x = .ref a /\ DPut H3 a y v H4 /\ D.nx σ H4
section
variable {X : Cx} {o i e value : Expr} {pos pos' tpos : Pos} {td ty tv : TE}
theorem ziM (hu : X.A.units + 1 < cLine) (ho : PE X o td) (hi : PE X i ty) (hs : NoSl i) : PE X (.Subscript o i pos) (yhE td ty):=by
 intro pins s σ H Q I h
 refine ziL PySem.F.slot_dict_getitem.lookup hs (thn (ho pins s σ H _ I h) fun u s1 ⟨x,H1,I1,rx,q1⟩=>thn (hi pins s1 σ H1 _ I1 q1) fun iv s2 ⟨y,H2,I2,ry,a,v,ex,g,q2⟩=>?_)
 subst ex
 obtain rfl : u = Value.ref a:=rx
 exact ⟨zeP I2 g,zgJ hu I2 g ry fun w' s3 I3 rw' => ⟨v,H2,I3,rw',q2⟩⟩
theorem ziN (hu : X.A.units + 1 < cLine) (ho : PE X o td) (hi : PE X i ty) (hv : PE X value tv) (hs : swapsWith value (some (.Subscript o i pos')) pos.line X.env = pure false) :
  PS X (.Assign [.Subscript o i pos'] value pos) (yhF td ty tv):=by
 intro pins s σ H D I h
 refine wpAny_Assign_Subscript (thn (hv pins s σ H _ I h) fun r s1 ⟨v,H1,I1,rv,q1⟩=>thn (ho pins s1 σ H1 _ I1 q1) fun u s2 ⟨x,H2,I2,rx,q2⟩=>thn (hi pins s2 σ H2 _ I2 q2) fun iv s3 ⟨y,H3,I3,ry,a,H4,ex,g,q3⟩=>?_) hs
 subst ex
 obtain rfl : u = Value.ref a:=rx
 exact zgK hu I3 g ry rv fun s4 I4=>⟨σ,H4,I4,q3⟩
end
theorem zhI {P : Program} {w : World} {H : Hp} (h : Heap) (hb : sysModules < h.objs.size) : ObjOk P w H (h.push { cls:=.type "dict",data:=.dict #[] }) h.objs.size (.dK []) :=
 ⟨Nat.zero_le _,beq_eq_false_iff_ne.mpr (Ne.symm (Nat.ne_of_lt hb)),[],.nil,Heap.DictOf.new h⟩
theorem zhJ {P : Program} {w : World} {H : Hp} (h : Heap) (hb : sysModules < h.objs.size) : ObjOk P w H (h.push { cls:=.type "dict",data:=.dict #[] }) h.objs.size (.dT []) :=
 ⟨Nat.zero_le _,beq_eq_false_iff_ne.mpr (Ne.symm (Nat.ne_of_lt hb)),[],.nil,_,#[],0,Heap.get?_push_size _ rfl,⟨rfl,rfl,rfl⟩,rfl,rfl,List.nodup_nil⟩
def ygy : TE:=fun _ H Q=>∀ p,H p = none -> Q (.ref p) (upd H p (.dK []))
def ygz : TE:=fun _ H Q=>∀ p,H p = none -> Q (.ref p) (upd H p (.dT []))
section
variable {X : Cx} {pos : Pos}
theorem zhK : PE X (.Dict [] [] pos) ygy:=fun pins s σ H Q I h =>
 wpAny_Dict_empty ⟨.ref s.heap.objs.size,_,I.laid (a:=s.heap.objs.size) (o:=.dK []) (t' := s.toks) (fun _ _ q=>Heap.get?_push_of_some _ q) (Nat.le_refl _) (zhI s.heap I.big),rfl,h _ (I.hok.fresh (Nat.le_refl _))⟩
theorem zhL : PE X (.Dict [] [] pos) ygz:=fun pins s σ H Q I h =>
 wpAny_Dict_empty ⟨.ref s.heap.objs.size,_,I.laid (a:=s.heap.objs.size) (o:=.dT []) (t' := s.toks) (fun _ _ q=>Heap.get?_push_of_some _ q) (Nat.le_refl _) (zhJ s.heap I.big),rfl,h _ (I.hok.fresh (Nat.le_refl _))⟩
end
section
variable {X : Cx} {pins : List (Addr × Obj)} {σ : St} {H : Hp} {s : Shared} {a : Addr} {y d : V} {u r : Value} {o : Option V} {A : Around} {E : Value -> Shared -> Prop}
end
section
variable {X : Cx} {o e f : Expr} {apos cpos : Pos} {td ty tx : TE}
end
section
variable {X : Cx} {pins : List (Addr × Obj)} {σ : St} {H : Hp} {s : Shared} {a : Addr} {kvs : List (Key × V)} {A : Around} {E : Value -> Shared -> Prop}
end
section
variable {X : Cx} {pins : List (Addr × Obj)} {σ : St} {H : Hp} {s : Shared} {a : Addr} {y : V} {u : Value} {A : Around} {E : Value -> Shared -> Prop}
end
end L2
namespace Att
open PySem PySem.W PySem.Calls PyProof.Rows
theorem zcR {P : Params} {h : Heap} : ∀ (ns : List Int) (vs : List Value),WellAll P h vs (ns.map WData.int) -> IntsAre vs ns:=by
 intro ns
 induction ns with
 | nil =>
  intro vs w
  rw [List.map_nil] at w
  cases w
  exact .nil
 | cons n ns ih =>
  intro vs w
  rw [List.map_cons] at w
  cases w with
  | cons a b =>
   cases a
   exact .cons _ _ (ih _ b)
theorem zgL {l : OpenLaw} {n : Nat} (hn : l.most = some n) {P : Params} {h : Heap} {args : List WData} {vals : List Value}
  (hpre : l.row.toRowW.claim.pre args = true) (hwl : WellAll P h vals args) :
  ∃ a vs ns,vals = [Value.ref a] /\ args = [WData.list (ns.map WData.int)] /\ h.get? a = some { cls:=.type "list",data:=.seq vs.toArray } /\ IntsAre vs ns /\ ns.length <= n:=by
 have hsh : WShape.hasAll [] args [.list .int] = true:=(pre_splitW hpre).1
 have hc : l.pre.holds [] { args:=args } = true:=(pre_splitW hpre).2
 obtain ⟨d,r,rfl,h1,h2⟩:=hasAllW_cons hsh
 obtain rfl:=hasAllW_nil h2
 obtain ⟨xs,rfl,h3⟩:=hasW_list h1
 obtain ⟨ns,rfl⟩:=items_int h3
 have hlen : ns.length <= n:=by
  unfold OpenLaw.pre at hc
  have h4 : (WTm.not (.lt (.lit (.int (n : Int))) (.len (.arg 0)))).holds [] { args:=[.list (ns.map .int)] } = true:=by
   have h4:=(holds_andW hc).1
   rw [hn] at h4
   exact h4
  have h5:=condW_of h4 (w_not (w_lt w_lit (w_len_list (w_arg rfl))))
  rw [List.length_map] at h5
  refine Nat.le_of_not_lt fun q=>?_
  have q' : (n : Int) < ((ns.length : Nat) : Int):=by omega
  first
   | (rw [decide_eq_true q'] at h5; exact absurd h5 (by decide))
   | (simp at h5; omega)
 cases hwl with
 | cons w1 w2 =>
  cases w2
  cases w1 with
  | list ho hall=>exact ⟨_,_,ns,rfl,rfl,ho,zcR ns _ hall,hlen⟩
theorem zgM (l : OpenLaw) (args : List WData) : l.row.toRowW.claim.post args (.bool true) args = true :=
 postW_of (r:=l.row.toRowW) (X:=(true == true))
  (show WShape.has [] (.bool true) .bool = true by first | rfl | decide | simp [WShape.has,WShape.arms,WShape.armsAll])
  (show (WTm.eq .res (.lit (.bool true))).value [] { args:=args,res:=some (.bool true),after:=args } = some (.bool (true == true)) from w_eq_bool (w_res rfl) w_lit) rfl
theorem attach_call {l : OpenLaw} {n : Nat} {q : Program} {loose : List Str} {XP : (Str -> Option Value) -> Heap -> Prop} {YP : World -> Heap -> Prop} {d : DefRec}
  (hn : l.most = some n) (hdf : d.params.defaults = [])
  (call : ∀ (w : World) (s₀ s₁ : Shared) (mg mb : Str -> Option Value) (fa : Addr) (o : Obj) (pm cd doc : Value) (a : Addr) (vs : List Value) (ns : List Int),
   Ground q loose [] XP w s₀ mg mb s₁.heap -> YP w s₁.heap ->
   s₁.heap.get? fa = some o -> o.data = .func (docDef d.name d.params d.body d.scope pm cd doc) -> s₁.heap.CodeRec cd d.name -> mg d.name = some (.ref fa) ->
   s₁.heap.get? a = some { cls:=.type "list",data:=.seq vs.toArray } -> IntsAre vs ns -> ns.length <= n -> s₁.gens = #[] ->
   codeAny (model l.prog w) callerA (.call (.ref fa) ⟨[.ref a],[]⟩) (fun r s' => r = .ok (.ret (.bool true)) /\ OldK s₁.heap s'.heap /\ s'.os = s₁.os /\ AllBare s'.gens) s₁) :
  WalkO q loose XP YP l.row.toRowW d [] (fun f vs=>PySem.call f vs):=by
 intro w s₀ s₁ mg mb G Y fa o pm cd doc dV kV ho hd hcd hD hmg hg args vals as hpre hlay hrd hwl hlo
 obtain rfl : dV = .none:=Dflts.none hD hdf
 obtain rfl : kV = .none:=Dflts.noKw hD
 obtain ⟨a,vs,ns,rfl,rfl,hobj,hints,hlen⟩:=zgL hn hpre hwl
 refine enter_call (codeAny_mono (call w s₀ s₁ mg mb fa o pm cd doc a vs ns G Y ho (fd_plain hd) hcd hmg hobj hints hlen hg) fun r s' hq=>?_)
 obtain ⟨rfl,h2,h3,h4⟩:=hq
 exact ⟨.inl ⟨.bool true,.bool true,[],rfl,fun _=>rfl,.bool true,zgM l _,fun _=>⟨List.Pairwise.nil,fun _ hm=>(nomatch hm)⟩⟩,h2,h3,h4⟩
section
variable {prog : Program} {w : World} {A : Around} {E : Value -> Shared -> Prop} {s : Shared} {K : Frag}
end
end Att
namespace L2
open PySem PySem.Spec PyProof.Rows
theorem zdB : ∀ {vs : List Value} {ns : List Int},IntsAre vs ns -> Vals (ns.map V.int) vs
 | _,_,.nil=>.nil
 | _,_,.cons n t h=>.cons ⟨t,rfl⟩ (zdB h)
def Only (H : Hp) : Prop:=∀ b,H b = none \/ ∃ o xs,H b = some (.frz o (.lst xs))
theorem zhM {P : Program} {w : World} {K : PySem.W.Frag} {mg mb : Str -> Option Value} {CX : CXT} {k : Nat} {fa a : Addr} {fd : FuncData} {x : Str} {sp : Sp} {s₁ : Shared} {vs : List Value} {ns : List Int}
  (KX : K.In s₁.heap) (hns : s₁.heap.Ns mainGlobals mg) (hb : s₁.heap.Ns builtinsNs mb) (hbb : ∀ x : Str,x ≠ "__name__" -> mb x = bootBuiltins x) (hlim : s₁.heap.NoLimit) (hg : s₁.gens = #[])
  (ha : s₁.heap.get? a = some { cls:=.type "list",data:=.seq vs.toArray }) (hi : IntsAre vs ns) (hl : ns.length <= sizeLine) (hr : Room k callerA)
  (F : ∀ base : Heap,K.In base -> base.Ns mainGlobals mg -> FnOk P w K mg base CX k fa fd [x] sp) (hbind : ∀ (s : Shared) (u : Value),BindsTo s fd ⟨[u],[]⟩ [(x,u)])
  (hsp : ∀ H : Hp,Only H -> SqL K H a (ns.map V.int) -> sp [.ref a] H (fun v _=>v = .bl true) fun _ _ _=>False)
  (hCX : ∀ H e s',CX [] H s₁ (fun _ _ _=>False) e s' -> False) :
  codeAny (model P w) callerA (.call (.ref fa) ⟨[.ref a],[]⟩) (fun r s' => r = .ok (.ret (.bool true)) /\ OldK s₁.heap s'.heap /\ s'.os = s₁.os /\ AllBare s'.gens) s₁:=by
 have rv:=zdB hi
 have lenV:=hi.length
 have core : ∀ H : Hp,Only H -> SqL K H a (ns.map V.int) -> HOk P w H s₁.heap -> (∀ b,H b ≠ none -> b = a) -> (H a ≠ none -> K.lookup a = none) ->
   codeAny (model P w) callerA (.call (.ref fa) ⟨[.ref a],[]⟩) (fun r s' => r = .ok (.ret (.bool true)) /\ OldK s₁.heap s'.heap /\ s'.os = s₁.os /\ AllBare s'.gens) s₁:=by
  intro H hO hS hok hA hK
  have base_of : ∀ {b : Addr} {o : Obj},s₁.heap.get? b = some o -> H b = none -> (hidT s₁.heap H).get? b = some o:=fun e n=>zhs e n
  have noA : ∀ {b : Addr} {o : Obj} {es : Array DictEntry} {ep : Nat},s₁.heap.get? b = some o -> o.data = .dict es ep -> H b = none:=fun {b o es ep} e d=>by
   cases q : H b with
   | none=>rfl
   | some u =>
    have e' : b = a:=hA b (by rw [q]; simp)
    subst e'
    rw [ha] at e; cases e
    have d' : Data.seq vs.toArray _ = Data.dict es ep:=d
    cases d'
  have nsK : ∀ {b : Addr} {m : Str -> Option Value},s₁.heap.Ns b m -> (hidT s₁.heap H).Ns b m:=fun {b m} ⟨o,es,ep,e,d,r⟩=>⟨o,es,ep,base_of e (noA e d),d,r⟩
  have hKb : K.In (hidT s₁.heap H):=fun b o e=>base_of (KX b o e) (by
   cases q : H b with
   | none=>rfl
   | some u =>
    have e' : b = a:=hA b (by rw [q]; simp)
    subst e'
    rw [hK (by rw [q]; simp)] at e; cases e)
  have hM : Mod K mg (hidT s₁.heap H):=⟨hKb,nsK hns,⟨mb,nsK hb,hbb⟩,let ⟨mc,h1,h2⟩:=hlim; ⟨mc,nsK h1,h2⟩⟩
  have e0 : Env0 P w K mg (hidT s₁.heap H) callerA [] s₁ H:=⟨rfl,hM,fun b o e=>zis e,Nat.le_of_eq (zgv _ _),trivial,fun b hb=>absurd (show b ∈ ([] : List Addr) from hb) (by simp),hok,.of_eq hg⟩
  refine codeAny_mono ((F _ hKb (nsK hns)).run callerA [] s₁ H ⟨[.ref a],[]⟩ [.ref a] [.ref a] _ _ hr e0 (hbind s₁ (.ref a)) (.cons rfl .nil) (hsp H hO hS)) fun r s' h=>?_
  cases r with
  | error e=>exact (hCX H e s' h).elim
  | ok fl =>
   cases fl with
   | next=>exact False.elim h
   | brk=>exact False.elim h
   | cont=>exact False.elim h
   | ret u =>
    obtain ⟨v,H',os,bare,un,hok',r',q⟩:=h
    have q' : v = .bl true:=q
    subst q'
    obtain rfl : u = Value.bool true:=r'
    refine ⟨rfl,OldK.of_keep fun b o e=>?_,os,bare⟩
    cases q : H b with
    | none=>exact un.keep b o e q (by intro z; exact absurd (show b ∈ ([] : List Addr) from z) (by simp)) (by simp)
    | some u =>
     rcases hO b with z | ⟨ob,xs,z⟩
     ·rw [q] at z; cases z
     ·have z2:=un.frzs b ob _ z
      obtain ⟨e1,_⟩:=hok b _ z
      obtain ⟨e2,_⟩:=hok' b _ z2
      rw [e] at e1; cases e1
      exact e2
 cases hk : K.lookup a with
 | some o =>
  have e:=KX a o hk
  rw [ha] at e
  cases e
  refine core (fun _=>none) (fun _=>.inl rfl) (.inr ⟨_,vs.toArray,_,hk,rfl,rfl,rfl,by rw [List.size_toArray,lenV]; exact hl,by simpa using rv⟩) (fun b u z=>by have z' : (none : Option HO) = some u:=z; cases z') (fun b z=>absurd rfl z) fun z=>absurd rfl z
 | none =>
  refine core (fun b=>if b = a then some (.frz { cls:=.type "list",data:=.seq vs.toArray } (.lst (ns.map V.int))) else none) (fun b=>?_) (.inl (.inr ⟨{ cls:=.type "list",data:=.seq vs.toArray },if_pos rfl⟩)) (fun b u z=>?_) (fun b z=>?_) fun _=>hk
  ·by_cases hb : b = a
   ·exact .inr ⟨_,_,if_pos hb⟩
   ·exact .inl (if_neg hb)
  ·by_cases hb : b = a
   ·have z' := (if_pos hb).symm.trans z
    cases z'
    subst hb
    exact ⟨ha,by rw [List.length_map]; exact hl,vs,_,rv,ha⟩
   ·have z' := (if_neg hb).symm.trans z
    cases z'
  ·by_cases hb : b = a
   ·exact hb
   ·exact absurd (if_neg hb) z
end L2
namespace L2
open PySem PySem.Spec PyProof.Rows
theorem walk_of {l : PySem.W.OpenLaw} {n k : Nat} {q : Program} {loose : List Str} {XP : (Str -> Option Value) -> Heap -> Prop} {YP : World -> Heap -> Prop} {d : DefRec} {K : Params -> PySem.W.Frag} {CX : World -> CXT} {sp : World -> Sp} {x : Str}
  (hn : l.most = some n) (hn2 : n <= sizeLine) (hdf : d.params.defaults = []) (hr : Room k callerA)
  (hY : ∀ (w : World) (h : Heap),YP w h -> (K w.params).In h)
  (F : ∀ (w : World) (mg : Str -> Option Value) (fa : Addr) (h : Heap),(K w.params).In h -> h.Ns mainGlobals mg -> mg d.name = some (.ref fa) ->
   ∃ fd : FuncData,(∀ (s : Shared) (u : Value),BindsTo s fd ⟨[u],[]⟩ [(x,u)]) /\
    ∀ base : Heap,(K w.params).In base -> base.Ns mainGlobals mg -> FnOk l.prog w (K w.params) mg base (CX w) k fa fd [x] (sp w))
  (hsp : ∀ (w : World) (H : Hp) (a : Addr) (ns : List Int),ns.length <= n -> Only H -> SqL (K w.params) H a (ns.map V.int) -> sp w [.ref a] H (fun v _=>v = .bl true) fun _ _ _=>False)
  (hCX : ∀ (w : World) (H : Hp) (s : Shared) (e : Value) (s' : Shared),CX w [] H s (fun _ _ _=>False) e s' -> False) :
  PySem.W.WalkO q loose XP YP l.row.toRowW d [] (fun f vs=>PySem.call f vs):=by
 refine Att.attach_call hn hdf fun w s₀ s₁ mg mb fa o pm cd doc a vs ns G Y ho hd hcd hmg hobj hints hlen hg=>?_
 have KX:=hY w _ Y
 obtain ⟨fd,hb,hF⟩:=F w mg fa _ KX G.T.g hmg
 exact zhM KX G.T.g G.T.b G.T.builtins G.T.nolimit hg hobj hints (Nat.le_trans hlen hn2) hr hF hb (fun H hO hS=>hsp w H a ns hlen hO hS) fun H e s' => hCX w H s₁ e s'
end L2
namespace L2
open PySem PySem.Spec PyProof.Rows
def ybd (s : Stmt) (j : Nat) : Stmt:=match s with
 | .ClassDef _ _ _ body _ _ _ _ _ _ _=>body.getD j (.Pass ⟨0,0,0,0⟩)
 | _=>.Pass ⟨0,0,0,0⟩
def ycx (s : Stmt) : Arguments:=match s with
 | .FunctionDef _ a _ _ _ _ _ _ _ _=>a
 | _=>{ posonlyargs:=[],args:=[],vararg:=none,kwonlyargs:=[],kw_defaults:=[],kwarg:=none,defaults:=[] }
def ybN (s : Stmt) : List Stmt:=match s with
 | .FunctionDef _ _ b _ _ _ _ _ _ _=>b
 | _=>[]
def yag (s : Stmt) : Scope:=match s with
 | .FunctionDef _ _ _ _ _ _ sc _ _ _=>sc
 | _=>{ kind:=.function,names:=[],isGenerator:=false,isCoroutine:=false }
abbrev E0 : XK:=fun _ _ _=>False
structure Fun (K : PySem.W.Frag) (x qual : Str) (st : Stmt) (f : Addr) (fd : FuncData) : Prop where
 ex : ∃ (oc : Value) (od : Option Addr) (kV doc pm : Value) (an : Option Addr) (cdv ct : Value) (osl : Array (Option Value)),
  fd = PySem.W.fnOf x qual (ycx st) (ybN st) (yag st) .none kV doc pm an cdv ct /\ K.lookup f = some ⟨oc,od,.func fd,osl⟩ /\ PySem.W.codeIn K cdv qual = true
 kp : PySem.W.keepIn K (.ref f) = true
section
variable {P : Program} {w : World} {K : PySem.W.Frag} {mg : Str -> Option Value} {base : Heap}
theorem Fun.binds {x qual : Str} {st : Stmt} {f : Addr} {fd : FuncData} {ps : List Str} (F : Fun K x qual st f fd)
  (h : ∀ (kV doc pm : Value) (an : Option Addr) (cdv ct : Value) (us : List Value),us.length = ps.length -> bindArgs (PySem.W.fnOf x qual (ycx st) (ybN st) (yag st) .none kV doc pm an cdv ct) ⟨us,[]⟩ = pure (ps.zip us)) : Binds K fd ps []:=by
 obtain ⟨oc,od,kV,doc,pm,an,cdv,ct,osl,rfl,lk,hcd⟩:=F.ex
 exact .all (h kV doc pm an cdv ct)
theorem yfm {x qual : Str} {st : Stmt} {f : Addr} {oc : Value} {od an : Option Addr} {osl : Array (Option Value)} {kV doc pm cdv ct : Value} (l : K.lookup f = some ⟨oc,od,.func (PySem.W.fnOf x qual (ycx st) (ybN st) (yag st) .none kV doc pm an cdv ct),osl⟩)
  (c : PySem.W.codeIn K cdv qual = true) (k : PySem.W.keepIn K (.ref f) = true) : Fun K x qual st f (PySem.W.fnOf x qual (ycx st) (ybN st) (yag st) .none kV doc pm an cdv ct):=⟨⟨oc,od,kV,doc,pm,an,cdv,ct,osl,rfl,l,c⟩,k⟩
end
section
variable {X : Cx}
theorem pv (i : Nat) {x : Str} {pos : Pos} (hN : X.N[i]? = some x:=by rfl) (hv : Vis X.env.scope x:=by first | exact Or.inl rfl | exact Or.inr (Or.inl rfl) | exact Or.inr (Or.inr rfl)) (hd : (x == ("__debug__" : Str)) = false:=by decide)
  (hcd : (x == ("__classdict__" : Str)) = false:=by decide) : PE X (.Name x pos) (tVar i):=yf4 hN hv hd hcd
theorem zgN : CallR X (.builtin "len") (fun xs H Q=>∃ a kvs,xs = [V.ref a] /\ H a = some (.dK kvs) /\ Q (.int kvs.length) H):=by
 intro pins s σ H xs us Q I r h
 obtain ⟨a,kvs,rfl,ha,q⟩:=h
 obtain ⟨u,rfl,ru⟩:=yb3 r
 cases ru
 exact yhD I (.inl ha) fun t s' I' => ⟨.int kvs.length,H,I',⟨t,rfl⟩,q⟩
end
section
variable {κ : Type} [DecidableEq κ]
end
end L2
set_option maxHeartbeats 4000000
namespace L2
open PySem PySem.Spec PyProof.Rows
section
variable {X : Cx} {pins : List (Addr × Obj)} {σ : St} {H : Hp} {s : Shared} {h' : Heap}
theorem Inv.turnedL {t' : Nat} {fp : List Addr} (I : Inv X pins σ H s) (k : ∀ b o,b ∉ fp -> s.heap.get? b = some o -> h'.get? b = some o) (hf : ∀ b ∈ fp,FpOk X pins H b) :
  Inv X pins σ H { s with heap:=h',toks:=t' }:=by
 have nit : ∀ b u,H b = some u -> b ∉ fp:=fun b u e z=>by
  have q:=(hf b z).1
  rw [q] at e
  cases e
 refine I.step (g' := s.gens) (d' := s.drawn) (ch:=fp) (fun b hb=>?_) (fun b o _ _ hc e _=>k b o hc e) (fun b o _ _ hc e _=>⟨o.slots,k b o hc e⟩) (fun _ _ _ _ n=>n)
  (fun b o hc e=>⟨o,k b o hc e⟩) (fun _ _ e=>e) (fun _ _ _ e=>e) (fun b ps e=>⟨#[],by rw [e]; simp⟩) (fun m hm=>?_) (fun b u e=>?_) I.bare
 ·obtain ⟨_,f1,_,f3,f4,f5⟩:=hf b hb
  exact ⟨f3,f1,f4,f5⟩
 ·obtain ⟨o,es,ep,ho,r⟩:=hm
  exact ⟨o,es,ep,k _ o (fun z=>(hf _ z).2.1 rfl) ho,r⟩
 ·refine (I.hok b u e).stay (fun c v hc q=>k c v ?_ q) (fun _ q=>q) fun _ _ q=>q
  rcases hc with z | z
  ·rw [z]; exact nit b u e
  ·exact nit c _ z
theorem Inv.adopt {T : Addr} {ob : HO} (I : Inv X pins σ H s) (hn : H T = none) (hT : X.s₀.heap.objs.size <= T) (hL : T ≠ X.env.locals) (hc : ∀ x c,X.env.cells.lookup x = some c -> c ≠ T)
  (hp : ∀ p ∈ X.pn++pins,p.1 ≠ T) (new : ObjOk X.prog X.w (upd H T ob) s.heap T ob) : Inv X pins σ (upd H T ob) s:=by
 have hne : ∀ b u,H b = some u -> b ≠ T:=fun b u e=>zav e hn
 refine I.step (h' := s.heap) (g' := s.gens) (d' := s.drawn) (t' := s.toks) (ch:=[T]) (fun b hb=>?_) (fun b o _ _ _ e _=>e) (fun b o _ _ _ e _=>⟨o.slots,e⟩) (fun b o hb e n=>?_) (fun b o _ e=>⟨o,e⟩)
  (fun b xs e=>by rw [yay (hne b _ e)]; exact e) (fun b o u e=>by rw [yay (hne b _ e)]; exact e) (fun b ps e=>⟨#[],by rw [yay (hne b _ e),e]; simp⟩) (fun m hm=>hm) (fun b u e=>?_) I.bare
 ·have e : b = T:=by simpa using hb
  subst e
  exact ⟨.inr hT,hL,hc,hp⟩
 ·rw [yay (fun z=>hb (by simp [z]))]; exact n
 ·by_cases hb : b = T
  ·subst hb; rw [zar] at e; cases e; exact new
  ·rw [yay hb] at e
   exact (I.hok b u e).stay (fun c v _ q=>q) (fun c q=>by rw [yay (hne c _ q)]; exact q) fun c xs q=>by rw [yay (hne c _ q)]; exact q
end
def Ite (K : PySem.W.Frag) (a : Addr) : It :=
 ⟨fun i H=>∃ xs x,SqL K H a xs /\ xs[i]? = some x,fun i H x H' => ∃ (T : Addr) (y : V),x = .ref T /\ H T = none /\ H' = upd H T (.tup [.int i,y]) /\ ∀ xs,SqL K H a xs -> xs[i]? = some y,fun i H=>∃ xs,SqL K H a xs /\ xs.length <= i⟩
theorem zgO {P : Program} {w : World} {K : PySem.W.Frag} {es : List Expr} {k : Nat} {tp : Pos} (a it e : Addr) (hei : e ≠ it) :
  Turn P w K (.Tuple es k tp) (Ite K a) [e,it] e (fun i h=>(∃ old,IsEnum h e it i old) /\ h.IsListIter it a i) where
 mem:=by simp
 obj:=fun i h st b hb=>by
  obtain ⟨⟨old,he⟩,o,ho,hc,hd⟩:=st
  have hb' : b = e \/ b = it:=by simpa using hb
  rcases hb' with rfl | rfl
  ·exact ⟨_,he,fun v z=>by
    have z' : Data.fields _ = Data.cell v:=z
    cases z'⟩
  ·exact ⟨o,ho,fun v z=>by rw [hd] at z; cases z⟩
 keep:=fun i h h' st k=>by
  obtain ⟨⟨old,he⟩,hit⟩:=st
  exact ⟨⟨old,k e (by simp) _ he⟩,hit.at fun o q=>k it (by simp) o q⟩
 item:=by
  intro X hP hw hK hc i pins s σ H E I hf st hg
  subst hP hw hK
  obtain ⟨xs,x,hq,hx⟩:=hg
  obtain ⟨its,rv,p,hz⟩:=I.list hq
  obtain ⟨u,hu,ru⟩:=rv.get hx
  obtain ⟨⟨old,he⟩,hit⟩:=st
  refine wpAny_pyNext_enum_item he hit p.isList (x:=u) (by simpa using hu) hei fun h1 ho hit1 hT hsz hk=>?_
  refine ⟨.ref s.heap.objs.size,rfl,wpAny_letOwnedTupleGo_enum ho fun h2 he2 hs2=>?_⟩
  replace hs2 : Heap.SameBut e h1 h2:=hs2
  have helt : e < s.heap.objs.size:=Heap.lt_size he
  have I1 : Inv X pins σ H { s with heap:=h2,toks:=s.toks + 1 }:=I.turnedL (fp:=[e,it]) (fun b o hb q=>by
   have n1 : b ≠ e:=fun z=>hb (by simp [z])
   have n2 : b ≠ it:=fun z=>hb (by simp [z])
   exact (hs2.2 b n1).trans (hk b o n1 n2 q)) hf
  have hT2 : h2.get? s.heap.objs.size = some { cls:=.type "tuple",data:=.seq #[.int i s.toks,u] }:=(hs2.2 _ (Nat.ne_of_gt helt)).trans hT
  have fp:=I.fpOk (H' := H) (Nat.le_refl s.heap.objs.size) (I.hok.fresh (Nat.le_refl _))
  obtain ⟨f0,f1,f2,f3,f4,f5⟩:=fp
  have I2 : Inv X pins σ (upd H s.heap.objs.size (.tup [.int i,x])) { s with heap:=h2,toks:=s.toks + 1 } :=
   I1.adopt (T:=s.heap.objs.size) f0 (I.sz) f1 f4 f5 ⟨by show 2 <= sizeLine; decide,[.int i s.toks,u],.cons ⟨_,rfl⟩ (.cons ru .nil),⟨_,hT2,rfl,_,rfl⟩⟩
  refine ⟨.ref s.heap.objs.size,_,I2,rfl,⟨s.heap.objs.size,x,rfl,f0,rfl,fun ys hy=>by rw [I.list_inj hy hq]; exact hx⟩,⟨⟨u,by simpa using he2⟩,hit1.extBut hs2.extBut (Ne.symm hei)⟩,fun b hb=>?_⟩
  obtain ⟨g0,_⟩:=hf b hb
  obtain ⟨o,hob,_⟩ : ∃ o,s.heap.get? b = some o /\ True:=by
   have hb' : b = e \/ b = it:=by simpa using hb
   rcases hb' with rfl | rfl
   ·exact ⟨_,he,trivial⟩
   ·obtain ⟨o,q,_⟩:=hit
    exact ⟨o,q,trivial⟩
  rw [yay (Nat.ne_of_lt (Heap.lt_size hob))]
  exact g0
 done:=by
  intro X hP hw hK hc i pins s σ H E I hf st hg
  subst hP hw hK
  obtain ⟨xs,hq,hx⟩:=hg
  obtain ⟨its,rv,p,hz⟩:=I.list hq
  obtain ⟨⟨old,he⟩,hit⟩:=st
  have hl:=rv.length
  exact wpAny_pyNext_enum_end (I.ok.hd hc) he hit p.isList (by simp; omega) fun h' eb=>⟨rfl,I.turnedL (fp:=[e,it]) (t' := s.toks) (fun b o hb q=>eb b o (fun z=>hb (by simp [z])) q) hf⟩
 self:=fun _ _ _ _ _ st h=>by
  obtain ⟨⟨old,he⟩,_⟩:=st
  exact wpAny_pyIter_enum he h
section
variable {X : Cx}
def iEnum (K : PySem.W.Frag) (ta : TA) : TI:=fun σ H R=>ta σ H fun vs H1=>∃ a,vs = [.ref a] /\ (∃ xs,SqL K H1 a xs) /\ R (Ite K a) H1
theorem ziO {l : Expr} {ta : TA} {p pos tp : Pos} {es : List Expr} {k : Nat} (hg : Gl X "enumerate") (hm : X.mg "enumerate" = none) (ha : PA X [l] ta) (hs : starEach [l] X.env = [(false,eval l X.env)]:=by rfl) :
  PI X (.Tuple es k tp) (.Call (.Name "enumerate" p) [l] [] pos) (iEnum X.K ta):=by
 intro pins s σ H R I h
 refine Call_ (yck I hg hm boot_enumerate (PyProof.Rows.callWith_type1 (thn (ha pos pins s σ H _ I h) fun us s1 ⟨vs,H1,I1,r1,q1⟩=>?_) hs rfl))
 obtain ⟨a,e,⟨xs,hq⟩,q⟩:=q1
 subst e
 cases r1 with
 | cons r rr =>
  cases rr
  cases r
  obtain ⟨its,rv,pl,hz⟩:=I1.list hq
  refine call_enumerate_list pl.isList fun h' he hit hsz hk=>wpAny_pyIter_enum he ?_
  refine ⟨s1.heap.objs.size + 1,[s1.heap.objs.size + 1,s1.heap.objs.size],_,_,H1,rfl,I1.kept (t' := s1.toks) fun b o e=>hk b o e,zgO a _ _ (Nat.succ_ne_self _),⟨⟨_,he⟩,hit⟩,fun b hb=>?_,q⟩
  have hb' : b = s1.heap.objs.size + 1 \/ b = s1.heap.objs.size:=by simpa using hb
  rcases hb' with rfl | rfl
  ·exact I1.fpOk (Nat.le_succ _) (I1.hok.fresh (Nat.le_succ _))
  ·exact I1.fpOk (Nat.le_refl _) (I1.hok.fresh (Nat.le_refl _))
end
def Its (x : Str) : It:=⟨fun i _=>i < x.cps.size,fun i H v H' => H' = H /\ ∃ c,x.cps[i]? = some c /\ v = .str ⟨#[c]⟩,fun i _=>x.cps.size <= i⟩
theorem zgP {P : Program} {w : World} {A : Around} (hh : A.handled = none) (it : Addr) (x : Str) (t : Tok) :
  Walks P w A it [it] [it] x.cps.size (SignAt x) (fun i h=>h.IsStrIter it (strIterType x) x t i):=by
 cases ha : x.cps.all (· < 128) with
 | false =>
  have e : strIterType x = "str_iterator" := by simp [strIterType,ha]
  rw [e]
  exact Walks.strWide hh it x t
 | true =>
  have e : strIterType x = "str_ascii_iterator" := by simp [strIterType,ha]
  rw [e]
  exact Walks.strAscii hh it x t
theorem zhN {P : Program} {w : World} {K : PySem.W.Frag} {y : Str} {py : Pos} (it : Addr) (x : Str) (t : Tok) : Turn P w K (.Name y py) (Its x) [it] it (fun i h=>h.IsStrIter it (strIterType x) x t i) where
 mem:=by simp
 obj:=fun i h st b hb=>by
  have e : b = it:=by simpa using hb
  subst e
  obtain ⟨o,e,c,d⟩:=st
  exact ⟨o,e,fun v z=>by rw [d] at z; cases z⟩
 keep:=fun i h h' st k=>by
  obtain ⟨o,e,r⟩:=st
  exact ⟨o,k it (by simp) o e,r⟩
 item:=by
  intro X hP hw hK hc i pins s σ H E I hf st hg
  subst hP hw hK
  refine (zgP (I.ok.hd hc) it x t).item i s _ _ hg st fun v h1 tk hv st1 kk=>?_
  obtain ⟨c,u,hcp,rfl⟩:=hv
  have I1 : Inv X pins σ H { s with heap:=h1,toks:=tk }:=I.turnedL (fp:=[it]) kk hf
  exact ⟨_,rfl,wpAny_pure ⟨.str ⟨#[c]⟩,H,I1,⟨u,rfl⟩,⟨rfl,c,hcp,rfl⟩,st1,fun b hb=>(hf b hb).1⟩⟩
 done:=by
  intro X hP hw hK hc i pins s σ H E I hf st hg
  subst hP hw hK
  have hx : x.cps[i]? = none:=Array.getElem?_eq_none hg
  cases ha : x.cps.all (· < 128) with
  | false =>
   have e : strIterType x = "str_iterator" := by simp [strIterType,ha]
   rw [e] at st
   exact wpAny_pyNext_wide_end (I.ok.hd hc) st hx fun h' eb=>⟨rfl,I.turnedL (fp:=[it]) (t' := s.toks) (fun b o hb q=>eb b o (fun z=>hb (by simp [z])) q) hf⟩
  | true =>
   have e : strIterType x = "str_ascii_iterator" := by simp [strIterType,ha]
   rw [e] at st
   exact wpAny_pyNext_ascii_end (I.ok.hd hc) st hx fun h' eb=>⟨rfl,I.turnedL (fp:=[it]) (t' := s.toks) (fun b o hb q=>eb b o (fun z=>hb (by simp [z])) q) hf⟩
 self:=fun A i s Q E st h=>by
  cases ha : x.cps.all (· < 128) with
  | false =>
   have e : strIterType x = "str_iterator" := by simp [strIterType,ha]
   rw [e] at st
   exact wpAny_pyIter_striter_wide st h
  | true =>
   have e : strIterType x = "str_ascii_iterator" := by simp [strIterType,ha]
   rw [e] at st
   exact wpAny_pyIter_striter_ascii st h
section
variable {X : Cx}
def iStr (tl : TE) : TI:=fun σ H R=>tl σ H fun x H1=>∃ t,x = .str t /\ R (Its t) H1
theorem ygA {l : Expr} {tl : TE} {y : Str} {py : Pos} (hl : PE X l tl) : PI X (.Name y py) l (iStr tl):=by
 intro pins s σ H R I h
 refine thn (hl pins s σ H _ I h) fun v s1 ⟨x,H1,I1,r1,q1⟩=>?_
 obtain ⟨t,e,q⟩:=q1
 subst e
 obtain ⟨tk,rfl⟩:=r1
 refine wpAny_pyIter_strU ?_
 refine ⟨s1.heap.objs.size,[s1.heap.objs.size],_,_,H1,rfl,I1.kept (t' := s1.toks) fun b o e=>Heap.get?_push_of_some _ e,zhN _ t tk,⟨_,Heap.get?_push_size _ rfl,rfl,rfl⟩,fun b hb=>?_,q⟩
 have e : b = s1.heap.objs.size:=by simpa using hb
 subst e
 exact I1.fpOk (Nat.le_refl _) (I1.hok.fresh (Nat.le_refl _))
end
def yaN (env : Env) : List (Str × NameKind) -> List (Str × Addr) -> List (Str × Addr)
 | [],acc=>acc
 | (n,k) :: r,acc=>yaN env r (if k = .free then (n,(env.cells.lookup n).getD 0) :: acc else acc)
theorem zf5 {env : Env} {scope : Scope} (h : ∀ y ∈ scope.names,y.2 = .free -> (env.cells.lookup y.1).isSome = true) : closureFor scope env = pure (yaN env scope.names []):=by
 have all : ∀ (l : List (Str × NameKind)) (acc : List (Str × Addr)),(∀ y ∈ l,y.2 = .free -> (env.cells.lookup y.1).isSome = true) ->
   (forIn l acc fun (x : Str × NameKind) (cs : List (Str × Addr))=>if (x.2 == NameKind.free) = true then (do let a <- cellOf env x.1; pure (ForInStep.yield ((x.1,a) :: cs))) else (pure (ForInStep.yield cs) : Sem _)) = pure (yaN env l acc):=by
  intro l
  induction l with
  | nil=>intro acc _; rfl
  | cons y r ih =>
   intro acc hl
   obtain ⟨n,k⟩:=y
   rw [List.forIn_cons]
   have hr:=fun z hz=>hl z (List.mem_cons_of_mem _ hz)
   by_cases hk : k = .free
   ·subst hk
    obtain ⟨c,hc⟩:=Option.isSome_iff_exists.mp (hl (n,.free) List.mem_cons_self rfl)
    have e1 : cellOf env n = pure c:=by
     simp only [cellOf]
     have hc' : env.cells.lookup n = some c:=hc
     rw [hc']
    simp only [beq_self_eq_true,if_true,e1,pure_bind,yaN]
    have hc' : env.cells.lookup n = some c:=hc
    rw [hc']
    exact ih _ hr
   ·have hb : (k == NameKind.free) = false:=by simpa using hk
    simp only [hb,Bool.false_eq_true,if_false,pure_bind,yaN,hk]
    exact ih _ hr
 unfold closureFor
 have q:=all scope.names [] h
 first
  | exact q
  | (simp only [bind_pure]; exact q)
  | (rw [<- q]; simp)
theorem zcw {env : Env} : ∀ {l : List (Str × NameKind)} {acc : List (Str × Addr)},(∀ y ∈ l,y.2 = .free -> (env.cells.lookup y.1).isSome = true) -> (∀ y c,acc.lookup y = some c -> env.cells.lookup y = some c) ->
  ∀ y c,(yaN env l acc).lookup y = some c -> env.cells.lookup y = some c
 | [],_,_,h,y,c,e=>h y c e
 | (n,k) :: r,acc,hl,h,y,c,e=>by
  refine zcw (l:=r) (fun z hz=>hl z (List.mem_cons_of_mem _ hz)) ?_ y c e
  intro y c e
  by_cases hk : k = .free
  ·rw [if_pos hk] at e
   rw [List.lookup_cons] at e
   cases hy : y == n with
   | true =>
    rw [hy] at e
    have e' : y = n:=by simpa using hy
    obtain ⟨c',hc'⟩:=Option.isSome_iff_exists.mp (hl (n,k) List.mem_cons_self hk)
    have hc'' : env.cells.lookup n = some c' := hc'
    rw [hc''] at e
    rw [e',hc'']
    exact e
   | false =>
    rw [hy] at e
    exact h y c e
  ·rw [if_neg hk] at e
   exact h y c e
theorem zcx {env : Env} : ∀ {l : List (Str × NameKind)} {acc : List (Str × Addr)} {y : Str},(y,NameKind.free) ∈ l \/ (acc.lookup y).isSome = true -> ((yaN env l acc).lookup y).isSome = true
 | [],_,_,h=>by
  rcases h with h | h
  ·cases h
  ·exact h
 | (n,k) :: r,acc,y,h=>by
  refine zcx (l:=r) ?_
  rcases h with h | h
  ·rcases List.mem_cons.mp h with e | e
   ·right
    cases e
    rw [if_pos rfl,List.lookup_cons]
    simp
   ·exact .inl e
  ·right
   by_cases hk : k = .free
   ·rw [if_pos hk,List.lookup_cons]
    cases hy : y == n with
    | true=>rfl
    | false=>exact h
   ·rw [if_neg hk]; exact h
theorem zaD {names : List (Str × NameKind)} {x : Str} {k : NameKind} (h : names.lookup x = some k) : (x,k) ∈ names:=PySem.mem_of_lookup h
theorem zaM {env : Env} {x : Str} {k : NameKind} : ∀ {names : List (Str × NameKind)},(names.map fun (n,k)=>if (k == NameKind.free && env.scope.kind == .function && env.kindOf n == some .cell) then (n,NameKind.cell) else (n,k)).lookup x = some k ->
  names.lookup x = some k \/ (k = .cell /\ names.lookup x = some .free)
 | [],h=>by simp at h
 | (n,kk) :: r,h=>by
  have ih:=@zaM env x k r
  by_cases hc : (kk == NameKind.free && env.scope.kind == .function && env.kindOf n == some .cell) = true
  ·have hf : kk = .free:=by
    have q:=(Bool.and_eq_true _ _).mp ((Bool.and_eq_true _ _).mp hc).1
    simpa using q.1
   subst hf
   have h' : List.lookup x ((n,NameKind.cell) :: (r.map fun (n,k)=>if (k == NameKind.free && env.scope.kind == .function && env.kindOf n == some .cell) then (n,NameKind.cell) else (n,k))) = some k:=by
    have e : (fun (p : Str × NameKind)=>match p with | (n,k)=>if (k == NameKind.free && env.scope.kind == .function && env.kindOf n == some .cell) = true then (n,NameKind.cell) else (n,k)) (n,NameKind.free) = (n,NameKind.cell):=by
     show (if _ then _ else _) = _
     rw [if_pos hc]
    rw [List.map_cons] at h
    rw [<- e]
    exact h
   rw [List.lookup_cons] at h' ⊢
   cases hx : x == n with
   | true =>
    rw [hx] at h'
    right
    exact ⟨(Option.some.inj h').symm,rfl⟩
   | false =>
    rw [hx] at h'
    exact ih h'
  ·have h' : List.lookup x ((n,kk) :: (r.map fun (n,k)=>if (k == NameKind.free && env.scope.kind == .function && env.kindOf n == some .cell) then (n,NameKind.cell) else (n,k))) = some k:=by
    have e : (fun (p : Str × NameKind)=>match p with | (n,k)=>if (k == NameKind.free && env.scope.kind == .function && env.kindOf n == some .cell) = true then (n,NameKind.cell) else (n,k)) (n,kk) = (n,kk):=by
     show (if _ then _ else _) = _
     rw [if_neg hc]
    rw [List.map_cons] at h
    rw [<- e]
    exact h
   rw [List.lookup_cons] at h' ⊢
   cases hx : x == n with
   | true =>
    rw [hx] at h'
    exact .inl h'
   | false =>
    rw [hx] at h'
    exact ih h'
def ya0 (X : Cx) (pins : List (Addr × Obj)) (x₁ : Str) (jf : List (Nat × Str)) (scope : Scope) (cl : List (Str × Addr)) (s : Shared) (H : Hp) (fp : List Addr) : Cx where
 prog:=X.prog
 w:=X.w
 K:=X.K
 mg:=X.mg
 base:=X.base
 A:=X.A
 N:=x₁ :: jf.map (·.2)
 s₀:=s
 H₀:=H
 env:=compEnvC scope cl s.heap.objs.size X.env
 outer:=X.stack
 stack:=X.stack
 ex:=fp
 fn:=fun _=>false
 calm:=X.calm
 pn:=X.pn++pins
 xe:=fun _ _=>False
def ybr (v : Option V) (js : List (Nat × Str)) (σ : St) : St:=v :: js.map fun j=>(σ[j.1]?).join
def PTs (X : Cx) (ifs : List Expr) (t : TT) : Prop :=
 ∀ (pins : List (Addr × Obj)) (s : Shared) (σ : St) (H : Hp) (Q : Bool -> Hp -> Prop),Inv X pins σ H s -> t σ H Q ->
  wpAny (model X.prog X.w) X.A (forIn ifs true fun c r=>if r = true then do let ok <- isTrue c X.env (eval c X.env); pure (ForInStep.yield ok) else pure (ForInStep.yield r)) (TP X pins σ Q) X.xe s
def tYes : TT:=fun _ H Q=>Q true H
theorem ziP {X : Cx} : PTs X [] tYes:=fun pins s σ H Q I h=>wpAny_tests_nil ⟨H,I,h⟩
def yee (jf : List (Nat × Str)) (wi : TI) (tc : TT) (te : TE) : TE:=fun σ H Q=>wi σ H fun J H1=>∀ D,H1 D = none -> ∃ W : Nat -> Nat -> List V -> Hp -> Prop,(∃ m,W 0 m [] (upd H1 D (.lst []))) /\
 ∀ i m ys H2,W i m ys H2 -> H2 D = some (.lst ys) /\ ((J.stop i H2 /\ Q (.ref D) H2) \/ (J.go i H2 /\ ys.length < sizeLine /\ ∀ x H3,J.yld i H2 x H3 -> tc (ybr (some x) jf σ) H3 fun b H5 =>
  if b = true then te (ybr (some x) jf σ) H5 fun v H6=>H6 D = some (.lst ys) /\ ∃ m',m' < m /\ W (i + 1) m' (ys++[v]) (upd H6 D (.lst (ys++[v]))) else ∃ m',m' < m /\ W (i + 1) m' ys H5))
section
variable {X : Cx} {pins : List (Addr × Obj)} {σ : St} {H : Hp} {s : Shared} {x₁ : Str} {jf : List (Nat × Str)} {scope : Scope} {fp : List Addr}
theorem Inv.block {h1 : Heap} {tk : Nat} (I : Inv X pins σ H s) (hf : ∀ b ∈ fp,FpOk X pins H b) (hlt : ∀ b ∈ fp,b < s.heap.objs.size) (hjf : ∀ p ∈ jf,X.N[p.1]? = some p.2) (hjl : ∀ p ∈ jf,scope.names.lookup p.2 = some .free) (hkind : scope.kind = .function)
  (hcell : ∀ y ∈ scope.names,y.2 ≠ .cell) (hfr : ∀ y ∈ scope.names,y.2 = .free -> X.env.kindOf y.1 = some .cell \/ X.env.kindOf y.1 = some .free)
  (hn : h1.Ns s.heap.objs.size (fun _=>none)) (hk : ∀ b o,s.heap.get? b = some o -> h1.get? b = some o) :
  Inv (ya0 X pins x₁ jf scope (yaN X.env scope.names []) s H fp) [] (ybr none jf σ) H { s with heap:=h1,toks:=tk }:=by
 have hsome : ∀ y ∈ scope.names,y.2 = .free -> (X.env.cells.lookup y.1).isSome = true:=fun y hy hyf=>Option.isSome_iff_exists.mpr (I.ok.has y.1 (hfr y hy hyf))
 have sub : ∀ y c,(yaN X.env scope.names []).lookup y = some c -> X.env.cells.lookup y = some c:=zcw hsome (fun y c e=>by simp at e)
 have hsz:=I.sz
 have inE : ∀ b,b ∈ (ya0 X pins x₁ jf scope (yaN X.env scope.names []) s H fp).ex -> b ∈ fp:=fun b z=>z
 have stk : ∀ b ∈ frs X.stack,b < s.heap.objs.size:=fun b hb=>by
  obtain ⟨_,o,ho,_⟩:=I.stack.mem hb
  exact Heap.lt_size ho
 refine ⟨⟨I.ok.mod,hkind,I.ok.glob,I.ok.blt,Nat.le_refl _,fun y z c e1 e2=>I.ok.inj y z c (sub y c e1) (sub z c e2),fun y hy=>?_,fun y c hfn _=>(by cases hfn),I.ok.hd,I.ok.frames,.inl rfl,fun b hb=>?_,fun b o e=>I.bs b o e,Nat.le_trans I.ok.bsz hsz,fun b o e z=>?_,fun b hb z=>?_,I.stack,I.stkFree⟩,
  rfl,I.bare,Un.kept hk,⟨_,hn,fun i y v e1 e2 e3=>?_⟩,fun y c e=>?_,I.hok.fresh (Nat.le_refl _),fun y c e=>I.freeC y c (sub y c e),fun p hp=>?_,I.hok.kept hk,?_⟩
 ·have hy' : (relabel scope X.env).names.lookup y = some .cell \/ (relabel scope X.env).names.lookup y = some .free:=hy
  have mem : (y,NameKind.free) ∈ scope.names:=by
   rcases hy' with q | q
   ·rcases zaM (env:=X.env) q with z | z
    ·exact absurd rfl (hcell _ (zaD z))
    ·exact zaD z.2
   ·rcases zaM (env:=X.env) q with z | z
    ·exact zaD z
    ·exact zaD z.2
  exact Option.isSome_iff_exists.mp (zcx (.inl mem))
 ·exact ⟨Nat.ne_of_lt (hlt b hb),fun y c e=>(hf b hb).2.2.2.2.1 y c (sub y c e)⟩
 ·rcases (hf b z).2.2.2.1 with q | q
  ·exact I.ok.noex b o e q
  ·exact absurd (Nat.lt_of_lt_of_le (Heap.lt_size e) (Nat.le_trans I.ok.bsz q)) (Nat.lt_irrefl _)
 ·rcases List.mem_cons.mp (I.stkSub b z) with q | q
  ·exact (hf b hb).2.1 q
  ·exact (hf b hb).2.2.1 q
 ·have e1' : (x₁ :: jf.map (·.2))[i]? = some y:=e1
  unfold ybr at e2
  cases i with
  | zero=>cases e2
  | succ i =>
   rw [List.getElem?_cons_succ,List.getElem?_map] at e1' e2
   cases q : jf[i]? with
   | none=>rw [q] at e2; cases e2
   | some p =>
    rw [q] at e1' e2
    have ey : p.2 = y:=Option.some.inj e1'
    have ev : (σ[p.1]?).join = some v:=Option.some.inj e2
    have hp : p ∈ jf:=List.mem_of_getElem? q
    have eσ : σ[p.1]? = some (some v):=by
     cases z : σ[p.1]? with
     | none=>rw [z] at ev; cases ev
     | some r=>rw [z] at ev; rw [show r = some v from ev]
    have hfree : scope.names.lookup y = some .free:=by rw [<- ey]; exact hjl p hp
    have mem:=zaD hfree
    have kX:=hfr _ mem rfl
    obtain ⟨m,hnX,hl⟩:=I.loc
    obtain ⟨u,ru,lk⟩:=hl p.1 y v (by rw [<- ey]; exact hjf p hp) eσ (by
     rcases kX with z | z
     ·exact .inr (.inl z)
     ·exact .inr (.inr z))
    refine ⟨u,ru,.inr ⟨?_,?_⟩⟩
    ·have e3' : Vis (relabel scope X.env) y:=e3
     rcases e3' with z | z | z
     ·exfalso
      rcases zaM (env:=X.env) z with q | q
      ·rw [hfree] at q; cases q
      ·cases q.1
     ·exact .inl z
     ·exact .inr z
    ·rcases lk with ⟨z,_⟩ | ⟨_,c,hc,hcell'⟩
     ·exfalso
      rcases kX with q | q
      ·rw [show X.env.kindOf y = some .cell from q] at z; cases z
      ·rw [show X.env.kindOf y = some .free from q] at z; cases z
     ·obtain ⟨c',hc'⟩:=Option.isSome_iff_exists.mp (zcx (env:=X.env) (acc:=[]) (.inl mem))
      have e:=sub y c' hc'
      rw [hc] at e
      cases e
      obtain ⟨o,ho,hd⟩:=hcell'
      exact ⟨c,hc',o,hk c o ho,hd⟩
 ·obtain ⟨v,o,ho,hd⟩:=I.cell y c (sub y c e)
  exact ⟨v,o,hk c o ho,hd⟩
 ·have hp' : p ∈ X.pn++pins:=by simpa [ya0] using hp
  obtain ⟨e,n,ne,nf,d⟩:=I.pin p hp'
  refine ⟨hk _ _ e,n,Nat.ne_of_lt (Heap.lt_size e),fun z=>?_,d⟩
  rcases List.mem_cons.mp (I.stkSub p.1 z) with q | q
  ·exact ne q
  ·exact nf q
 ·unfold ybr
  show _ = (x₁ :: jf.map (·.2)).length
  rw [List.length_cons,List.length_cons,List.length_map,List.length_map]
end
theorem zea {prog : Program} {w : World} {A : Around} {R : Result -> Shared -> Prop} {s : Shared} {elt target iter : Expr} {ifs : List Expr} {scope : Scope} {pos : Pos} {it acc : Value} {env : Env} (I : Nat -> Shared -> Prop)
  (turn : ∀ n s,I n s -> wpAny (model prog w) A (pyNext it) (fun r s₁=>match r with
   | none=>R (.ok .next) s₁
   | some v=>wpAny (model prog w) A (letOwnedTupleGo target it v) (fun _ s₂=>wpAny (model prog w) A (assign target env v) (fun _ s₃ =>
     wpAny (model prog w) A (forIn ifs true fun c r=>if r = true then do let ok <- isTrue c env (eval c env); pure (ForInStep.yield ok) else pure (ForInStep.yield r)) (fun ok s₄ =>
      if ok = true then wpAny (model prog w) A (eval elt env) (fun x s₅=>wpAny (model prog w) A (call (.builtin "list.append") [acc,x]) (fun _ s₆=>∃ m,m < n /\ I m s₆) (fun _ _=>False) s₅) (fun _ _=>False) s₄
      else ∃ m,m < n /\ I m s₄) (fun _ _=>False) s₃) (fun _ _=>False) s₂) (fun _ _=>False) s₁) (fun _ _=>False) s)
  (n : Nat) (h : I n s) : codeAny (model prog w) A (.compLoop (.ListComp elt [⟨target,iter,ifs,0⟩] scope pos) 0 it acc env) R s:=by
 refine codeAny_loop rfl I (fun n s hI=>?_) n h
 show wpAny _ A ((compTurn (.ListComp elt [⟨target,iter,ifs,0⟩] scope pos) 0 it acc env).onRaise (fun x=>do noteFrame x env; theTreesLotGoes x)) _ _ s
 refine wpAny_noted ?_
 rw [compTurn_list]
 refine wpAny_bind (wpAny_standAt (wpAny_bind (wpAny_mono (turn n s hI) (fun r s₁ h₁=>?_) fun _ _ z=>z.elim)))
 cases r with
 | none=>exact wpAny_pure h₁
 | some v =>
  refine wpAny_bind (wpAny_mono h₁ (fun _ s₂ h₂=>?_) fun _ _ z=>z.elim)
  refine wpAny_bind (wpAny_mono h₂ (fun _ s₃ h₃=>wpAny_bind (wpAny_mono h₃ (fun ok s₄ h₄=>?_) fun _ _ z=>z.elim)) fun _ _ z=>z.elim)
  cases ok with
  | false=>exact wpAny_pure ⟨rfl,h₄⟩
  | true =>
   exact wpAny_bind (wpAny_bind (wpAny_mono h₄ (fun x s₅ h₅=>wpAny_bind (wpAny_mono h₅ (fun _ s₆ h₆=>wpAny_pure (wpAny_pure ⟨rfl,h₆⟩)) fun _ _ z=>z.elim)) fun _ _ z=>z.elim))
section
variable {X : Cx} {x₁ : Str} {px : Pos} {jf : List (Nat × Str)} {scope : Scope} {iter elt : Expr} {ifs : List Expr} {pos : Pos} {wi : TI} {tc : TT} {te : TE}
theorem zeb (hcalm : X.calm = true) (hi : PI X (.Name x₁ px) iter wi) (hc : ∀ pins cl s H fp,PTs (ya0 X pins x₁ jf scope cl s H fp) ifs tc) (he : ∀ pins cl s H fp,PE (ya0 X pins x₁ jf scope cl s H fp) elt te)
  (hN : (x₁ :: jf.map (·.2)).Nodup) (hx : scope.names.lookup x₁ = some .local) (hjf : ∀ p ∈ jf,X.N[p.1]? = some p.2) (hjl : ∀ p ∈ jf,scope.names.lookup p.2 = some .free) (hkind : scope.kind = .function)
  (hcell : ∀ y ∈ scope.names,y.2 ≠ .cell) (hfr : ∀ y ∈ scope.names,y.2 = .free -> X.env.kindOf y.1 = some .cell \/ X.env.kindOf y.1 = some .free)
  (hnames : ∀ y ∈ scope.names,y.2 = .local -> scope.names.lookup y.1 = some .local) {use : Option (Value -> Sem Unit)} {Qf : Value -> Shared -> Prop} {cpos : Pos}
  {pins : List (Addr × Obj)} {σ : St} {H : Hp} {s : Shared} {Q : VK} (I : Inv X pins σ H s) (h : yee jf wi tc te σ H Q)
  (fin : ∀ D C s6 H6 m6,Inv X pins σ H6 s6 -> Q (.ref D) H6 -> FpOk X pins H6 C -> s6.heap.Ns C m6 -> compPost (model X.prog X.w) X.A X.xe use Qf (.ref D) C (.ok .next) s6) (hs : ∀ x,foldedSetIterable iter X.env x = pure x) :
  wpAny (model X.prog X.w) X.A (comprehension (.ListComp elt [⟨.Name x₁ px,iter,ifs,0⟩] scope pos) scope X.env cpos (newList []) false (eval iter X.env) use) Qf X.xe s:=by
 have hsome : ∀ y ∈ scope.names,y.2 = .free -> (X.env.cells.lookup y.1).isSome = true:=fun y hy hyf=>Option.isSome_iff_exists.mpr (I.ok.has y.1 (hfr y hy hyf))
 refine wpAny_comprehension_free (use:=use) rfl hs (zf5 hsome) hkind hnames (thn (hi pins s σ H _ I h) fun xv s1 h1=>thn h1 fun itv s2 h2=>?_)
 obtain ⟨it,fp,tn,J,H2,e,I2,T,st2,f2,h⟩:=h2
 subst e
 refine wpAny_newObj_type (wpAny_newFunctionEnv hcell (by intro y hy; simp at hy) (fun h₁ hns₁ hsb₁=>?_) hkind)
 have hD0 : H2 s2.heap.objs.size = none:=I2.hok.fresh (Nat.le_refl _)
 obtain ⟨W,⟨m0,w0⟩,step⟩:=h s2.heap.objs.size hD0
 dsimp only at hns₁ hsb₁ ⊢
 have I3 : Inv X pins σ (upd H2 s2.heap.objs.size (.lst [])) { s2 with heap:=s2.heap.push { cls:=.type "list",dict:=none,data:=.seq ([] : List Value).toArray } } :=
  I2.laid (t' := s2.toks) (fun b u q=>Heap.get?_push_of_some _ q) (Nat.le_refl _) ⟨Nat.zero_le _,[],0,.nil,Heap.get?_push_size _ rfl⟩
 generalize hH3 : s2.heap.push { cls:=.type "list",dict:=none,data:=.seq ([] : List Value).toArray } = hp3 at hns₁ hsb₁ I3 ⊢
 have hsz3 : hp3.objs.size = s2.heap.objs.size + 1:=by rw [<- hH3,Heap.size_push]
 have k23 : ∀ b o,s2.heap.get? b = some o -> hp3.get? b = some o:=fun b o q=>by rw [<- hH3]; exact Heap.get?_push_of_some _ q
 have flt : ∀ b ∈ fp,b < s2.heap.objs.size:=fun b hb=>by
  obtain ⟨o,q,_⟩:=T.obj 0 _ st2 b hb
  exact Heap.lt_size q
 have f3 : ∀ b ∈ fp,FpOk X pins (upd H2 s2.heap.objs.size (.lst [])) b:=fun b hb=>by
  obtain ⟨g0,g⟩:=f2 b hb
  exact ⟨by rw [yay (Nat.ne_of_lt (flt b hb))]; exact g0,g⟩
 have kC : ∀ b o,hp3.get? b = some o -> h₁.get? b = some o:=fun b o q=>(hsb₁.2 b (Nat.ne_of_lt (Heap.lt_size q))).trans (Heap.get?_push_of_some _ q)
 have B0:=I3.block (x₁:=x₁) (jf:=jf) (scope:=scope) (fp:=fp) (h1:=h₁) (tk:=s2.toks + ([] : List (Str × Value)).length) f3 (fun b hb=>by show b < hp3.objs.size; rw [hsz3]; exact Nat.lt_succ_of_lt (flt b hb)) hjf hjl hkind hcell hfr (by simpa using hns₁) kC
 have st4 : tn 0 h₁:=T.keep _ _ _ st2 fun b _ o q=>kC b o (k23 b o q)
 have w0' := w0
 have stat : ∀ {H' : Hp},(∀ b ∈ fp,H' b = none) -> ∀ b ∈ fp,FpOk (ya0 X pins x₁ jf scope (yaN X.env scope.names []) { s2 with heap:=hp3 } (upd H2 s2.heap.objs.size (.lst [])) fp) [] H' b:=fun hn b hb=>by
  obtain ⟨_,g1,g2,g3,g4,g5⟩:=f2 b hb
  refine ⟨hn b hb,Nat.ne_of_lt (by show b < hp3.objs.size; rw [hsz3]; exact Nat.lt_succ_of_lt (flt b hb)),fun z=>?_,.inl hb,fun y c q=>g4 y c (zcw hsome (fun y c e=>by simp at e) y c q),fun p hp=>g5 p (by simpa [ya0] using hp)⟩
  rcases List.mem_cons.mp (I2.stkSub b z) with q | q
  ·exact g1 q
  ·exact g2 q
 have loop : codeAny (model X.prog X.w) X.A (.compLoop (.ListComp elt [⟨.Name x₁ px,iter,ifs,0⟩] scope pos) 0 (.ref it) (.ref s2.heap.objs.size) (compEnvC scope (yaN X.env scope.names []) hp3.objs.size X.env))
   (compPost (model X.prog X.w) X.A X.xe use Qf (.ref s2.heap.objs.size) hp3.objs.size) { s2 with heap:=h₁,toks:=s2.toks + ([] : List (Str × Value)).length }:=by
  refine zea (fun n s' => ∃ i ys H',Inv (ya0 X pins x₁ jf scope (yaN X.env scope.names []) { s2 with heap:=hp3 } (upd H2 s2.heap.objs.size (.lst [])) fp) [] (ybr none jf σ) H' s' /\ tn i s'.heap /\ (∀ b ∈ fp,H' b = none) /\ W i n ys H') ?_ m0
   ⟨0,[],_,B0,st4,fun b hb=>(f3 b hb).1,w0⟩
  rintro n s5 ⟨i,ys,H5,I5,st5,fr5,w5⟩
  obtain ⟨hD5,alt⟩:=step i n ys H5 w5
  rcases alt with ⟨stop,q5⟩ | ⟨go,hlen,next⟩
  ·refine wpAny_mono (T.done (ya0 X pins x₁ jf scope (yaN X.env scope.names []) { s2 with heap:=hp3 } (upd H2 s2.heap.objs.size (.lst [])) fp) rfl rfl rfl hcalm i [] s5 _ H5 (fun _ _=>False) I5 (stat fr5) st5 stop) (fun r s6 ⟨hr,I6⟩=>?_) fun _ _ z=>z
   subst hr
   obtain ⟨m6,hn6,_⟩:=id I6.loc
   refine fin _ _ s6 H5 m6 ?_ q5 (I3.fpOk (Nat.le_refl _) I6.free) hn6
   refine I3.call' (ch:=fp) I6.os I6.base I6.hok I6.bare (fun b hb=>?_)
   obtain ⟨_,g1,g2,g3,g4,g5⟩:=f2 b hb
   exact ⟨g3,g1,g4,g5⟩
  ·refine wpAny_mono (T.item (ya0 X pins x₁ jf scope (yaN X.env scope.names []) { s2 with heap:=hp3 } (upd H2 s2.heap.objs.size (.lst [])) fp) rfl rfl rfl hcalm i [] s5 _ H5 (fun _ _=>False) I5 (stat fr5) st5 go) (fun r s6 ⟨u,hr,h6⟩=>?_) fun _ _ z=>z
   subst hr
   refine wpAny_mono h6 (fun _ s7 ⟨x,H7,I7,r7,y7,st7,fr7⟩=>?_) fun _ _ z=>z
   have I7' := I7.pinned (stat fr7) (T.obj _ _ st7)
   have hloc : Loc (ya0 X pins x₁ jf scope (yaN X.env scope.names []) { s2 with heap:=hp3 } (upd H2 s2.heap.objs.size (.lst [])) fp).env.scope x₁:=.inl (lookup_relabel_local hx)
   refine wpAny_assign_Name (zct (i:=0) I7' hN rfl hloc r7 (fun s8 I8=>?_) (.inr (lookup_relabel_local hx)))
   have q8:=next x H7 y7
   have I8' : Inv (ya0 X pins x₁ jf scope (yaN X.env scope.names []) { s2 with heap:=hp3 } (upd H2 s2.heap.objs.size (.lst [])) fp) ([]++ycl fp s7.heap) (ybr (some x) jf σ) H7 s8:=I8
   have again : ∀ {s9 : Shared} {H9 : Hp} {zs : List V} {m' : Nat},Inv (ya0 X pins x₁ jf scope (yaN X.env scope.names []) { s2 with heap:=hp3 } (upd H2 s2.heap.objs.size (.lst [])) fp) ([]++ycl fp s7.heap) (ybr (some x) jf σ) H9 s9 -> m' < n -> W (i + 1) m' zs H9 ->
     ∃ m,m < n /\ ∃ i ys H',Inv (ya0 X pins x₁ jf scope (yaN X.env scope.names []) { s2 with heap:=hp3 } (upd H2 s2.heap.objs.size (.lst [])) fp) [] (ybr none jf σ) H' s9 /\ tn i s9.heap /\ (∀ b ∈ fp,H' b = none) /\ W i m ys H' := fun {s9 H9 zs m'} I9 hm w9=>by
    refine ⟨m',hm,i + 1,zs,H9,I9.unpinned.weak (by simp [ybr]) (fun j v e=>?_),T.keep _ _ _ st7 fun b hb o e=>(I9.pin (b,o) (List.mem_append_right _ (List.mem_append_right _ (za5 hb e)))).1,fun b hb=>?_,w9⟩
    ·cases j with
     | zero=>simp [ybr] at e
     | succ j=>simpa [ybr] using e
    ·obtain ⟨o,e,d⟩:=T.obj _ _ st7 b hb
     exact (I9.pin (b,o) (List.mem_append_right _ (List.mem_append_right _ (za5 hb e)))).2.1
   refine wpAny_mono (hc pins _ _ _ fp ([]++ycl fp s7.heap) s8 _ H7 _ I8' q8) (fun ok s9 ⟨H9,I9,q9⟩=>?_) fun _ _ z=>z
   cases ok with
   | false =>
    rw [if_neg Bool.false_ne_true] at q9 ⊢
    obtain ⟨m',hm,w9⟩:=q9
    exact again I9 hm w9
   | true =>
    rw [if_pos rfl] at q9 ⊢
    refine wpAny_mono (he pins _ _ _ fp ([]++ycl fp s7.heap) s9 _ H9 _ I9 q9) (fun y s10 ⟨v,H10,I10,r10,hD10,m',hm,w10⟩=>?_) fun _ _ z=>z
    refine wpAny_mono (zdz (X:=(ya0 X pins x₁ jf scope (yaN X.env scope.names []) { s2 with heap:=hp3 } (upd H2 s2.heap.objs.size (.lst [])) fp)) ([]++ycl fp s7.heap) s10 (ybr (some x) jf σ) H10 (.ref s2.heap.objs.size) [v] (.ref s2.heap.objs.size) [y] (fun _ H' => H' = upd H10 s2.heap.objs.size (.lst (ys++[v]))) I10 rfl (.cons r10 .nil) ⟨_,ys,v,rfl,rfl,hD10,hlen,rfl⟩)
     (fun _ s11 ⟨_,H11,I11,_,e11⟩=>?_) fun _ _ z=>z
    subst e11
    exact again I11 hm w10
 exact codeAny_compStart_list loop (T.self _ 0 _ _ _ st4 loop)
theorem ziQ (hcalm : X.calm = true) (hi : PI X (.Name x₁ px) iter wi) (hc : ∀ pins cl s H fp,PTs (ya0 X pins x₁ jf scope cl s H fp) ifs tc) (he : ∀ pins cl s H fp,PE (ya0 X pins x₁ jf scope cl s H fp) elt te)
  (hN : (x₁ :: jf.map (·.2)).Nodup) (hx : scope.names.lookup x₁ = some .local) (hjf : ∀ p ∈ jf,X.N[p.1]? = some p.2) (hjl : ∀ p ∈ jf,scope.names.lookup p.2 = some .free) (hkind : scope.kind = .function)
  (hcell : ∀ y ∈ scope.names,y.2 ≠ .cell) (hfr : ∀ y ∈ scope.names,y.2 = .free -> X.env.kindOf y.1 = some .cell \/ X.env.kindOf y.1 = some .free)
  (hnames : ∀ y ∈ scope.names,y.2 = .local -> scope.names.lookup y.1 = some .local) (hs : ∀ x,foldedSetIterable iter X.env x = pure x:=by intro _; rfl) :
  PE X (.ListComp elt [⟨.Name x₁ px,iter,ifs,0⟩] scope pos) (yee jf wi tc te):=by
 intro pins s σ H Q I h
 rw [eval_ListComp]
 refine zeb hcalm hi hc he hN hx hjf hjl hkind hcell hfr hnames (use:=none) (Qf:=EP X pins σ Q) I h (fun D C s6 H6 m6 I6 q6 f6 n6=>?_) hs
 refine ⟨m6,n6,fun h' hs' => ⟨.ref D,H6,?_,rfl,q6⟩⟩
 exact I6.turnedL (fp:=[C]) (t' := s6.toks) (fun b o hb q=>(hs'.2 b (fun z=>hb (by simp [z]))).trans q) (fun b hb=>by
  have e : b = C:=by simpa using hb
  subst e
  exact f6)
theorem ziR {y : Str} {py spos : Pos} {i : Nat} (hcalm : X.calm = true) (hi : PI X (.Name x₁ px) iter wi) (hc : ∀ pins cl s H fp,PTs (ya0 X pins x₁ jf scope cl s H fp) ifs tc) (he : ∀ pins cl s H fp,PE (ya0 X pins x₁ jf scope cl s H fp) elt te)
  (hN : (x₁ :: jf.map (·.2)).Nodup) (hx : scope.names.lookup x₁ = some .local) (hjf : ∀ p ∈ jf,X.N[p.1]? = some p.2) (hjl : ∀ p ∈ jf,scope.names.lookup p.2 = some .free) (hkind : scope.kind = .function)
  (hcell : ∀ y ∈ scope.names,y.2 ≠ .cell) (hfr : ∀ y ∈ scope.names,y.2 = .free -> X.env.kindOf y.1 = some .cell \/ X.env.kindOf y.1 = some .free)
  (hnames : ∀ y ∈ scope.names,y.2 = .local -> scope.names.lookup y.1 = some .local) (hNX : X.N.Nodup) (hi' : X.N[i]? = some y) (hy : X.env.scope.names.lookup y = some .local)
  (hsw : swapsWith (.ListComp elt [⟨.Name x₁ px,iter,ifs,0⟩] scope pos) (some (.Name y py)) spos.line X.env = pure true) (hs : ∀ x,foldedSetIterable iter X.env x = pure x:=by intro _; rfl) :
  PS X (.Assign [.Name y py] (.ListComp elt [⟨.Name x₁ px,iter,ifs,0⟩] scope pos) spos) (tAsg (yee jf wi tc te) (yew i)):=by
 intro pins s σ H D I h
 rw [exec_Assign_Name_used _ _ _ _ hsw]
 refine wpAny_bind (wpAny_standAt (wpAny_bind ?_))
 show wpAny _ X.A (do let _ <- comprehension (.ListComp elt [⟨.Name x₁ px,iter,ifs,0⟩] scope pos) scope X.env _ (newList []) false (eval iter X.env) (some (assign (.Name y py) X.env))) _ _ s
 refine wpAny_bind (wpAny_mono (zeb (Qf:=fun _ s' => SP X pins D .next s') hcalm hi hc he hN hx hjf hjl hkind hcell hfr hnames (use:=some (assign (.Name y py) X.env)) I h (fun D' C s6 H6 m6 I6 q6 f6 n6=>?_) hs) (fun _ s' hq=>wpAny_pure (wpAny_pure hq)) fun _ _ e=>e)
 refine wpAny_assign_Name (zdt I6 hNX hi' (.inl hy) (v:=.ref D') rfl (fun s7 I7 ⟨a,hsa,ha⟩=>?_) (.inr hy))
 have ne : C ≠ a:=by
  rcases ha with z | z
  ·rw [z]; exact f6.2.1
  ·exact fun q=>f6.2.2.2.2.1 y a z q.symm
 refine ⟨m6,n6.sameBut hsa ne,fun h' hs' => ⟨_,H6,?_,q6⟩⟩
 exact I7.turnedL (fp:=[C]) (t' := s7.toks) (fun b o hb q=>(hs'.2 b (fun z=>hb (by simp [z]))).trans q) (fun b hb=>by
  have e : b = C:=by simpa using hb
  subst e
  exact f6)
end
end L2
namespace L2
open PySem PySem.Spec PyProof.Rows
section
variable {X : Cx} {a b e : Expr} {ta tb : TE} {p p2 pos : Pos}
theorem zhO {c : V} {cv : Value} (rc : ∀ u,RelV c u -> u = cv) :
  CallR X (.builtin "isinstance") (fun xs H Q=>∃ x t r,xs = [x,c] /\ TyOf X.K H x t /\ PySem.W.kitOne X.K t cv = some r /\ Q (.bl r) H):=by
 intro pins s σ H xs us Q I r h
 obtain ⟨x,t,k,rfl,ty,hk,q⟩:=h
 obtain ⟨u,w',rfl,rx,ry⟩:=ye3 r
 obtain rfl:=rc _ ry
 exact zgF I rx ty hk fun tk=>⟨.bl k,H,I.tok _,rfl,q⟩
theorem yfN (n : String) : ∀ u,RelV (.ty n) u -> u = Value.type n:=fun _ r=>r
theorem zgQ : OpR X (compareOp .LtE) (fun x y H Q=>∃ i j,x = .str i /\ y = .str j /\ Q (.bl (!decide (j.cps.toList < i.cps.toList))) H):=by
 intro pins s σ H x y v u Q I rx ry h
 obtain ⟨i,j,rfl,rfl,q⟩:=h
 obtain ⟨t,rfl⟩:=rx
 obtain ⟨t',rfl⟩:=ry
 exact PySem.P.le_str (yaJ I q rfl)
theorem zec : MtR X "str.count" (fun x vs H Q=>∃ z y,x = .str z /\ vs = [.str y] /\ Q (.int ((Builtin.Str.occurrences z y 0 z.length (z.length + 1)).length : Nat)) H):=by
 intro pins s σ H x vs v us Q I rx rv h
 obtain ⟨z,y,rfl,rfl,q⟩:=h
 obtain ⟨t,rfl⟩:=rx
 obtain ⟨u,rfl,t',rfl⟩:=yb3 rv
 exact call_gives F.slot_str_count (typeIs_str s z t) F.entry_str_count (F.args_str_count_2 _ _) (gives_str_count z y t t') ⟨.int _,H,I.tok _,⟨_,rfl⟩,q⟩
theorem zgR (l : List (Array Nat)) : ∀ acc : Array Nat,(l.foldl (· ++ ·) acc).toList = acc.toList++(l.map Array.toList).flatten:=by
 induction l with
 | nil=>intro acc; simp
 | cons x r ih=>intro acc; rw [List.foldl_cons,ih]; simp
theorem zhP (hc : X.calm = true) : CallR X (.builtin "all") (fun xs H Q=>∃ (a : Addr) (bs : List Bool),xs = [.ref a] /\ SqL X.K H a (bs.map V.bl) /\ Q (.bl (bs.all id)) H):=by
 intro pins s σ H xs us Q I r h
 obtain ⟨l,bs,rfl,hq,q⟩:=h
 obtain ⟨u,rfl,rx⟩:=yb3 r
 cases rx
 obtain ⟨its,rv,pl,hz⟩:=I.list hq
 have hlt : l < s.heap.objs.size:=by obtain ⟨_,_,e,_⟩:=pl; exact Heap.lt_size e
 have hlen : its.length = bs.length:=by rw [<- rv.length,List.length_map]
 refine call_all_walk (wpAny_pyIter_list pl.isList ?_)
 refine ⟨s.heap.objs.size,[s.heap.objs.size,l],[s.heap.objs.size],its.toArray.size,_,_,fun i=>(bs[i]?).getD true,rfl,Walks.list (A:=X.A.in1) (I.ok.hd hc) _ l (Nat.ne_of_lt hlt) its.toArray,
  ⟨⟨_,Heap.get?_push_size _ rfl,rfl,rfl⟩,pl.isList.push _⟩,fun i v s' Q' E' hP hQ=>?_,fun h' tk hk=>?_⟩
 ·have hP' : its[i]? = some v:=by simpa using hP
  have hi : i < its.length:=(List.getElem?_eq_some_iff.mp hP').1
  have hb : (bs.map V.bl)[i]? = some (V.bl (bs[i]'(by omega))):=by rw [List.getElem?_map,List.getElem?_eq_getElem (by omega)]; rfl
  obtain ⟨u,hu,ru⟩:=rv.get hb
  rw [hP'] at hu
  cases hu
  cases ru
  have e : (bs[i]?).getD true = bs[i]'(by omega):=by rw [List.getElem?_eq_getElem (by omega)]; rfl
  have hQ2 : Q' ((bs[i]?).getD true) s' := hQ
  rw [e] at hQ2
  exact wpAny_truthy_bool hQ2
 ·have e : ((List.range its.toArray.size).all fun i=>(bs[i]?).getD true) = bs.all id:=by
   rw [List.size_toArray,hlen,Bool.eq_iff_iff,List.all_eq_true,List.all_eq_true]
   constructor
   ·intro z c hc'
    obtain ⟨i,hi,rfl⟩:=List.getElem_of_mem hc'
    have:=z i (List.mem_range.mpr hi)
    rw [List.getElem?_eq_getElem hi] at this
    exact this
   ·intro z i hi
    have hi' := List.mem_range.mp hi
    rw [List.getElem?_eq_getElem hi']
    exact z _ (List.getElem_mem hi')
  rw [e]
  refine ⟨.bl _,H,I.kept (t' := tk) fun b o q=>?_,rfl,q⟩
  exact hk b o (fun hm=>by rw [List.mem_singleton.mp hm] at q; exact Nat.lt_irrefl _ (Heap.lt_size q)) (Heap.get?_push_of_some _ q)
end
end L2
namespace L2
open PySem PySem.Spec PyProof.Rows
section
variable {X : Cx}
theorem zhQ : OpR X (binaryOp .FloorDiv) (rI (fun _ j=>0 < j /\ j < 2 ^ 200) fun i j=>.int (i / j)):=opI fun i j _ _ _ _ _ hc q=>by
 obtain ⟨h1,h2⟩:=hc
 refine floordiv_int (by omega) (by rw [Int.fdiv_eq_ediv_of_nonneg i (by omega)]; exact q) (.inl (PyProof.noPylong_of_log2 ?_))
 have h3 : j.natAbs < 2 ^ 200:=by omega
 have h4 : j.natAbs.log2 < 200:=(Nat.log2_lt (by omega)).mpr h3
 omega
theorem zhR : OpR X (binaryOp .Mult) (rI IntMulOk fun i j=>.int (i * j)):=opI fun _ _ _ _ _ _ _ hc q=>mul_int q hc
end
end L2
namespace L2
open PySem PySem.Spec PyProof.Rows
theorem yfn : bootBuiltins "int" = some (.type "int"):=by decide +kernel
theorem ziS : bootBuiltins "bool" = some (.type "bool"):=by decide +kernel
theorem yfo : bootBuiltins "str" = some (.type "str"):=by decide +kernel
end L2
namespace L2
open PySem PySem.Spec PyProof.Rows
theorem ObjOk.some {P : Program} {w : World} {H : Hp} {h : Heap} {a : Addr} {o : HO} (x : ObjOk P w H h a o) : ∃ ob,h.get? a = Option.some ob:=by
 cases o with
 | lst xs=>obtain ⟨_,_,_,_,e⟩:=x; exact ⟨_,e⟩
 | tup xs=>obtain ⟨_,_,_,o,e,_⟩:=x; exact ⟨o,e⟩
 | dK kvs=>obtain ⟨_,_,_,_,o,_,_,e,_⟩:=x; exact ⟨_,e⟩
 | dT kvs=>obtain ⟨_,_,_,_,o,_,_,e,_⟩:=x; exact ⟨_,e⟩
 | set S n=>obtain ⟨o,_,_,_,e,_⟩:=x; exact ⟨_,e⟩
 | ins C dx fs=>obtain ⟨_,_,_,e,_⟩:=x; exact ⟨_,e⟩
 | own y=>obtain ⟨_,e⟩:=x; exact ⟨_,e⟩
 | xd fs=>obtain ⟨_,⟨_,_,_,e,_⟩,_⟩:=x; exact ⟨_,e⟩
 | rng lo hi=>obtain ⟨_,_,_,e⟩:=x; exact ⟨_,e⟩
 | frz ob u=>obtain ⟨e,_⟩:=x; exact ⟨_,e⟩
 | tbl ps=>exact ⟨_,(show h.get? a = Option.some _ from x)⟩
 | met f y=>exact ⟨_,(show h.get? a = Option.some _ from x)⟩
 | ext φ=>obtain ⟨_,⟨_,e⟩,_⟩:=x; exact ⟨_,e⟩
def Firm (X : Cx) (pins : List (Addr × Obj)) (H : Hp) (h B : Heap) : Prop :=
 ∀ b o,h.get? b = some o -> b ∉ frs X.stack -> ((∃ u,H b = some u) \/ (∃ o',X.s₀.heap.get? b = some o') \/ ∃ p ∈ X.pn++pins,p.1 = b) -> B.get? b = some o
section
variable {X : Cx} {pins : List (Addr × Obj)} {σ : St} {H : Hp} {s : Shared}
theorem Inv.nofr (I : Inv X pins σ H s) {b : Addr} {o : Obj} (e : X.s₀.heap.get? b = some o) (hb : b ∉ X.fs) : b ∉ frs X.stack:=fun z=>by
 rcases List.mem_cons.mp (I.stkSub b z) with q | q
 ·exact Nat.ne_of_lt (Nat.lt_of_lt_of_le (Heap.lt_size e) I.ok.above) q
 ·exact hb q
theorem Inv.nofrT (I : Inv X pins σ H s) {b : Addr} {u : HO} (e : H b = some u) : b ∉ frs X.stack:=fun z=>by
 have q:=I.stkFree b z
 rw [q] at e
 cases e
theorem Inv.nofrP (I : Inv X pins σ H s) {p : Addr × Obj} (hp : p ∈ X.pn++pins) : p.1 ∉ frs X.stack:=fun z=>by
 obtain ⟨_,_,ne,nf,_⟩:=I.pin p hp
 rcases List.mem_cons.mp (I.stkSub p.1 z) with q | q
 ·exact ne q
 ·exact nf q
theorem Inv.flown {B h' : Heap} {t' : Nat} (I : Inv X pins σ H s) (hex : X.ex = []) (F : Firm X pins H s.heap B) (st : B.StaysIn h') (sm : s.heap.UpToSlots h') : Inv X pins σ H { s with heap:=h',toks:=t' }:=by
 have nx : ∀ b,b ∉ X.ex:=fun b z=>by rw [hex] at z; cases z
 refine ⟨I.ok,I.os,I.bare,⟨fun b o e n hb hx=>?_,fun b o e n hb hx=>?_,I.base.free,fun b o e hx=>?_,I.base.tups,I.base.frzs,I.base.tbls⟩,?_,fun x c e=>?_,I.free,I.freeC,fun p hp=>?_,fun b u e=>?_,I.len⟩
 ·exact st b o (F b o (I.base.keep b o e n hb hx) (I.nofr e hb) (.inr (.inl ⟨o,e⟩)))
 ·obtain ⟨sl,q⟩:=I.base.slot b o e n hb hx
  obtain ⟨_,o',ho',hd⟩:=I.funs.mem hb
  rw [q] at ho'
  cases ho'
  obtain ⟨sl',q'⟩:=sm b _ q hd
  exact ⟨sl',q'⟩
 ·obtain ⟨o',q⟩:=I.base.there b o e hx
  by_cases hb : b ∈ X.fs
  ·obtain ⟨_,o'',ho'',hd⟩:=I.funs.mem hb
   rw [q] at ho''
   cases ho''
   obtain ⟨sl',q'⟩:=sm b _ q hd
   exact ⟨_,q'⟩
  ·exact ⟨o',st b o' (F b o' q (I.nofr e hb) (.inr (.inl ⟨o,e⟩)))⟩
 ·obtain ⟨m,hn,hl⟩:=I.loc
  refine ⟨m,sm.ns hn,fun i x v e1 e2 e3=>?_⟩
  obtain ⟨u,r,l⟩:=hl i x v e1 e2 e3
  refine ⟨u,r,?_⟩
  rcases l with l | ⟨k,c,e,o,ho,hd⟩
  ·exact .inl l
  ·obtain ⟨sl,q⟩:=sm c o ho fun vs z=>by rw [hd] at z; cases z
   exact .inr ⟨k,c,e,_,q,hd⟩
 ·obtain ⟨v,o,ho,hd⟩:=I.cell x c e
  obtain ⟨sl,q⟩:=sm c o ho fun vs z=>by rw [hd] at z; cases z
  exact ⟨v,_,q,hd⟩
 ·obtain ⟨e,n,ne,nf,d⟩:=I.pin p hp
  exact ⟨st _ _ (F _ _ e (I.nofrP hp) (.inr (.inr ⟨p,hp,rfl⟩))),n,ne,nf,d⟩
 ·refine (I.hok b u e).stay (fun c v hc q=>?_) (fun _ q=>q) fun _ _ q=>q
  rcases hc with z | z
  ·subst z
   exact st _ _ (F _ _ q (I.nofrT e) (.inl ⟨_,e⟩))
  ·exact st _ _ (F _ _ q (I.nofrT z) (.inl ⟨_,z⟩))
end
structure Arr (X : Cx) (pins : List (Addr × Obj)) (σ : St) (H : Hp) (a : Addr) (cls : Value) (s : Shared) : Prop where
 inv : Inv X pins σ H s
 un : H a = none
 new : X.s₀.heap.get? a = none
 nl : a ≠ X.env.locals
 nc : ∀ x c,X.env.cells.lookup x = some c -> c ≠ a
 np : ∀ p ∈ X.pn++pins,p.1 ≠ a
 fly : ∃ B a0,Firm X pins H s.heap B /\ B.StaysIn s.heap /\ B.get? a = none /\ s.heap.FunFrames B X.stack /\
  ((∃ oe vs,s.heap.get? a = some oe /\ oe.cls = cls /\ oe.data = .fields vs /\ vs[0]? = some a0 /\ vs[1]? = some .none) \/ s.heap.TracedW B a cls a0)
def CXE (P : Program) (w : World) : CXT:=fun outer H s E e s' => ∃ (a : Addr) (cls a0 : Value) (H' : Hp) (B : Heap),e = .ref a /\ s'.os = s.os /\ AllBare s'.gens /\ Un (frs outer) [] H H' s.heap s'.heap /\ HOk P w H' s'.heap /\
 Heap.FlyingW B outer a cls a0 s'.heap /\ (∀ b o,s'.heap.get? b = some o -> b ∉ frs outer -> ((∃ u,H' b = some u) \/ ∃ o',s.heap.get? b = some o') -> B.get? b = some o) /\ H' a = none /\ s.heap.get? a = none /\ E cls none H'
section
variable {X : Cx} {pins : List (Addr × Obj)} {σ : St} {H : Hp} {s : Shared}
theorem zhS {h' : Heap} {e : Addr} {cls : Value} {args : List Value} {t' : Nat} (I : Inv X pins σ H s) (hex : X.ex = []) (hx : Heap.MadeExcOf s.heap h' e cls args) : Arr X pins σ H e cls { s with heap:=h',toks:=t' }:=by
 have nx : ∀ b,b ∉ X.ex:=fun b z=>by rw [hex] at z; cases z
 have none_of : ∀ b o,s.heap.get? b = some o -> b ≠ e:=fun b o q z=>by rw [z,hx.new] at q; cases q
 have eq_of : ∀ b o o1,h'.get? b = some o -> s.heap.get? b = some o1 -> o1 = o:=fun b o o1 q q1=>by
  have z:=hx.keeps b o1 q1
  rw [q] at z
  exact (Option.some.inj z).symm
 obtain ⟨t,he,_,_⟩:=hx.there
 refine ⟨I.kept hx.keeps,?_,?_,fun z=>?_,fun x c q z=>?_,fun p hp z=>?_,PySem.W.hideAll s.heap (frs X.stack),.ref t,fun b o q nb alt=>?_,fun b o q=>hx.keeps b o (PySem.W.of_hideAll _ q),?_,?_,.inl ⟨_,_,he,rfl,rfl,rfl,rfl⟩⟩
 ·cases q : H e with
  | none=>rfl
  | some u =>
   obtain ⟨ob,z⟩:=(I.hok e u q).some
   exact absurd rfl (none_of e ob z)
 ·cases q : X.s₀.heap.get? e with
  | none=>rfl
  | some o =>
   obtain ⟨ob,z⟩:=I.base.there e o q (nx e)
   exact absurd rfl (none_of e ob z)
 ·obtain ⟨m,⟨o,_,_,ho,_⟩,_⟩:=I.loc
  exact none_of _ o ho z.symm
 ·obtain ⟨v,o,ho,_⟩:=I.cell x c q
  exact none_of _ o ho z
 ·exact none_of _ _ (I.pin p hp).1 z
 ·have there : ∃ o1,s.heap.get? b = some o1:=by
   rcases alt with ⟨u,q'⟩ | ⟨o',q'⟩ | ⟨p,hp,rfl⟩
   ·exact (I.hok b u q').some
   ·exact I.base.there b o' q' (nx b)
   ·exact ⟨_,(I.pin p hp).1⟩
  obtain ⟨o1,q1⟩:=there
  rw [<- eq_of b o o1 q q1]
  exact PySem.W.hideAll_get _ q1 nb
 ·cases q : (PySem.W.hideAll s.heap (frs X.stack)).get? e with
  | none=>rfl
  | some o=>exact absurd rfl (none_of e o (PySem.W.of_hideAll _ q))
 ·refine (PySem.W.funFrames_hide I.stack fun env henv b hb=>List.mem_filterMap.mpr ⟨env,henv,hb⟩).of_keeps fun b o q _=>⟨o,hx.keeps b o q,rfl⟩
theorem zhT {E : XK} {e : Value} {s' : Shared} (I : Inv X pins σ H s) (hex : X.ex = []) (h : CXE X.prog X.w X.stack H s E e s') : ∃ a cls H',e = .ref a /\ Arr X pins σ H' a cls s' /\ E cls none H' := by
 obtain ⟨a,cls,a0,H',B,rfl,os,bare,un,hok,⟨f1,f2,f3,f4⟩,ext,na,ns,q⟩:=h
 have nx : ∀ b,b ∉ X.ex:=fun b z=>by rw [hex] at z; cases z
 have none_of : ∀ b o,s.heap.get? b = some o -> b ≠ a:=fun b o q z=>by rw [z,ns] at q; cases q
 refine ⟨a,cls,H',rfl,⟨I.call' (ch:=[]) os un hok bare (fun b z=>absurd z (by simp)),na,?_,fun z=>?_,fun x c q z=>?_,fun p hp z=>?_,B,a0,fun b o q nb alt=>?_,f1,f2,f3,.inr f4⟩,q⟩
 ·cases q : X.s₀.heap.get? a with
  | none=>rfl
  | some o =>
   obtain ⟨ob,z⟩:=I.base.there a o q (nx a)
   exact absurd rfl (none_of a ob z)
 ·obtain ⟨m,⟨o,_,_,ho,_⟩,_⟩:=I.loc
  exact none_of _ o ho z.symm
 ·obtain ⟨v,o,ho,_⟩:=I.cell x c q
  exact none_of _ o ho z
 ·exact none_of _ _ (I.pin p hp).1 z
 ·refine ext b o q nb ?_
  rcases alt with ⟨u,q'⟩ | ⟨o',q'⟩ | ⟨p,hp,rfl⟩
  ·exact .inl ⟨u,q'⟩
  ·exact .inr (I.base.there b o' q' (nx b))
  ·exact .inr ⟨_,(I.pin p hp).1⟩
theorem Arr.land {a : Addr} {cls : Value} {Q : Unit -> Shared -> Prop} {E : Value -> Shared -> Prop} {M : Model} {A : Around} (R : Arr X pins σ H a cls s) (hex : X.ex = []) (hfr : A.frames = some X.stack) {outer : List Env} (hst : X.stack = X.env :: outer) (hf : X.env.frame = some X.env.locals)
  (hQ : ∀ h' B a0,Firm X pins H s.heap B -> Heap.FlyingW B X.stack a cls a0 h' -> s.heap.UpToSlots h' -> Inv X pins σ H { s with heap:=h' } -> Q () { s with heap:=h' }) :
  wpAny M A (noteFrame (.ref a) X.env) (fun _ s₂=>wpAny M A (setFlight (.ref a) none) Q E s₂) E s:=by
 obtain ⟨B,a0,fm,st,hb,ff,alt⟩:=R.fly
 have after : ∀ h4,Heap.HeldW B X.stack a cls a0 X.env.locals h4 -> s.heap.UpToSlots h4 -> wpAny M A (setFlight (.ref a) none) Q E { s with heap:=h4 }:=fun h4 hh sm=>by
  refine wpAny_landsW (s:={ s with heap:=h4 }) hh fun h5 fl sm5=>?_
  have sm' : s.heap.UpToSlots h5:=sm.trans sm5
  exact hQ h5 B a0 fm fl sm' (R.inv.flown (t' := s.toks) hex fm fl.1 sm')
 rw [hst] at hfr
 rw [hst] at ff
 rcases alt with ⟨oe,vs,he,hc,hd,h0,h1⟩ | tr
 ·subst hc
  have hsz : 1 < vs.size:=(Array.getElem?_eq_some_iff.mp h1).1
  unfold noteFrame
  simp only [hf]
  refine wpAny_bind (wpAny_field he hd h1 ?_)
  rw [if_neg (by decide)]
  refine wpAny_entryW hfr ff hf he st hb hd hsz h0 fun h4 hN=>?_
  obtain ⟨k1,k2,k3,k4⟩:=hN
  exact after h4 (by rw [hst]; exact ⟨k1,hb,k2,k3⟩) k4
 ·exact wpAny_looks_onW hfr hf ⟨st,hb,ff,tr⟩ fun h4 hh sm=>after h4 (by rw [hst]; exact hh) sm
theorem zdC {P : Program} {w : World} {K : PySem.W.Frag} {mg : Str -> Option Value} {base : Heap} {N : List Str} {qual : Str} {scope : Scope} {f : Addr} {cd : Value} {A : Around} {outer : List Env} {s0 : Shared} {H0 : Hp} {E : XK} {a : Addr} {cls : Value}
  (R : Arr (cxOf (CXE P w) P w K mg base N qual scope f cd A outer s0 H0 E) pins σ H a cls s) (q : E cls none H) : (cxOf (CXE P w) P w K mg base N qual scope f cd A outer s0 H0 E).xe (.ref a) s:=by
 show wpAny _ _ (leaving _ _) _ _ s
 unfold leaving
 refine wpAny_bind (R.land (E:=fun e' s'' => CXE P w outer H0 s0 E e' s'') rfl R.inv.ok.frames rfl rfl fun h' B a0 fm fl sm I' => ?_)
 have I:=R.inv
 obtain ⟨k1,k2,⟨_,_,k3⟩,k4⟩:=fl
 refine ⟨a,cls,a0,H,B,rfl,I'.os,I'.bare,I'.base,I'.hok,⟨k1,k2,k3,k4⟩,fun b o e nb alt=>?_,R.un,R.new,q⟩
 have nstk : b ∉ frs (cxOf (CXE P w) P w K mg base N qual scope f cd A outer s0 H0 E).stack:=by
  rcases alt with ⟨u,z⟩ | ⟨o',z⟩
  ·exact I.nofrT z
  ·exact I.nofr z nb
 have there : ∃ o1,s.heap.get? b = some o1:=by
  rcases alt with ⟨u,z⟩ | ⟨o',z⟩
  ·exact (I.hok b u z).some
  ·exact I.base.there b o' z (fun z=>absurd (show b ∈ ([] : List Addr) from z) (by simp))
 obtain ⟨o1,q1⟩:=there
 have z : B.get? b = some o1:=fm b o1 q1 nstk (by
  rcases alt with ⟨u,z⟩ | ⟨o',z⟩
  ·exact .inl ⟨u,z⟩
  ·exact .inr (.inl ⟨o',z⟩))
 have z2:=k1 b o1 z
 rw [show (Heap.get? h' b) = some o from e] at z2
 cases z2
 exact z
end
def yet (X : Cx) (Ex : St -> XK) : Prop:=∀ (pins : List (Addr × Obj)) (σ : St) (H : Hp) (s : Shared) (a : Addr) (cls : Value),Arr X pins σ H a cls s -> Ex σ cls none H -> X.xe (.ref a) s
def ydo (CX : CXT) (X : Cx) (Ex : St -> XK) : Prop:=∀ (pins : List (Addr × Obj)) (σ : St) (H : Hp) (s : Shared) (e : Value) (s' : Shared),Inv X pins σ H s -> CX X.stack H s (Ex σ) e s' -> X.xe e s'
section
variable {P : Program} {w : World} {K : PySem.W.Frag} {mg : Str -> Option Value} {base : Heap} {N : List Str} {qual : Str} {scope : Scope} {f : Addr} {cd : Value} {A : Around} {outer : List Env} {s0 : Shared} {H0 : Hp} {E : XK}
theorem zaF : yet (cxOf (CXE P w) P w K mg base N qual scope f cd A outer s0 H0 E) (fun _=>E):=fun _ _ _ _ _ _ R q=>zdC R q
theorem ziT : ygq (CXE P w) (cxOf (CXE P w) P w K mg base N qual scope f cd A outer s0 H0 E) E:=fun pins σ H s e s' I h=>by
 obtain ⟨a,cls,H',rfl,R,q⟩:=zhT (X:=cxOf (CXE P w) P w K mg base N qual scope f cd A outer s0 H0 E) I rfl h
 exact zdC R q
end
section
variable {X : Cx} {x : Str} {C : Addr} {bm : List Value} {B newId initId : String} {np cpos pos : Pos} {e : Expr} {es : List Expr} {t : TA} {Ex : St -> XK}
def ygB (cls : Value) (Ex : St -> XK) (t : TA) : TS:=fun _ σ H=>t σ H fun vs H1=>vs.length <= 1000 /\ Ex σ cls none H1
theorem zhU (O : OwnCls x C bm newId X.mg X.base) (FB : ExcBaseFacts B newId initId bm) (hc : X.calm = true) (hex : X.ex = []) (hr : yet X Ex) (hg : Gl X x) (ha : PA X (e :: es) t)
  (hdb : (x == ("__debug__" : Str)) = false:=by decide) (he : starEach (e :: es) X.env = (false,eval e X.env) :: starEach es X.env:=by rfl) (hpl : (backTo cpos (starEach es X.env)).any (·.1) = false:=by rfl) :
  PS X (.Raise (some (.Call (.Name x np) (e :: es) [] cpos)) none pos) (ygB (.ref C) Ex t):=by
 intro pins s σ H D I h
 obtain ⟨tl,NN,nm,q,bs,hdct,sn,sub,ab,col,dd,k0,k1,k2,k3,k5,mN,hC,hN,hni,T⟩:=O.obj
 refine wpAny_Raise_call_subT (C:=C) (nm:=nm) (q:=q) (N:=NN) (bs:=bs) (bm:=tl) (hdct:=hdct) (sn:=sn) (sub:=sub) (ab:=ab) (col:=col) (dd:=dd) (k0:=k0) (k1:=k1) (k2:=k2) (k3:=k3) (k5:=k5) FB (mN:=mN)
  (T.hasType FB.hasBase) (I.ok.hd hc) (by rw [he]; show (false || (backTo cpos (starEach es X.env)).any (·.1)) = false; rw [hpl]; rfl) hni (zb0 I hg O.bound ⟨rfl,?_⟩ hdb)
 have hA:=ha cpos pins s σ H _ I h
 rw [he] at hA ⊢
 refine Calls.evalArgs_plain (thn hA fun us s2 ⟨vs,H1,I1,r1,hl,q1⟩=>⟨rfl,?_,I1.bk _ _ hC,hN.keeps I1.bk,T.keeps I1.bk,fun h' a hm=>hr pins σ H1 _ a _ (zhS (t' := s2.toks) I1 hex hm) q1⟩)
 show us.length <= sizeLine
 rw [<- r1.length]
 exact Nat.le_trans hl (by decide)
end
section
variable {X : Cx} {CX : CXT} {k : Nat} {f C : Addr} {fd : FuncData} {ps : List Str} {sp : Sp} {dvs : List V} {ds : List Value} {Ex : St -> XK} {x m : Str} {p pos apos : Pos} {e o : Expr} {es : List Expr} {ta : TE} {t : TA}
theorem zc7 {pins : List (Addr × Obj)} {σ : St} {H : Hp} {s : Shared} {Q : VK} {us : List Value} {vs : List V} (F : FnOk X.prog X.w X.K X.mg X.base CX k f fd ps sp) (hr : Room k X.A) (hb : Binds X.K fd ps ds) (hd : Vals dvs ds) (hx : ydo CX X Ex)
  (I : Inv X pins σ H s) (r : Vals vs us) (h : sp (vs++dvs) H Q (Ex σ)) : wpAny (model X.prog X.w) X.A (call (.ref f) us) (EP X pins σ Q) X.xe s:=by
 have r2 : Vals (vs++dvs) (us++ds):=r.append hd
 have hl : (us++ds).length = ps.length:=by rw [<- r2.length]; exact F.len _ _ _ _ h
 refine wpAny_call (codeAny_mono (F.run X.A X.stack s H ⟨us,[]⟩ (us++ds) (vs++dvs) Q (Ex σ) hr I.env0 (hb s us I.kIn hl) r2 h) fun r s' hq=>?_)
 cases r with
 | error e=>exact hx pins σ H s e s' I hq
 | ok fl =>
  cases fl with
  | ret u=>exact I.after hq
  | next=>exact False.elim hq
  | brk=>exact False.elim hq
  | cont=>exact False.elim hq
def ygC (sp : Sp) (dvs : List V) (Ex : St -> XK) (t : TA) : TE:=fun σ H Q=>t σ H fun vs H1=>sp (vs++dvs) H1 Q (Ex σ)
theorem zhV (F : FnOk X.prog X.w X.K X.mg X.base CX k f fd ps sp) (hr : Room k X.A) (hg : Gl X x) (hm : X.mg x = some (.ref f)) (hk : PySem.W.keepIn X.K (.ref f) = true) (hb : Binds X.K fd ps ds) (hd : Vals dvs ds) (hx : ydo CX X Ex)
  (ha : PA X (e :: es) t) (hdb : (x == ("__debug__" : Str)) = false:=by decide) (he : starEach (e :: es) X.env = (false,eval e X.env) :: starEach es X.env:=by rfl) (hpl : (backTo pos (starEach es X.env)).any (·.1) = false:=by rfl) :
  PE X (.Call (.Name x p) (e :: es) [] pos) (ygC sp dvs Ex t):=by
 intro pins s σ H Q I h
 refine wpAny_Call_Name_kw (zb0 I hg hm ?_ hdb)
 refine PySem.W.callWith_K (h₀:=X.base) I.ok.mod.kin hk (thn (ha pos pins s σ H _ I h) fun us s1 ⟨vs,H1,I1,r,q⟩=>⟨I1.kIn,?_⟩) he hpl
 exact zc7 F hr hb hd hx I1 r q
def yfp (C : Addr) (m : Str) (sp : Sp) (dvs : List V) (Ex : St -> XK) (ta : TE) (t : TA) : TE:=fun σ H Q=>ta σ H fun x H1=>∃ a dx fs,x = .ref a /\ H1 a = some (.ins C dx fs) /\ fs.lookup m = none /\
 t σ H1 fun vs H2=>sp (x :: (vs++dvs)) H2 Q (Ex σ)
theorem zhW {pl : Sem Bool} (he : PE X o ta) (c : Cls X.K C) (hm : Meth X.K C m f) (F : FnOk X.prog X.w X.K X.mg X.base CX k f fd ps sp) (hr : Room k X.A) (hb : Binds X.K fd ps ds) (hd : Vals dvs ds) (hx : ydo CX X Ex) (ha : PA X (e :: es) t)
  (hst : starEach (e :: es) X.env = (false,eval e X.env) :: starEach es X.env:=by rfl) (hpl : (backTo pos (starEach es X.env)).any (·.1) = false:=by rfl)
  (ht : eval (.Call (.Attribute o m apos) (e :: es) [] pos) X.env = (do
   let ov <- eval o X.env
   standAt apos.atName
   let (f,first) <- holding [ov] (getMethod ov m pl)
   callWith pos f first (backTo pos (starEach (e :: es) X.env)) (backToKw pos (keywordEach [] X.env))):=by rfl) :
  PE X (.Call (.Attribute o m apos) (e :: es) [] pos) (yfp C m sp dvs Ex ta t):=by
 intro pins s σ H Q I h
 refine PySem.W.methodCall_KW (pl:=pl) (thn (he pins s σ H _ I h) fun u s1 ⟨x,H1,I1,rx,a,dx,fs,ex,ea,l,q⟩=>?_) ht
 subst ex
 obtain rfl : u = Value.ref a:=rx
 refine zcP I1 ea c hm l ?_
 refine PySem.W.callWith_K (first:=[.ref a]) (h₀:=X.base) I.ok.mod.kin hm.kp (thn (ha pos pins s1 σ H1 _ I1 q) fun us s2 ⟨vs,H2,I2,r,q2⟩=>⟨I2.kIn,?_⟩) hst hpl
 exact zc7 (us:=.ref a :: us) (vs:=.ref a :: vs) F hr hb hd hx I2 (.cons rfl r) q2
end
def excO (a : Addr) (cls : Value) : HO:=.ext fun h=>∃ ob vs,h.get? a = some ob /\ ob.cls = cls /\ ob.data = .fields vs
section
variable {X : Cx} {pins pins' : List (Addr × Obj)} {σ : St} {H : Hp} {s : Shared} {xe : Value -> Shared -> Prop}
end
section
variable {X : Cx} {xc n : Str} {C : Addr} {i : Nat} {body suite : List Stmt} {b0 : Stmt} {np hpos pos : Pos} {tb : (St -> XK) -> TS} {th : TS} {outer : List Env}
end
section
variable {P : Program} {w : World} {K : PySem.W.Frag} {mg : Str -> Option Value} {base : Heap}
theorem Fun.okE {x qual : Str} {st : Stmt} {f : Addr} {fd : FuncData} {N ps : List Str} {k : Nat} {sp : Sp} (F : Fun K x qual st f fd) (S : FnScope N ps (yag st)) (len : ∀ vs H Q E,sp vs H Q E -> vs.length = ps.length)
  (hbody : ∀ (cdv : Value) (A : Around) (outer : List Env) (s : Shared) (H : Hp) (vs : List V) (Q : VK) (E : XK),Room k (A.deeper (envOfC qual (yag st) s.heap.objs.size f cdv)) -> sp vs H Q E ->
   ∃ t,PSs (cxOf (CXE P w) P w K mg base N qual (yag st) f cdv A outer s H E) (ybN st) t /\ t { nx:=fun _ H' => Q .non H',rt:=Q } (start N vs) H) : FnOk P w K mg base (CXE P w) (k + 1) f fd ps sp:=by
 obtain ⟨oc,od,kV,doc,pm,an,cdv,ct,osl,rfl,lk,hcd⟩:=F.ex
 exact yhw lk hcd S len fun A outer s H vs Q E hr hsp=>hbody cdv A outer s H vs Q E hr hsp
end
end L2
namespace L2
open PySem PySem.Spec PyProof.Rows
theorem zhX {K : PySem.W.Frag} {hp : Heap} {g : Str -> Option Value} {nm : Str} {Ca : Addr} {bb : List Value} {nid : String} (Z : K.In hp) (hb : g nm = some (.ref Ca)) (ok : PySem.W.excIn K Ca bb nid = true) : OwnCls nm Ca bb nid g hp:=by
 refine ⟨hb,?_⟩
 unfold PySem.W.excIn at ok
 split at ok
 ·rename_i dA cA sA hA
  split at ok
  ·rename_i D' tl w0 w1 w2 w3 bn w5 eM eS
   simp only [Bool.and_eq_true,beq_iff_eq,Bool.not_eq_true'] at ok
   obtain ⟨⟨⟨⟨⟨rfl,rfl⟩,e1⟩,e2⟩,e3⟩,e4⟩:=ok
   obtain ⟨f1,f2,f3,f4,f5,f6,f7,f8,f9,f10,f11⟩:=cA
   dsimp only at eM e1 e3 e4
   subst eM e1
   have eA : sA = #[w0,w1,w2,w3,some (.builtin bn),w5]:=by
    obtain ⟨ll⟩:=sA
    simp only at eS
    rw [eS]
   subst eA
   refine ⟨tl,f4,f1,f5,f2,f6,f7,f8,f9,f10,dA,w0,w1,w2,w3,w5,_,Z _ _ hA,.of_isNs (PySem.W.isNs_of_in Z e3),?_,PySem.W.tail_of_in Z e2⟩
   exact PySem.W.nsMap_none_of_in Z e3 e4
  ·cases ok
 ·cases ok
mutual
inductive DaV (K : PySem.W.Frag) (H : Hp) : V -> PyData -> Prop
 | non : DaV K H .non .none
 | bl (b) : DaV K H (.bl b) (.bool b)
 | int (i) : DaV K H (.int i) (.int i)
 | str (x) : DaV K H (.str x) (.str x)
 | lst {a xs ds} : SqL K H a xs -> DaVs K H xs ds -> DaV K H (.ref a) (.list ds)
 | tup {a xs ds} : SqT K H a xs -> DaVs K H xs ds -> DaV K H (.ref a) (.tuple ds)
inductive DaVs (K : PySem.W.Frag) (H : Hp) : List V -> List PyData -> Prop
 | nil : DaVs K H [] []
 | cons {x xs d ds} : DaV K H x d -> DaVs K H xs ds -> DaVs K H (x :: xs) (d :: ds)
end
section
variable {X : Cx} {pins : List (Addr × Obj)} {σ : St} {H : Hp} {s : Shared}
mutual
theorem DaV.reads (I : Inv X pins σ H s) : ∀ {x : V} {d : PyData} {u : Value},DaV X.K H x d -> RelV x u -> ∃ as,Reads s.heap u d as
 | _,_,_,.non,r=>by cases r; exact ⟨_,.none⟩
 | _,_,_,.bl b,r=>by cases r; exact ⟨_,.bool b⟩
 | _,_,_,.int i,r=>by obtain ⟨t,rfl⟩:=r; exact ⟨_,.int i t⟩
 | _,_,_,.str x,r=>by obtain ⟨t,rfl⟩:=r; exact ⟨_,.str x t⟩
 | _,_,_,.lst (a:=a) h1 h2,r=>by
  cases r
  obtain ⟨its,rv,⟨o,n,e1,e2,e3⟩,_⟩:=I.list h1
  obtain ⟨as,q⟩:=DaVs.reads I h2 rv
  exact ⟨_,.list (vs:=its.toArray) (n:=n) e1 (by first | exact e2.1 | exact e2) (by first | exact e2.2.2 | exact e2.2 | exact e3 | exact e3.2) (by simpa using q)⟩
 | _,_,_,.tup (a:=a) h1 h2,r=>by
  cases r
  obtain ⟨its,rv,⟨o,e1,e2,n,e3⟩,_⟩:=I.tuple h1
  obtain ⟨as,q⟩:=DaVs.reads I h2 rv
  exact ⟨_,.tuple (vs:=its.toArray) (n:=n) e1 e2 e3 (by simpa using q)⟩
theorem DaVs.reads (I : Inv X pins σ H s) : ∀ {xs : List V} {ds : List PyData} {us : List Value},DaVs X.K H xs ds -> Vals xs us -> ∃ as,ReadsAll s.heap us ds as
 | _,_,_,.nil,r=>by cases r; exact ⟨_,.nil⟩
 | _,_,_,.cons h1 h2,r=>by
  cases r with
  | cons r1 r2 =>
   obtain ⟨as,q1⟩:=DaV.reads I h1 r1
   obtain ⟨bs,q2⟩:=DaVs.reads I h2 r2
   exact ⟨_,.cons q1 q2⟩
end
def rEqD (K : PySem.W.Frag) : R2:=fun x y H Q=>∃ d e,DaV K H x d /\ DaV K H y e /\ d.canLay0 = true /\ e.canLay0 = true /\ d.depth <= 60 /\ Q (.bl (PyData.eqv d e)) H
def rNeD (K : PySem.W.Frag) : R2:=fun x y H Q=>∃ d e,DaV K H x d /\ DaV K H y e /\ d.canLay0 = true /\ e.canLay0 = true /\ d.depth <= 60 /\ Q (.bl (!PyData.eqv d e)) H
theorem yfq (hu : X.A.units + 64 < cLine) : OpR X (compareOp .Eq) (rEqD X.K):=by
 intro pins s σ H x y v u Q I rx ry h
 obtain ⟨d,e,h1,h2,c1,c2,dp,q⟩:=h
 obtain ⟨as,r1⟩:=h1.reads I rx
 obtain ⟨bs,r2⟩:=h2.reads I ry
 exact SeqAt.compareEq_reads r1 r2 c1 c2 (by have:=Nat.min_le_left d.depth e.depth; omega) ⟨.bl _,H,I,rfl,q⟩
theorem yfr (hu : X.A.units + 64 < cLine) : OpR X (compareOp .NotEq) (rNeD X.K):=by
 intro pins s σ H x y v u Q I rx ry h
 obtain ⟨d,e,h1,h2,c1,c2,dp,q⟩:=h
 obtain ⟨as,r1⟩:=h1.reads I rx
 obtain ⟨bs,r2⟩:=h2.reads I ry
 exact SeqAt.compareNe_reads r1 r2 c1 c2 (by have:=Nat.min_le_left d.depth e.depth; omega) ⟨.bl _,H,I,rfl,q⟩
end
theorem hu64 {A : Around} {k : Nat} (hr : Room k A) : A.units + 64 < cLine:=by
 have:=hr.un
 omega
def yhG (K : PySem.W.Frag) : R2:=fun x y H Q=>∃ l b xs zs,x = .ref l /\ y = .ref b /\ SqL K H l xs /\ SqL K H b zs /\ xs.length + zs.length <= sizeLine /\ ∀ p,H p = none -> Q (.ref p) (upd H p (.lst (xs++zs)))
theorem zfl {X : Cx} : OpR X (binaryOp .Add) (yhG X.K):=by
 intro pins s σ H x y v u Q I rx ry h
 obtain ⟨l,b,xs,zs,rfl,rfl,hH,hB,hz,q⟩:=h
 cases rx
 cases ry
 obtain ⟨its,r,⟨o,n,e1,e2,e3,e4⟩,z⟩:=I.list hH
 obtain ⟨its2,r2,⟨o2,n2,g1,g2,g3,g4⟩,z2⟩:=I.list hB
 obtain ⟨oc,od,oda,osl⟩:=o
 obtain ⟨oc2,od2,oda2,osl2⟩:=o2
 dsimp only at e2 e3 e4 g2 g3 g4
 subst e2 e3 e4 g2 g3 g4
 have l1:=r.length
 have l2:=r2.length
 refine concat_meets ⟨_,e1,rfl⟩ ⟨_,g1,rfl⟩ noFill_list_add seq_list_add PySem.F.slot_list_add PySem.F.entry_list_add (PySem.F.args_list_add_2 _ _) (list_addW l b its.toArray its2.toArray n n2 none none osl osl2 (by rw [List.size_toArray,List.size_toArray]; omega)) ⟨e1,g1,?_⟩
 have ea : its.toArray++its2.toArray = (its++its2).toArray:=by simp
 rw [ea]
 exact ⟨.ref s.heap.objs.size,_,I.lnew (t' := s.toks) (r.append r2) (by rw [List.length_append]; exact hz),rfl,q _ I.fresh⟩
end L2
namespace L2
open PySem PySem.Spec PyProof.Rows
section
variable {X : Cx} {pins : List (Addr × Obj)} {σ : St} {H : Hp} {s : Shared}
open Classical in
def isD (h : Heap) (d : PyData) (v : Value) : Bool:=if q : ∃ e as,e.canLay0 = true /\ Reads h v e as then PyData.eqv q.choose d else false
theorem yef {h : Heap} {d e : PyData} {v : Value} {as : List Addr} (c : e.canLay0 = true) (r : Reads h v e as) : isD h d v = PyData.eqv e d:=by
 have q : ∃ e as,e.canLay0 = true /\ Reads h v e as:=⟨e,as,c,r⟩
 unfold isD
 rw [dif_pos q]
 obtain ⟨as',c',r'⟩:=q.choose_spec
 have z : q.choose = e:=by first | exact (Reads.unique _ _ r' r).1 | exact (Reads.unique r' r).1 | exact Reads.unique _ _ _ _ _ c' r' r | exact PySem.SeqAt.Reads.unique _ _ _ _ _ c' r' r | exact PySem.Reads.unique _ _ _ _ _ c' r' r
 rw [z]
theorem zc8 (I : Inv X pins σ H s) : ∀ {xs : List V} {ds : List PyData} {us : List Value},DaVs X.K H xs ds -> Vals xs us -> us.length = ds.length /\ ∀ (j : Nat) u d,us[j]? = some u -> ds[j]? = some d -> ∃ as,Reads s.heap u d as
 | _,_,_,.nil,r=>by cases r; exact ⟨rfl,fun j u d e=>by cases e⟩
 | _,_,_,.cons h1 h2,r=>by
  cases r with
  | cons r1 r2 =>
   obtain ⟨l,q⟩:=zc8 I h2 r2
   refine ⟨by rw [List.length_cons,List.length_cons,l],fun j u d e1 e2=>?_⟩
   cases j with
   | zero=>cases e1; cases e2; exact h1.reads I r1
   | succ j=>exact q j u d e1 e2
def rInD (K : PySem.W.Frag) : R2:=fun x y H Q=>∃ p xs d ds,y = .ref p /\ SqL K H p xs /\ DaV K H x d /\ DaVs K H xs ds /\ d.canLay0 = true /\ (∀ e ∈ ds,e.canLay0 = true /\ e.depth <= 30) /\ Q (.bl (ds.any fun e=>PyData.eqv e d)) H
theorem zc9 {h : Heap} {d : PyData} : ∀ {us : List Value} {ds : List PyData},us.length = ds.length -> (∀ (j : Nat) u e,us[j]? = some u -> ds[j]? = some e -> isD h d u = PyData.eqv e d) -> us.any (isD h d) = ds.any fun e=>PyData.eqv e d
 | [],[],_,_=>rfl
 | u :: us,e :: ds,hl,hh=>by
  rw [List.any_cons,List.any_cons,hh 0 u e rfl rfl,zc9 (us:=us) (ds:=ds) (Nat.succ.inj hl) fun j u' e' a b=>hh (j + 1) u' e' a b]
theorem ygD (hu : X.A.units + 64 < cLine) : OpR X (compareOp .In) (rInD X.K):=by
 intro pins s σ H x y v u Q I rx ry h
 obtain ⟨p,xs,d,ds,rfl,hq,hd,hds,cd,cds,q⟩:=h
 cases ry
 obtain ⟨its,r,pl,hz⟩:=I.list hq
 obtain ⟨as,ra⟩:=hd.reads I rx
 obtain ⟨hl,hat⟩:=zc8 I hds r
 refine SeqAt.in_listAt (isD s.heap d) pl.isList (fun y hy=>?_) ⟨.bl _,H,I,rfl,?_⟩
 ·have hy' : y ∈ its:=by simpa using hy
  obtain ⟨j,hj⟩:=List.getElem?_of_mem hy'
  have hlt:=(List.getElem?_eq_some_iff.mp hj).1
  have hdj : ds[j]? = some (ds[j]'(by omega)):=List.getElem?_eq_getElem (by omega)
  obtain ⟨bs,rb⟩:=hat j _ _ hj hdj
  have cj:=cds _ (List.mem_of_getElem? hdj)
  rw [yef cj.1 rb]
  exact SeqAt.eqAt_reads _ _ _ _ _ _ _ _ rb ra cj.1 cd (by
   have:=Nat.min_le_left (ds[j]'(by omega)).depth d.depth
   show X.A.units + 1 + _ < cLine
   omega)
 ·have e : its.toArray.any (isD s.heap d) = ds.any fun e=>PyData.eqv e d:=by
   rw [<- Array.any_toList]
   refine zc9 hl fun j u e h1 h2=>?_
   obtain ⟨bs,rb⟩:=hat j _ _ h1 h2
   exact yef (cds _ (List.mem_of_getElem? h2)).1 rb
  rw [e]
  exact q
end
theorem strs_of : ∀ {xs : List Str} {us : List Value},Vals (xs.map V.str) us -> ∃ l : List (Str × Tok),us = strValues l /\ l.map (·.1) = xs
 | [],_,r=>by cases r; exact ⟨[],rfl,rfl⟩
 | x :: xs,_,r=>by
  cases r with
  | cons r1 r2 =>
   obtain ⟨t,rfl⟩:=r1
   obtain ⟨l,e1,e2⟩:=strs_of r2
   exact ⟨(x,t) :: l,by rw [e1]; rfl,by rw [List.map_cons,e2]⟩
theorem zf6 : ∀ (xs : List Str),(Builtin.Str.glued Str.empty xs).cps.toList = (xs.map fun x=>x.cps.toList).flatten:=by
 have all : ∀ (xs : List Str) (acc : Array Nat),(xs.foldl (fun acc p=>acc++Str.empty.cps++p.cps) acc).toList = acc.toList++(xs.map fun x=>x.cps.toList).flatten:=by
  intro xs
  induction xs with
  | nil=>intro acc; simp
  | cons x r ih =>
   intro acc
   rw [List.foldl_cons,ih]
   have e : (Str.empty.cps) = #[]:=rfl
   simp [e]
 intro xs
 unfold Builtin.Str.glued
 cases xs with
 | nil=>rfl
 | cons x r=>simp only [List.drop_succ_cons,List.drop_zero,List.headD_cons]; rw [all]; simp
theorem zcy : ∀ (xs : List Str) (a : Nat),xs.foldl (fun n x=>n + x.length + Str.empty.length) a = a + ((xs.map fun x=>x.cps.toList).flatten).length
 | [],a=>by simp
 | x :: r,a=>by
  rw [List.foldl_cons,zcy r]
  have e1 : Str.empty.length = 0:=rfl
  have e2 : x.length = x.cps.toList.length:=by simp [Str.length]
  rw [e1,e2,List.map_cons,List.flatten_cons,List.length_append]
  omega
def yhH (K : PySem.W.Frag) : V -> List V -> Hp -> VK -> Prop:=fun x vs H Q=>∃ (l : Addr) (xs : List Str),x = .str Str.empty /\ vs = [.ref l] /\ SqL K H l (xs.map V.str) /\ ((xs.map fun x : Str=>x.cps.toList).flatten).length <= 1000000 /\ ∀ r : Str,r.cps.toList = (xs.map fun x : Str=>x.cps.toList).flatten -> Q (.str r) H
theorem ziU {X : Cx} : MtR X "str.join" (yhH X.K):=by
 intro pins s σ H x vs v us Q I rx rv h
 obtain ⟨l,xs,rfl,rfl,hq,hz,q⟩:=h
 obtain ⟨t,rfl⟩:=rx
 obtain ⟨u,rfl,ru⟩:=yb3 rv
 cases ru
 obtain ⟨its,r,pl,_⟩:=I.list hq
 obtain ⟨ll,rfl,e2⟩:=strs_of r
 have hok : JoinOk Str.empty xs = true:=by
  unfold JoinOk
  rw [Bool.not_eq_true']
  first
   | (rw [List.foldl_toArray,zcy,Nat.zero_add]; unfold Builtin.Str.tooLong; exact decide_eq_false (Nat.not_lt.mpr (Nat.le_trans hz (by decide))))
   | (unfold joinFit; rw [List.foldl_toArray,zcy,Nat.zero_add]; unfold Builtin.Str.tooLong; exact decide_eq_false (Nat.not_lt.mpr (Nat.le_trans hz (by decide))))
 exact SC.join pl.isList e2 hok fun t' k=>⟨.str _,H,I.tok _,⟨_,rfl⟩,q _ (zf6 xs)⟩
end L2
namespace L2
open PySem PySem.Spec PyProof.Rows
section
variable {X : Cx} {tg : Expr}
def Itr3 (lo c : Int) (n : Nat) : It:=⟨fun i _=>i < n,fun i H x H' => H' = H /\ x = .int (lo + i * c),fun i _=>n <= i⟩
theorem zeQ {P : Program} {w : World} {K : PySem.W.Frag} {tg : Expr} (it : Addr) (lo c : Int) (n : Nat) : Turn P w K tg (Itr3 lo c n) [it] it (fun i h=>IsRangeIter h it (lo + (i : Nat) * c) ((n : Int) - (i : Nat)) c) where
 mem:=by simp
 obj:=fun i h st b hb=>by
  have e : b = it:=by simpa using hb
  subst e
  exact ⟨_,st,fun v z=>by
   have z' : Data.fields _ = Data.cell v:=z
   cases z'⟩
 keep:=fun i h h' st k=>k it (by simp) _ st
 item:=by
  intro X hP hw hK hc i pins s σ H E I hf st hg
  subst hP hw hK
  obtain ⟨f0,f1,f2,f3,f4,f5⟩:=hf it (by simp)
  have W:=Walks.range (prog:=X.prog) (w:=X.w) (I.ok.hd hc) it lo c n
  refine W.item i s _ _ hg st fun v h' tk hv st' kk=>?_
  obtain ⟨t,rfl⟩:=hv
  have I1 : Inv X pins σ H { s with heap:=h',toks:=tk }:=I.turned (fun b o hb e=>kk b o (by simpa using hb) e) f0 f1 f3 f4 f5
  exact ⟨_,rfl,yex (s:={ s with heap:=h',toks:=tk }) (n := "range_iterator") st' rfl rfl (by decide) ⟨.int (lo + i * c),H,I1,⟨t,rfl⟩,⟨rfl,rfl⟩,st',fun b hb=>(hf b hb).1⟩⟩
 done:=by
  intro X hP hw hK hc i pins s σ H E I hf st hg
  subst hP hw hK
  obtain ⟨f0,f1,f2,f3,f4,f5⟩:=hf it (by simp)
  exact wpAny_pyNext_range_end (I.ok.hd hc) st (by have : n <= i:=hg; omega) fun h' eb=>⟨rfl,I.turned (t' := s.toks) (fun b o hb e=>eb b o hb e) f0 f1 f3 f4 f5⟩
 self:=fun _ _ _ _ _ st h=>wpAny_pyIter_rangeiter st h
theorem zgS {a b c : Int} (hc : 0 < c) : Builtin.Range.rangeSize a b c = (((if a < b then (b - a - 1) / c + 1 else 0 : Int).toNat : Nat) : Int):=by
 unfold Builtin.Range.rangeSize
 rw [if_pos hc]
 split
 ·have : 0 <= (b - a - 1) / c:=Int.ediv_nonneg (by omega) (by omega)
  omega
 ·rfl
theorem zbk {x : Int} (h : x.natAbs < 2 ^ 42) : Builtin.Range.rangeFitsLong x = true:=by
 have h2 : x.natAbs < 4398046511104:=h
 simp only [Builtin.Range.rangeFitsLong,Bool.and_eq_true,decide_eq_true_eq]
 omega
theorem zgT {a b c : Int} (ha : a.natAbs < 2 ^ 40) (hb : b.natAbs < 2 ^ 40) (hc : 0 < c) : (Builtin.Range.rangeSize a b c).natAbs < 2 ^ 42:=by
 have ha2 : a.natAbs < 1099511627776:=ha
 have hb2 : b.natAbs < 1099511627776:=hb
 show _ < 4398046511104
 unfold Builtin.Range.rangeSize
 rw [if_pos hc]
 split
 ·have h1 : 0 <= (b - a - 1) / c:=Int.ediv_nonneg (by omega) (by omega)
  have h2 : (b - a - 1) / c <= b - a - 1:=Int.ediv_le_self _ (by omega)
  generalize (b - a - 1) / c = d at *
  omega
 ·decide
theorem zf7 {a b c : Int} (ha : a.natAbs < 2 ^ 40) (hb : b.natAbs < 2 ^ 40) (hc : 0 < c) (hc' : c < 2 ^ 20) : Builtin.Range.small a b c = true:=by
 have l : (2 : Nat) ^ 40 < 2 ^ 42:=by decide
 unfold Builtin.Range.small
 rw [zbk (Nat.lt_trans ha l),zbk (Nat.lt_trans hb l),zbk (x:=c) (by have h2 : c < 1048576:=hc'; show _ < 4398046511104; omega),zbk (zgT ha hb hc),if_pos hc,zbk (x:=b + (c - 1)) (by have h2 : c < 1048576:=hc'; have h3 : b.natAbs < 1099511627776:=hb; show _ < 4398046511104; omega)]
 simp
def yhI (ta : TA) : TI:=fun σ H R=>ta σ H fun vs H1=>∃ i j c : Int,vs = [.int i,.int j,.int c] /\ (i.natAbs < 2 ^ 40 /\ j.natAbs < 2 ^ 40 /\ 0 < c /\ c < 2 ^ 20) /\ R (Itr3 i c (if i < j then (j - i - 1) / c + 1 else 0 : Int).toNat) H1
theorem zgU {pins : List (Addr × Obj)} {σ : St} {H : Hp} {s : Shared} {R : It -> Hp -> Prop} {E : Value -> Shared -> Prop} {lo hi c : Int} {t u v : Tok} {tk : Nat} (I : Inv X pins σ H s) (h1 : lo.natAbs < 2 ^ 40) (h2 : hi.natAbs < 2 ^ 40) (h3 : 0 < c) (h4 : c < 2 ^ 20)
  (q : R (Itr3 lo c (if lo < hi then (hi - lo - 1) / c + 1 else 0 : Int).toNat) H) : wpAny (model X.prog X.w) X.A (pyIter (.ref s.heap.objs.size)) (PIE X pins σ tg R) E { s with heap:=s.heap.push { cls:=.type "range",data:=.fields #[.int lo t,.int hi u,.int c v] },toks:=tk }:=by
 refine wpAny_pyIter_range (IsRange.new ..) (zf7 h1 h2 h3 h4) ?_
 have I1 : Inv X pins σ H { s with heap:=s.heap.push { cls:=.type "range",data:=.fields #[.int lo t,.int hi u,.int c v] },toks:=tk }:=I.kept fun b o e=>Heap.get?_push_of_some _ e
 refine ⟨(s.heap.push { cls:=.type "range",data:=.fields #[.int lo t,.int hi u,.int c v] }).objs.size,[(s.heap.push { cls:=.type "range",data:=.fields #[.int lo t,.int hi u,.int c v] }).objs.size],_,_,H,rfl,
  I1.kept (t' := tk) fun b o e=>Heap.get?_push_of_some _ e,zeQ _ lo c (if lo < hi then (hi - lo - 1) / c + 1 else 0 : Int).toNat,?_,fun b hb=>?_,q⟩
 ·have e1 : lo + ((0 : Nat) : Int) * c = lo:=by simp
  have e2 : (((if lo < hi then (hi - lo - 1) / c + 1 else 0 : Int).toNat : Nat) : Int) - ((0 : Nat) : Int) = Builtin.Range.rangeSize lo hi c:=by rw [zgS h3]; omega
  show IsRangeIter _ _ (lo + ((0 : Nat) : Int) * c) ((((if lo < hi then (hi - lo - 1) / c + 1 else 0 : Int).toNat : Nat) : Int) - ((0 : Nat) : Int)) c
  rw [e1,e2]
  exact Heap.get?_push_size _ rfl
 ·have e : b = (s.heap.push { cls:=.type "range",data:=.fields #[.int lo t,.int hi u,.int c v] }).objs.size:=by simpa using hb
  subst e
  exact I1.fpOk (Nat.le_refl _) (I1.hok.fresh (Nat.le_refl _))
theorem zgV {a b c : Expr} {ta : TA} {p pos : Pos} (hg : Gl X "range") (hm : X.mg "range" = none) (ha : PA X [a,b,c] ta) (hs : starEach [a,b,c] X.env = [(false,eval a X.env),(false,eval b X.env),(false,eval c X.env)]:=by rfl) (hs2 : starEach [b,c] X.env = [(false,eval b X.env),(false,eval c X.env)]:=by rfl) :
  PI X tg (.Call (.Name "range" p) [a,b,c] [] pos) (yhI ta):=by
 intro pins s σ H R I h
 refine Call_ (yck I hg hm boot_range (PyProof.Rows.callWith_type1 (thn (ha pos pins s σ H _ I h) fun us s1 ⟨vs,H1,I1,r1,q1⟩=>?_) (by rw [hs,hs2]) (by rw [hs2]; rfl)))
 obtain ⟨i,j,c,e,⟨q1,q2,q3,q4⟩,q⟩:=q1
 subst e
 cases r1 with
 | cons r rr =>
  cases rr with
  | cons r' rr =>
   cases rr with
   | cons r'' rr =>
    cases rr
    obtain ⟨t,rfl⟩:=r
    obtain ⟨t',rfl⟩:=r'
    obtain ⟨t'',rfl⟩:=r''
    exact call_range_3 (by omega) (zgU I1 q1 q2 q3 q4 q) (.inl (PyProof.noPylong_small (by omega)))
end
end L2
namespace L2
open PySem PySem.Spec PyProof.Rows
open PySem.Builtin PySem.Builtin.Str
section
variable {X : Cx}
def cutS (z : Str) (lo hi : Option Int) : Str:=⟨((z.cps.toList.drop (HT.sIx z.cps.toList.length 0 lo)).take (HT.sIx z.cps.toList.length z.cps.toList.length hi - HT.sIx z.cps.toList.length 0 lo)).toArray⟩
theorem zbd (n d : Nat) (i : Int) : max 0 (min (if i < 0 then i + (n : Int) else i) (n : Int)) = ((HT.sIx n d (some i) : Nat) : Int):=by
 show max 0 (min (if i < 0 then i + (n : Int) else i) (n : Int)) = (((if i < 0 then (i + (n : Int)).toNat else min i.toNat n) : Nat) : Int)
 split<;>omega
theorem zbs {a b : Int} {A B : Nat} (ha : a = A) (hb : b = B) : sliceRange a b 1 = (List.range (B - A)).map fun k=>A + k:=by
 subst ha hb
 unfold sliceRange
 simp only [show (1 : Int) > 0 by decide,if_true]
 have : (if (A : Int) < (B : Int) then ((B : Int) - A + 1 - 1) / 1 else 0).toNat = B - A:=by
  split<;>(try simp only [Int.ediv_one])<;>omega
 rw [this]
 apply List.map_congr_left
 intro k _
 omega
theorem zhY (xs : List Nat) (i k : Nat) : (List.range k).filterMap (fun m=>xs[i + m]?) = (xs.drop i).take k:=by
 induction k generalizing i with
 | zero=>simp
 | succ k ih =>
  rw [List.range_succ_eq_map,List.filterMap_cons,List.filterMap_map]
  have e : ((fun m=>xs[i + m]?) ∘ Nat.succ) = fun m=>xs[(i + 1) + m]? := by
   funext m; show xs[i + (m + 1)]? = _; congr 1; omega
  rw [e,ih (i + 1)]
  cases h : xs[i]? with
  | none =>
   have hl : xs.length <= i:=List.getElem?_eq_none_iff.mp h
   simp only [Nat.add_zero,h]
   rw [List.drop_of_length_le (by omega),List.drop_of_length_le hl]; simp
  | some v =>
   have hi:=(List.getElem?_eq_some_iff.mp h).1
   simp only [Nat.add_zero,h]
   rw [List.drop_eq_getElem_cons hi,List.take_succ_cons]
   congr 1
   exact (Option.some.inj ((List.getElem?_eq_getElem hi).symm.trans h)).symm
theorem zf8 (n : Nat) (lo hi : Option Int) : strSliceIndices lo hi 1 n = (List.range (HT.sIx n n hi - HT.sIx n 0 lo)).map fun k=>HT.sIx n 0 lo + k:=by
 cases lo with
 | none =>
  cases hi with
  | none=>exact zbs rfl rfl
  | some j=>exact zbs rfl (zbd n n j)
 | some i =>
  cases hi with
  | none=>exact zbs (zbd n 0 i) rfl
  | some j=>exact zbs (zbd n 0 i) (zbd n n j)
theorem zhZ (z : Str) (lo hi : Option Int) : Txt.slice z lo hi = cutS z lo hi:=by
 have hz : z.length = z.cps.toList.length:=by simp [Str.length]
 unfold Txt.slice cutS
 rw [hz,zf8,List.filterMap_map]
 have e : ((fun x=>z.cps[x]?) ∘ fun k=>HT.sIx z.cps.toList.length 0 lo + k) = fun m=>z.cps.toList[HT.sIx z.cps.toList.length 0 lo + m]? := by
  funext m; simp
 rw [e,zhY]
 split
 ·rename_i hc
  simp only [beq_self_eq_true,Bool.true_and,beq_iff_eq,List.length_map,List.length_range] at hc
  have h1 : HT.sIx z.cps.toList.length z.cps.toList.length hi <= z.cps.toList.length:=HT.sIx_le _ _ (Nat.le_refl _) _
  have h2 : HT.sIx z.cps.toList.length 0 lo = 0 \/ z.cps.toList.length = 0:=by omega
  rw [hc]
  rcases h2 with h2 | h2
  ·rw [h2,List.drop_zero,List.take_of_length_le (Nat.le_refl _)]
  ·have : z.cps.toList = []:=List.eq_nil_of_length_eq_zero h2
   have h3 : z.cps = #[]:=by simpa using this
   simp [h3]
   cases z; simp_all
 ·rfl
theorem zcS {v : Value} {o : Option Int} (p : IsPart v o) : ∃ l : Option (Int × Tok),v = partValue l /\ l.map (·.1) = o:=by
 cases p with
 | none=>exact ⟨none,rfl,rfl⟩
 | int i t=>exact ⟨some (i,t),rfl,rfl⟩
theorem ygE : SlR X (fun x lo hi H Q=>∃ z,x = .str z /\ z.length <= sizeLine /\ Q (.str (cutS z lo hi)) H):=by
 intro pins s σ H x v vl vu lo hi sl Q I rx hs pl pu h
 obtain ⟨z,rfl,hz,q⟩:=h
 obtain ⟨t,rfl⟩:=rx
 obtain ⟨l,rfl,rfl⟩:=zcS pl
 obtain ⟨u,rfl,rfl⟩:=zcS pu
 refine ⟨"str",_,F.slot_str_getitem.lookup,typeIs_str _ _ _,?_⟩
 refine wpAny_getItem_str_slice (l:=l) (u:=u) (st:=none) hs rfl ?_
 refine post_val_or_str ⟨Nat.le_trans (Txt.slice_le z (l.map (·.1)) (u.map (·.1))) hz,fun t' k=>?_⟩
 have e:=zhZ z (l.map (·.1)) (u.map (·.1))
 refine ⟨.str (cutS z (l.map (·.1)) (u.map (·.1))),H,I.tok _,⟨t',?_⟩,q⟩
 rw [<- e]; rfl
def revS (z : Str) : Str:=⟨z.cps.toList.reverse.toArray⟩
def yfZ (r r' r'' : R2) (ta tb tc td : TE) : TE:=fun σ H Q=>ta σ H fun x H1=>tb σ H1 fun y H2=>r x y H2 fun z H3=>∃ k,z = .bl k /\
 (if k = true then tc σ H3 fun w' H4=>r' y w' H4 fun z2 H5=>∃ k2,z2 = .bl k2 /\ (if k2 = true then td σ H5 fun v' H6=>r'' w' v' H6 Q else Q (.bl false) H5) else Q (.bl false) H3)
theorem zgW {a b c d : Expr} {ta tb tc td : TE} {pos : Pos} {op op' op'' : CmpOp} {r r' r'' : R2} (ho : OpR X (compareOp op) r) (ho' : OpR X (compareOp op') r') (ho'' : OpR X (compareOp op'') r'') (ha : PE X a ta) (hb : PE X b tb) (hc : PE X c tc) (hd : PE X d td)
  (hm : lastMarks [op,op',op''] [b,c,d] = false:=by with_unfolding_all rfl) : PT X (.Compare a [op,op',op''] [b,c,d] pos) (ye2 (yfZ r r' r'' ta tb tc td)):=by
 intro pins s σ H Q I h
 refine isTrue_chain (thn (ha pins s σ H _ I h) fun v s1 ⟨x,H1,I1,r1,q1⟩=>test_link (thn (hb pins s1 σ H1 _ I1 q1) fun u s2 ⟨y,H2,I2,r2,q2⟩ =>
  thn (ho pins s2 σ H2 x y v u _ I2 r1 r2 q2) fun d s3 ⟨z,H3,I3,r3,k,e,q3⟩=>?_)) hm
 subst e
 cases r3
 refine wpAny_truthy_bool ?_
 cases k with
 | false =>
  obtain ⟨k',e',q'⟩:=q3
  cases e'
  exact ite_ff ⟨H3,I3,q'⟩
 | true =>
  refine ite_tt (test_link (thn (hc pins s3 σ H3 _ I3 q3) fun w' s4 ⟨z',H4,I4,r4,q4⟩=>thn (ho' pins s4 σ H4 y z' u w' _ I4 r2 r4 q4) fun d' s5 ⟨z2,H5,I5,r5,k2,e2,q5⟩=>?_))
  subst e2
  cases r5
  refine wpAny_truthy_bool ?_
  cases k2 with
  | false =>
   obtain ⟨k',e',q'⟩:=q5
   cases e'
   exact ite_ff ⟨H5,I5,q'⟩
  | true =>
   refine ite_tt (test_last (thn (hd pins s5 σ H5 _ I5 q5) fun w2 s6 ⟨z3,H6,I6,r6,q6⟩=>thn (ho'' pins s6 σ H6 z' z3 w' w2 _ I6 r4 r6 q6) fun d2 s7 ⟨z4,H7,I7,r7,k3,e3,q7⟩=>?_))
   subst e3
   cases r7
   exact wpAny_truthy_bool ⟨H7,I7,q7⟩
def repS (z : Str) (n : Nat) : Str:=⟨((List.replicate n z.cps.toList).flatten).toArray⟩
theorem ziV {z : Str} {n : Int} (h2 : 2 <= n) (hz : 1 <= z.length) : Txt.mul z n = repS z n.toNat:=by
 unfold Txt.mul repS
 rw [if_neg (by omega),if_neg (by simp; omega)]
 have:=zgR (List.replicate n.toNat z.cps) #[]
 rw [List.map_replicate] at this
 have e : (List.replicate n.toNat z.cps).foldl (· ++ ·) #[] = ((List.replicate n.toNat z.cps.toList).flatten).toArray:=by
  apply Array.toList_inj.mp
  rw [this]; simp
 rw [e]
end
end L2
namespace L2
open PySem PySem.Spec PyProof.Rows
open PySem.Builtin PySem.Builtin.Str
section
variable {X : Cx}
theorem zh0 (z : Str) (n : Int) : Txt.mul z n = repS z n.toNat:=by
 by_cases h2 : 2 <= n /\ 1 <= z.length
 ·exact ziV h2.1 h2.2
 ·unfold Txt.mul
  by_cases h1 : n < 1
  ·rw [if_pos h1,show n.toNat = 0 by omega]; rfl
  ·rw [if_neg h1,if_pos (by simp; omega)]
   by_cases hz : z.length = 0
   ·have e : z.cps.toList = []:=List.length_eq_zero_iff.mp (by simpa [Str.length] using hz)
    cases z
    simp only [repS,Str.mk.injEq] at *
    rw [e]
    apply Array.toList_inj.mp
    simp [e]
   ·rw [show n.toNat = 1 by omega]
    cases z
    simp [repS]
theorem zf9 : OpR X (binaryOp .Mult) (fun x y H Q=>∃ z n,x = .str z /\ y = .int n /\ n.natAbs < 2 ^ 40 /\ z.length * n.toNat <= 1000000 /\ Q (.str (repS z n.toNat)) H):=by
 intro pins s σ H x y v u Q I rx ry h
 obtain ⟨z,n,rfl,rfl,hb,hl,q⟩:=h
 obtain ⟨t,rfl⟩:=rx
 obtain ⟨t',rfl⟩:=ry
 have hb2 : n.natAbs < 1099511627776:=hb
 refine SB.mul ⟨?_,fun h1 _=>?_,fun _ _=>?_⟩ fun t2 k=>⟨.str (repS z n.toNat),H,I.tok _,⟨t2,by rw [zh0]⟩,q⟩
 ·simp; omega
 ·intro hc
  have n0 : (n : Int) = (n.toNat : Int):=by omega
  have h1 : n * (z.length : Int) <= 1000000:=by
   rw [n0,<- Int.natCast_mul,Nat.mul_comm]; exact Int.ofNat_le.mpr hl
  have h3 : (2 ^ 63 - 1 : Int) / n < z.length:=hc
  have h4 : (2 ^ 63 - 1 : Int) < z.length * n:=Int.lt_mul_of_ediv_lt (by omega) h3
  rw [Int.mul_comm] at h4
  have : (9223372036854775807 : Int) < n * z.length:=h4
  omega
 ·exact decide_eq_false (Nat.not_lt.mpr (Nat.le_trans hl (by decide)))
end
section
variable {prog : Program} {w : World} {A : Around} {E : Value -> Shared -> Prop} {s : Shared}
end
section
variable {X : Cx} {pos : Pos}
end
end L2
namespace Sm
open PySem L2
inductive AV where
 | non | bl (b : Bool) | int (i : Int) | str (x : Str)
 | tup (xs : List AV)
 | fl (xs : List AV)
 | ref (n : Nat)
 | exc (c : Nat)
 deriving Inhabited
inductive AO where
 | lst (xs : List AV)
 | dct (t : Bool) (kvs : List (AV × AV))
 | ins (c : Nat) (fs : List (Option AV))
abbrev AH:=List AO
abbrev En:=List (Option AV)
inductive Out (α : Type) where
 | ok (a : α) (h : AH)
 | ex (c : Nat) (h : AH)
 | bad
@[simp] def Out.bind {α β : Type} (o : Out α) (f : α -> AH -> Out β) : Out β :=
 match o with
 | .ok a h=>f a h
 | .ex c h=>.ex c h
 | .bad=>.bad
inductive OutS where
 | nx (e : En) (h : AH)
 | rt (v : AV) (h : AH)
 | bk (e : En) (h : AH)
 | ct (e : En) (h : AH)
 | ex (c : Nat) (e : En) (h : AH)
 | bad
abbrev SE:=En -> AH -> Out AV
abbrev SB:=En -> AH -> Out Bool
abbrev SL:=En -> AH -> Out (List AV)
abbrev SS:=En -> AH -> OutS
abbrev Fn:=List AV -> AH -> Out AV
@[simp] def Out.go {α : Type} (o : Out α) (e : En) (f : α -> AH -> OutS) : OutS :=
 match o with
 | .ok a h=>f a h
 | .ex c h=>.ex c e h
 | .bad=>.bad
structure Tb where
 K : PySem.W.Frag
 cls : Nat -> Option Addr
 exc : Nat -> Option Addr
 fields : Nat -> List Str
 nd : ∀ c,(fields c).Nodup
 few : ∀ c,(fields c).length <= 500
def KL (K : PySem.W.Frag) (a : Addr) (xs : List V) : Prop:=∃ (o : Obj) (its : Array Value) (n : Nat),K.lookup a = some o /\ o.cls = .type "list" /\ o.dict = none /\ o.data = .seq its n /\ its.size <= sizeLine /\ Vals xs its.toList
structure Ix where
 refs : List Addr
 priv : List Addr
def Ix.all (ι : Ix) : List Addr:=ι.refs++ι.priv
mutual
inductive RV (T : Tb) (ι : Ix) (H : Hp) : AV -> V -> Prop
 | non : RV T ι H .non .non
 | bl (b : Bool) : RV T ι H (.bl b) (.bl b)
 | int (i : Int) : RV T ι H (.int i) (.int i)
 | str {x : Str} (n : x.length <= sizeLine) (o : x.cps.all (· < 0x110000) = true) : RV T ι H (.str x) (.str x)
 | tup {xs : List AV} {us : List V} {a : Addr} (n : a ∉ ι.all) (h : H a = some (.tup us)) (r : RVs T ι H xs us) : RV T ι H (.tup xs) (.ref a)
 | fl {xs : List AV} {us : List V} {a : Addr} (n : a ∉ ι.all) (h : Rd H a (.lst us)) (r : RVs T ι H xs us) : RV T ι H (.fl xs) (.ref a)
 | kfl {xs : List AV} {us : List V} {a : Addr} (h : KL T.K a us) (r : RVs T ι H xs us) : RV T ι H (.fl xs) (.ref a)
 | ref {k : Nat} {a : Addr} (h : ι.refs[k]? = some a) : RV T ι H (.ref k) (.ref a)
 | exc {c : Nat} {C a : Addr} (n : a ∉ ι.all) (h : T.exc c = some C) (q : H a = some (excO a (.ref C))) : RV T ι H (.exc c) (.ref a)
inductive RVs (T : Tb) (ι : Ix) (H : Hp) : List AV -> List V -> Prop
 | nil : RVs T ι H [] []
 | cons {x : AV} {u : V} {xs : List AV} {us : List V} (r : RV T ι H x u) (rs : RVs T ι H xs us) : RVs T ι H (x :: xs) (u :: us)
end
structure Grow (ι : Ix) (H : Hp) (ι' : Ix) (H' : Hp) : Prop where
 pre : ∃ n,ι'.refs = ι.refs++n /\ ∀ a ∈ n,H a = none
 priv : ι'.priv = ι.priv
 keep : ∀ a o,a ∉ ι.refs -> H a = some o -> H' a = some o
 live : ∀ a ∈ ι.all,H' a ≠ none
theorem zed : ∀ {l : List Addr} {i j : Nat} {a : Addr},l.Nodup -> l[i]? = some a -> l[j]? = some a -> i = j
 | [],_,_,_,_,e,_=>by simp at e
 | x :: l,0,0,_,_,_,_=>rfl
 | x :: l,0,j + 1,a,n,e,f=>by
  simp at e f; subst e
  exact absurd (List.mem_of_getElem? f) (List.nodup_cons.mp n).1
 | x :: l,i + 1,0,a,n,e,f=>by
  simp at e f; subst f
  exact absurd (List.mem_of_getElem? e) (List.nodup_cons.mp n).1
 | x :: l,i + 1,j + 1,a,n,e,f=>by
  simp at e f
  rw [zed (List.nodup_cons.mp n).2 e f]
theorem Ix.nr {ι : Ix} {a : Addr} (h : a ∉ ι.all) : a ∉ ι.refs:=fun z=>h (List.mem_append_left _ z)
theorem Ix.np {ι : Ix} {a : Addr} (h : a ∉ ι.all) : a ∉ ι.priv:=fun z=>h (List.mem_append_right _ z)
theorem Grow.refl {ι : Ix} {H : Hp} (l : ∀ a ∈ ι.all,H a ≠ none) : Grow ι H ι H:=⟨⟨[],by simp,by simp⟩,rfl,fun _ _ _ e=>e,l⟩
theorem Grow.at {ι ι' : Ix} {H H' : Hp} (g : Grow ι H ι' H') {k : Nat} {a : Addr} (h : ι.refs[k]? = some a) : ι'.refs[k]? = some a:=by
 obtain ⟨n,e,_⟩:=g.pre
 rw [e,List.getElem?_append_left (List.getElem?_eq_some_iff.mp h).1]
 exact h
theorem Grow.outR {ι ι' : Ix} {H H' : Hp} (g : Grow ι H ι' H') {a : Addr} {o : HO} (n : a ∉ ι.refs) (e : H a = some o) : a ∉ ι'.refs:=fun z=>by
 obtain ⟨m,e',hm⟩:=g.pre
 rw [e'] at z
 rcases List.mem_append.mp z with z | z
 ·exact n z
 ·rw [hm a z] at e; cases e
theorem Grow.out {ι ι' : Ix} {H H' : Hp} (g : Grow ι H ι' H') {a : Addr} {o : HO} (n : a ∉ ι.all) (e : H a = some o) : a ∉ ι'.all:=fun z=>by
 rcases List.mem_append.mp z with z | z
 ·exact g.outR (Ix.nr n) e z
 ·rw [g.priv] at z; exact Ix.np n z
theorem Grow.trans {ι ι' ι'' : Ix} {H H' H'' : Hp} (g : Grow ι H ι' H') (k : Grow ι' H' ι'' H'') : Grow ι H ι'' H'' := by
 obtain ⟨n,e1,hn⟩:=g.pre
 obtain ⟨m,e2,hm⟩:=k.pre
 refine ⟨⟨n++m,by rw [e2,e1]; simp,fun a ha=>?_⟩,k.priv.trans g.priv,fun a o na e=>k.keep a o (g.outR na e) (g.keep a o na e),fun a ha=>k.live a ?_⟩
 ·rcases List.mem_append.mp ha with z | z
  ·exact hn a z
  ·have q:=hm a z
   by_cases hi : a ∈ ι.refs
   ·exact absurd q (g.live a (List.mem_append_left _ hi))
   ·cases e : H a with
    | none=>rfl
    | some o=>rw [g.keep a o hi e] at q; cases q
 ·rcases List.mem_append.mp ha with z | z
  ·exact List.mem_append_left _ (by rw [e1]; exact List.mem_append_left _ z)
  ·exact List.mem_append_right _ (by rw [g.priv]; exact z)
structure Ext (ι : Ix) (H : Hp) (ι' : Ix) (H' : Hp) : Prop where
 at_ : ∀ {k : Nat} {a : Addr},ι.refs[k]? = some a -> ι'.refs[k]? = some a
 keep : ∀ a o,a ∉ ι.all -> H a = some o -> H' a = some o
 out : ∀ a o,a ∉ ι.all -> H a = some o -> a ∉ ι'.all
theorem Grow.ext {ι ι' : Ix} {H H' : Hp} (g : Grow ι H ι' H') : Ext ι H ι' H' := ⟨g.at,fun a o n e=>g.keep a o (Ix.nr n) e,fun a o n e=>g.out n e⟩
theorem Ext.trans {ι ι' ι'' : Ix} {H H' H'' : Hp} (g : Ext ι H ι' H') (k : Ext ι' H' ι'' H'') : Ext ι H ι'' H'' :=
 ⟨fun e=>k.at_ (g.at_ e),fun a o n e=>k.keep a o (g.out a o n e) (g.keep a o n e),fun a o n e=>k.out a o (g.out a o n e) (g.keep a o n e)⟩
theorem zfm {ι ι' : Ix} {H H' : Hp} (g : Ext ι H ι' H') {a : Addr} {u : HO} (n : a ∉ ι.all) (r : Rd H a u) : Rd H' a u:=by
 rcases r with r | ⟨o,r⟩
 ·exact .inl (g.keep a _ n r)
 ·exact .inr ⟨o,g.keep a _ n r⟩
theorem ygF {ι ι' : Ix} {H H' : Hp} (g : Ext ι H ι' H') {a : Addr} {u : HO} (n : a ∉ ι.all) (r : Rd H a u) : a ∉ ι'.all:=by
 rcases r with r | ⟨o,r⟩
 ·exact g.out _ _ n r
 ·exact g.out _ _ n r
mutual
theorem RV.ext {T : Tb} {ι ι' : Ix} {H H' : Hp} (g : Ext ι H ι' H') : ∀ {x : AV} {u : V},RV T ι H x u -> RV T ι' H' x u
 | _,_,.non=>.non
 | _,_,.bl b=>.bl b
 | _,_,.int i=>.int i
 | _,_,.str n o=>.str n o
 | _,_,.tup n h r=>.tup (g.out _ _ n h) (g.keep _ _ n h) (RVs.ext g r)
 | _,_,.fl n h r=>.fl (ygF g n h) (zfm g n h) (RVs.ext g r)
 | _,_,.kfl h r=>.kfl h (RVs.ext g r)
 | _,_,.ref h=>.ref (g.at_ h)
 | _,_,.exc n h q=>.exc (g.out _ _ n q) h (g.keep _ _ n q)
theorem RVs.ext {T : Tb} {ι ι' : Ix} {H H' : Hp} (g : Ext ι H ι' H') : ∀ {xs : List AV} {us : List V},RVs T ι H xs us -> RVs T ι' H' xs us
 | _,_,.nil=>.nil
 | _,_,.cons r rs=>.cons (RV.ext g r) (RVs.ext g rs)
end
theorem RV.mono {T : Tb} {ι ι' : Ix} {H H' : Hp} (g : Grow ι H ι' H') {x : AV} {u : V} (r : RV T ι H x u) : RV T ι' H' x u:=r.ext g.ext
theorem RVs.mono {T : Tb} {ι ι' : Ix} {H H' : Hp} (g : Grow ι H ι' H') {xs : List AV} {us : List V} (r : RVs T ι H xs us) : RVs T ι' H' xs us:=r.ext g.ext
section
variable {T : Tb} {ι : Ix} {H : Hp}
theorem RVs.length : ∀ {xs : List AV} {us : List V},RVs T ι H xs us -> xs.length = us.length
 | _,_,.nil=>rfl
 | _,_,.cons _ rs=>by simp [RVs.length rs]
theorem RVs.get : ∀ {xs : List AV} {us : List V} {i : Nat} {x : AV},RVs T ι H xs us -> xs[i]? = some x -> ∃ u,us[i]? = some u /\ RV T ι H x u
 | _,_,_,_,.nil,e=>by simp at e
 | _,_,0,_,.cons r _,e=>by simp at e; subst e; exact ⟨_,rfl,r⟩
 | _,_,i + 1,x,.cons _ t,e=>by
  obtain ⟨u,h1,h2⟩:=RVs.get (i:=i) (x:=x) t (by simpa using e)
  exact ⟨u,by simpa using h1,h2⟩
theorem RVs.append : ∀ {xs ys : List AV} {us ws : List V},RVs T ι H xs us -> RVs T ι H ys ws -> RVs T ι H (xs++ys) (us++ws)
 | _,_,_,_,.nil,s=>s
 | _,_,_,_,.cons r t,s=>.cons r (RVs.append t s)
theorem RVs.set {x : AV} {u : V} (r : RV T ι H x u) : ∀ {xs : List AV} {us : List V} (i : Nat),RVs T ι H xs us -> RVs T ι H (xs.set i x) (us.set i u)
 | _,_,_,.nil=>.nil
 | _,_,0,.cons _ t=>.cons r t
 | _,_,i + 1,.cons q t=>.cons q (RVs.set r i t)
theorem RVs.take : ∀ {xs : List AV} {us : List V} (n : Nat),RVs T ι H xs us -> RVs T ι H (xs.take n) (us.take n)
 | _,_,0,_=>by simpa using RVs.nil
 | _,_,_ + 1,.nil=>.nil
 | _,_,n + 1,.cons r t=>.cons r (RVs.take n t)
theorem RVs.drop : ∀ {xs : List AV} {us : List V} (n : Nat),RVs T ι H xs us -> RVs T ι H (xs.drop n) (us.drop n)
 | _,_,0,r=>r
 | _,_,_ + 1,.nil=>.nil
 | _,_,n + 1,.cons _ t=>RVs.drop n t
end
def kA : Key -> AV
 | .inl i=>.int i
 | .inr x=>.str x
def OR (T : Tb) (ι : Ix) (H : Hp) : AO -> HO -> Prop
 | .lst xs,o=>∃ us,o = .lst us /\ RVs T ι H xs us
 | .dct false kvs,o=>∃ kus : List (Key × V),o = .dK kus /\ Paired (fun (p : AV × AV) (q : Key × V)=>p.1 = kA q.1 /\ RV T ι H p.2 q.2) kvs kus
 | .dct true kvs,o=>∃ kus : List (List Key × V),o = .dT kus /\ Paired (fun (p : AV × AV) (q : List Key × V)=>p.1 = .tup (q.1.map kA) /\ RV T ι H p.2 q.2) kvs kus
 | .ins c fs,o=>∃ C dx fus,T.cls c = some C /\ o = .ins C dx fus /\ (fus.map (·.1)).Nodup /\ (∀ p ∈ fus,p.1 ∈ T.fields c) /\ fs.length = (T.fields c).length /\
   ∀ (i : Nat) (v : AV),fs[i]? = some (some v) -> ∃ f u,(T.fields c)[i]? = some f /\ fus.lookup f = some u /\ RV T ι H v u
theorem OR.mono {T : Tb} {ι ι' : Ix} {H H' : Hp} (g : Grow ι H ι' H') {o : AO} {u : HO} (h : OR T ι H o u) : OR T ι' H' o u:=by
 cases o with
 | lst xs=>obtain ⟨us,e,r⟩:=h; exact ⟨us,e,r.mono g⟩
 | dct t kvs =>
  cases t with
  | false=>obtain ⟨us,e,r⟩:=h; exact ⟨us,e,Paired.mapP r fun _ _ ⟨a,b⟩=>⟨a,b.mono g⟩⟩
  | true=>obtain ⟨us,e,r⟩:=h; exact ⟨us,e,Paired.mapP r fun _ _ ⟨a,b⟩=>⟨a,b.mono g⟩⟩
 | ins c fs =>
  obtain ⟨C,dx,fus,a,b,n,w,l,r⟩:=h
  refine ⟨C,dx,fus,a,b,n,w,l,fun i v e=>?_⟩
  obtain ⟨f,u,e1,e2,q⟩:=r i v e
  exact ⟨f,u,e1,e2,q.mono g⟩
structure Sim (T : Tb) (ι : Ix) (h : AH) (H : Hp) : Prop where
 len : ι.refs.length = h.length
 nd : ι.refs.Nodup
 plive : ∀ a ∈ ι.priv,H a ≠ none
 obj : ∀ (i : Nat) (o : AO) (a : Addr),h[i]? = some o -> ι.refs[i]? = some a -> ∃ u,H a = some u /\ OR T ι H o u
section
variable {T : Tb} {ι : Ix} {h : AH} {H : Hp}
theorem Sim.live (S : Sim T ι h H) : ∀ a ∈ ι.all,H a ≠ none:=fun a ha z=>by
 rcases List.mem_append.mp ha with ha | ha
 ·obtain ⟨i,hi⟩:=List.mem_iff_getElem?.mp ha
  have hl : i < h.length:=by rw [<- S.len]; exact (List.getElem?_eq_some_iff.mp hi).1
  obtain ⟨u,e,_⟩:=S.obj i h[i] a (by simp [hl]) hi
  rw [z] at e; cases e
 ·exact S.plive a ha z
theorem Sim.refl (S : Sim T ι h H) : Grow ι H ι H:=.refl S.live
theorem Sim.fresh (S : Sim T ι h H) {p : Addr} (n : H p = none) : p ∉ ι.all:=fun z=>S.live p z n
theorem Sim.still (S : Sim T ι h H) {H' : Hp} (g : Grow ι H ι H') (k : ∀ a ∈ ι.refs,H' a = H a) : Sim T ι h H' :=
 ⟨S.len,S.nd,fun a ha=>g.live a (List.mem_append_right _ ha),fun i o a e1 e2=>by
  obtain ⟨u,e,r⟩:=S.obj i o a e1 e2
  exact ⟨u,by rw [k a (List.mem_of_getElem? e2)]; exact e,r.mono g⟩⟩
theorem Sim.growNew (S : Sim T ι h H) {p : Addr} {o : HO} (n : H p = none) : Grow ι H ι (upd H p o) :=
 ⟨⟨[],by simp,by simp⟩,rfl,fun a u _ e=>by rw [yay (zav e n)]; exact e,fun a ha=>by
  rw [yay (show a ≠ p from fun z=>S.fresh n (z ▸ ha))]; exact S.live a ha⟩
theorem Sim.new (S : Sim T ι h H) {p : Addr} {o : HO} (n : H p = none) : Sim T ι h (upd H p o) :=
 S.still (S.growNew n) fun a ha=>yay fun z=>S.fresh n (z ▸ List.mem_append_left _ ha)
def Ix.add (ι : Ix) (p : Addr) : Ix:=⟨ι.refs++[p],ι.priv⟩
theorem Sim.growAdd (S : Sim T ι h H) {p : Addr} {u : HO} (n : H p = none) : Grow ι H (ι.add p) (upd H p u) :=
 ⟨⟨[p],rfl,fun a ha=>by have e : a = p:=(by simpa using ha); rw [e]; exact n⟩,rfl,(S.growNew n).keep,(S.growNew n).live⟩
theorem Sim.add (S : Sim T ι h H) {p : Addr} {u : HO} {o : AO} (n : H p = none) (r : OR T (ι.add p) (upd H p u) o u) : Sim T (ι.add p) (h++[o]) (upd H p u):=by
 refine ⟨by simp [Ix.add,S.len],?_,fun a ha=>(S.growNew n).live a (List.mem_append_right _ ha),fun i o' a e1 e2=>?_⟩
 ·show (ι.refs++[p]).Nodup
  rw [List.nodup_append]
  exact ⟨S.nd,by simp,fun a ha b hb z=>by have e : b = p:=(by simpa using hb); subst e; subst z; exact S.fresh n (List.mem_append_left _ ha)⟩
 ·replace e2 : (ι.refs++[p])[i]? = some a:=e2
  by_cases hi : i < h.length
  ·rw [List.getElem?_append_left hi] at e1
   rw [List.getElem?_append_left (by rw [S.len]; exact hi)] at e2
   obtain ⟨v,e,q⟩:=S.obj i o' a e1 e2
   exact ⟨v,by rw [yay (zav e n)]; exact e,q.mono (S.growAdd n)⟩
  ·have e3 : i = h.length:=by
    have:=(List.getElem?_eq_some_iff.mp e1).1
    simp at this; omega
   subst e3
   rw [List.getElem?_append_right (Nat.le_refl _)] at e1
   rw [List.getElem?_append_right (by rw [S.len]; exact Nat.le_refl _),S.len] at e2
   simp at e1 e2
   subst e1 e2
   exact ⟨u,zar,r⟩
theorem Sim.addAt (S : Sim T ι h H) {p : Addr} : (ι.add p).refs[h.length]? = some p:=by
 show (ι.refs++[p])[h.length]? = some p
 rw [<- S.len]; simp
theorem Sim.growSet (S : Sim T ι h H) {i : Nat} {a : Addr} {u : HO} (e : ι.refs[i]? = some a) : Grow ι H ι (upd H a u) :=
 ⟨⟨[],by simp,by simp⟩,rfl,fun b o nb q=>by rw [yay (show b ≠ a from fun z=>nb (by rw [z]; exact List.mem_of_getElem? e))]; exact q,fun b hb=>by
  by_cases z : b = a
  ·subst z; rw [zar]; simp
  ·rw [yay z]; exact S.live b hb⟩
theorem Sim.set (S : Sim T ι h H) {i : Nat} {a : Addr} {u : HO} {o : AO} (e : ι.refs[i]? = some a) (r : OR T ι (upd H a u) o u) : Sim T ι (h.set i o) (upd H a u):=by
 refine ⟨by simp [S.len],S.nd,fun b hb=>(S.growSet e).live b (List.mem_append_right _ hb),fun j o' b e1 e2=>?_⟩
 by_cases hj : j = i
 ·subst hj
  rw [e] at e2; cases e2
  have hl : j < h.length:=by rw [<- S.len]; exact (List.getElem?_eq_some_iff.mp e).1
  rw [List.getElem?_set_self hl] at e1; cases e1
  exact ⟨u,zar,r⟩
 ·rw [List.getElem?_set_ne (Ne.symm hj)] at e1
  obtain ⟨v,q,r'⟩:=S.obj j o' b e1 e2
  have ne : b ≠ a:=fun z=>hj (by
   subst z
   exact zed S.nd e2 e)
  exact ⟨v,by rw [yay ne]; exact q,r'.mono (S.growSet e)⟩
end
def Ix.hide (ι : Ix) (D : Addr) : Ix:=⟨ι.refs,D :: ι.priv⟩
theorem Ix.hide_all {ι : Ix} {D a : Addr} : a ∉ (ι.hide D).all ↔ a ∉ ι.all /\ a ≠ D:=by
 unfold Ix.all Ix.hide
 simp only [List.mem_append,List.mem_cons]
 constructor
 ·intro h; exact ⟨fun z=>h (z.elim .inl fun z=>.inr (.inr z)),fun z=>h (.inr (.inl z))⟩
 ·rintro ⟨h1,h2⟩ (z | z | z)
  ·exact h1 (.inl z)
  ·exact h2 z
  ·exact h1 (.inr z)
section
variable {T : Tb} {ι : Ix} {H : Hp} {D : Addr}
theorem Ext.hide {o : HO} (hn : H D = none) : Ext ι H (ι.hide D) (upd H D o):=⟨fun e=>e,fun a u n e=>by rw [yay (zav e hn)]; exact e,fun a u n e=>Ix.hide_all.mpr ⟨n,zav e hn⟩⟩
theorem Ext.poke {o : HO} : Ext (ι.hide D) H (ι.hide D) (upd H D o):=⟨fun e=>e,fun a u n e=>by rw [yay (Ix.hide_all.mp n).2]; exact e,fun a u n e=>n⟩
theorem Ext.show : Ext (ι.hide D) H ι H:=⟨fun e=>e,fun a u n e=>e,fun a u n e=>(Ix.hide_all.mp n).1⟩
theorem OR.ext {ι ι' : Ix} {H H' : Hp} (g : Ext ι H ι' H') {o : AO} {u : HO} (h : OR T ι H o u) : OR T ι' H' o u:=by
 cases o with
 | lst xs=>obtain ⟨us,e,r⟩:=h; exact ⟨us,e,r.ext g⟩
 | dct t kvs =>
  cases t with
  | false=>obtain ⟨us,e,r⟩:=h; exact ⟨us,e,Paired.mapP r fun _ _ ⟨a,b⟩=>⟨a,b.ext g⟩⟩
  | true=>obtain ⟨us,e,r⟩:=h; exact ⟨us,e,Paired.mapP r fun _ _ ⟨a,b⟩=>⟨a,b.ext g⟩⟩
 | ins c fs =>
  obtain ⟨C,dx,fus,a,b,n,w,l,r⟩:=h
  refine ⟨C,dx,fus,a,b,n,w,l,fun i v e=>?_⟩
  obtain ⟨f,u,e1,e2,q⟩:=r i v e
  exact ⟨f,u,e1,e2,q.ext g⟩
theorem Sim.hide {h : AH} {o : HO} (S : Sim T ι h H) (hn : H D = none) : Sim T (ι.hide D) h (upd H D o) :=
 ⟨S.len,S.nd,fun a ha=>by
  rcases List.mem_cons.mp ha with rfl | ha
  ·rw [zar]; simp
  ·rw [yay (show a ≠ D from fun z=>S.plive a ha (z ▸ hn))]; exact S.plive a ha,fun i o' a e1 e2=>by
  obtain ⟨u,e,r⟩:=S.obj i o' a e1 e2
  exact ⟨u,by rw [yay (zav e hn)]; exact e,r.ext (Ext.hide hn)⟩⟩
theorem Sim.poke {h : AH} {o : HO} (S : Sim T (ι.hide D) h H) (hr : D ∉ ι.refs) : Sim T (ι.hide D) h (upd H D o) :=
 ⟨S.len,S.nd,fun a ha=>by
  by_cases z : a = D
  ·subst z; rw [zar]; simp
  ·rw [yay z]; exact S.plive a ha,fun i o' a e1 e2=>by
  obtain ⟨u,e,r⟩:=S.obj i o' a e1 e2
  have ne : a ≠ D:=fun z=>hr (z ▸ List.mem_of_getElem? e2)
  exact ⟨u,by rw [yay ne]; exact e,r.ext Ext.poke⟩⟩
theorem Sim.show {h : AH} (S : Sim T (ι.hide D) h H) : Sim T ι h H :=
 ⟨S.len,S.nd,fun a ha=>S.plive a (List.mem_cons_of_mem _ ha),fun i o' a e1 e2=>by
  obtain ⟨u,e,r⟩:=S.obj i o' a e1 e2
  exact ⟨u,e,r.ext Ext.show⟩⟩
end
def ER (T : Tb) (ι : Ix) (H : Hp) (e : En) (σ : St) : Prop:=e.length = σ.length /\ ∀ (i : Nat) (v : AV),e[i]? = some (some v) -> ∃ u,σ[i]? = some (some u) /\ RV T ι H v u
theorem ER.mono {T : Tb} {ι ι' : Ix} {H H' : Hp} {e : En} {σ : St} (r : ER T ι H e σ) (g : Grow ι H ι' H') : ER T ι' H' e σ :=
 ⟨r.1,fun i v q=>let ⟨u,a,b⟩:=r.2 i v q; ⟨u,a,b.mono g⟩⟩
theorem ER.ext {T : Tb} {ι ι' : Ix} {H H' : Hp} {e : En} {σ : St} (r : ER T ι H e σ) (g : Ext ι H ι' H') : ER T ι' H' e σ :=
 ⟨r.1,fun i v q=>let ⟨u,a,b⟩:=r.2 i v q; ⟨u,a,b.ext g⟩⟩
theorem ER.set {T : Tb} {ι : Ix} {H : Hp} {e : En} {σ : St} (r : ER T ι H e σ) {v : AV} {u : V} (q : RV T ι H v u) (i : Nat) : ER T ι H (e.set i (some v)) (σ.set i (some u)):=by
 refine ⟨by simp [r.1],fun j w z=>?_⟩
 by_cases hj : j = i
 ·subst hj
  by_cases hl : j < e.length
  ·rw [List.getElem?_set_self hl] at z; cases z
   exact ⟨u,by rw [List.getElem?_set_self (by rw [<- r.1]; exact hl)],q⟩
  ·rw [List.getElem?_eq_none (by simpa using hl)] at z; cases z
 ·rw [List.getElem?_set_ne (Ne.symm hj)] at z ⊢
  exact r.2 j w z
def Post {α β : Type} (T : Tb) (ι : Ix) (H : Hp) (E : XK) (R : Ix -> Hp -> α -> β -> Prop) (o : Out α) (Q : β -> Hp -> Prop) : Prop :=
 match o with
 | .ok v h' => ∀ ι' H' u,Grow ι H ι' H' -> Sim T ι' h' H' -> R ι' H' v u -> Q u H'
 | .ex c h' => ∀ ι' H' C,Grow ι H ι' H' -> Sim T ι' h' H' -> T.exc c = some C -> E (.ref C) none H'
 | .bad=>False
def PostS (T : Tb) (ι : Ix) (H : Hp) (E : St -> XK) (o : OutS) (D : Ends) : Prop :=
 match o with
 | .nx e h' => ∀ ι' H' σ',Grow ι H ι' H' -> Sim T ι' h' H' -> ER T ι' H' e σ' -> D.nx σ' H'
 | .bk e h' => ∀ ι' H' σ',Grow ι H ι' H' -> Sim T ι' h' H' -> ER T ι' H' e σ' -> D.bk σ' H'
 | .ct e h' => ∀ ι' H' σ',Grow ι H ι' H' -> Sim T ι' h' H' -> ER T ι' H' e σ' -> D.ct σ' H'
 | .rt v h' => ∀ ι' H' u,Grow ι H ι' H' -> Sim T ι' h' H' -> RV T ι' H' v u -> D.rt u H'
 | .ex c e h' => ∀ ι' H' σ' C,Grow ι H ι' H' -> Sim T ι' h' H' -> ER T ι' H' e σ' -> T.exc c = some C -> E σ' (.ref C) none H'
 | .bad=>False
abbrev REq {α : Type} : Ix -> Hp -> α -> α -> Prop:=fun _ _ a b=>a = b
section
variable {T : Tb} {ι ι' : Ix} {h : AH} {H H' : Hp} {α β γ δ : Type} {E : XK} {R : Ix -> Hp -> α -> β -> Prop} {R' : Ix -> Hp -> γ -> δ -> Prop}
theorem Post.shift {o : Out α} {Q : β -> Hp -> Prop} (p : Post T ι H E R o Q) (g : Grow ι H ι' H') : Post T ι' H' E R o Q:=by
 cases o with
 | ok v h' => exact fun i2 H2 u g2=>p i2 H2 u (g.trans g2)
 | ex c h' => exact fun i2 H2 C g2=>p i2 H2 C (g.trans g2)
 | bad=>exact p
theorem Post.bind {o : Out α} {f : α -> AH -> Out γ} {Q : δ -> Hp -> Prop} {Q1 : β -> Hp -> Prop} (p : Post T ι H E R' (o.bind f) Q)
  (k : ∀ v h' ι' H' u,Grow ι H ι' H' -> Sim T ι' h' H' -> R ι' H' v u -> Post T ι' H' E R' (f v h') Q -> Q1 u H') : Post T ι H E R o Q1:=by
 cases o with
 | ok v h' => exact fun i2 H2 u g S r=>k v h' i2 H2 u g S r (Post.shift p g)
 | ex c h' => exact p
 | bad=>exact p
theorem Post.now {v : α} {u : β} {Q : β -> Hp -> Prop} (p : Post T ι H E R (.ok v h) Q) (S : Sim T ι h H) (r : R ι H v u) : Q u H:=p ι H u S.refl S r
theorem PostS.shift {E : St -> XK} {o : OutS} {D : Ends} (p : PostS T ι H E o D) (g : Grow ι H ι' H') : PostS T ι' H' E o D:=by
 cases o with
 | nx e h' => exact fun i2 H2 u g2=>p i2 H2 u (g.trans g2)
 | bk e h' => exact fun i2 H2 u g2=>p i2 H2 u (g.trans g2)
 | ct e h' => exact fun i2 H2 u g2=>p i2 H2 u (g.trans g2)
 | rt v h' => exact fun i2 H2 u g2=>p i2 H2 u (g.trans g2)
 | ex c e h' => exact fun i2 H2 u C g2=>p i2 H2 u C (g.trans g2)
 | bad=>exact p
theorem PostS.go {E : St -> XK} {o : Out α} {en : En} {σ : St} {f : α -> AH -> OutS} {D : Ends} {Q1 : β -> Hp -> Prop} (p : PostS T ι H E (o.go en f) D) (er : ER T ι H en σ)
  (k : ∀ v h' ι' H' u,Grow ι H ι' H' -> Sim T ι' h' H' -> R ι' H' v u -> PostS T ι' H' E (f v h') D -> Q1 u H') : Post T ι H (E σ) R o Q1:=by
 cases o with
 | ok v h' => exact fun i2 H2 u g S r=>k v h' i2 H2 u g S r (PostS.shift p g)
 | ex c h' => exact fun i2 H2 C g S e=>p i2 H2 σ C g S (er.mono g) e
 | bad=>exact p
end
def tE (T : Tb) (E : St -> XK) (a : SE) : TE:=fun σ H Q=>∃ ι h en,Sim T ι h H /\ ER T ι H en σ /\ Post T ι H (E σ) (RV T) (a en h) Q
def tT (T : Tb) (E : St -> XK) (a : SB) : TT:=fun σ H Q=>∃ ι h en,Sim T ι h H /\ ER T ι H en σ /\ Post T ι H (E σ) REq (a en h) Q
def tA (T : Tb) (E : St -> XK) (a : SL) : TA:=fun σ H Q=>∃ ι h en,Sim T ι h H /\ ER T ι H en σ /\ Post T ι H (E σ) (RVs T) (a en h) Q
def tS (T : Tb) (E : St -> XK) (b : SS) : TS:=fun D σ H=>∃ ι h en,Sim T ι h H /\ ER T ι H en σ /\ PostS T ι H E (b en h) D
abbrev PEA (T : Tb) (E : St -> XK) (X : Cx) (e : Expr) (a : SE) : Prop:=PE X e (tE T E a)
abbrev PTA (T : Tb) (E : St -> XK) (X : Cx) (e : Expr) (a : SB) : Prop:=PT X e (tT T E a)
abbrev PWA (T : Tb) (E : St -> XK) (X : Cx) (e : Expr) (a : SB) : Prop:=PW X e (tT T E a)
abbrev PAA (T : Tb) (E : St -> XK) (X : Cx) (es : List Expr) (a : SL) : Prop:=PA X es (tA T E a)
abbrev PSA (T : Tb) (E : St -> XK) (X : Cx) (st : Stmt) (b : SS) : Prop:=PS X st (tS T E b)
abbrev PSsA (T : Tb) (E : St -> XK) (X : Cx) (sts : List Stmt) (b : SS) : Prop:=PSs X sts (tS T E b)
theorem yaP {X : Cx} {e : Expr} {t t' : TE} (h : PE X e t) (k : ∀ σ H Q,t' σ H Q -> t σ H Q) : PE X e t' := fun pins s σ H Q I q=>h pins s σ H Q I (k σ H Q q)
theorem ydL {X : Cx} {e : Expr} {t t' : TT} (h : PT X e t) (k : ∀ σ H Q,t' σ H Q -> t σ H Q) : PT X e t' := fun pins s σ H Q I q=>h pins s σ H Q I (k σ H Q q)
theorem yfs {X : Cx} {e : Expr} {t t' : TT} (h : PW X e t) (k : ∀ σ H Q,t' σ H Q -> t σ H Q) : PW X e t' := fun w pins s σ H Q I q=>h w pins s σ H Q I (k σ H Q q)
theorem yft {X : Cx} {e : List Expr} {t t' : TA} (h : PA X e t) (k : ∀ σ H Q,t' σ H Q -> t σ H Q) : PA X e t' := fun p pins s σ H Q I q=>h p pins s σ H Q I (k σ H Q q)
theorem ybL {X : Cx} {e : Stmt} {t t' : TS} (h : PS X e t) (k : ∀ D σ H,t' D σ H -> t D σ H) : PS X e t' := fun pins s σ H D I q=>h pins s σ H D I (k D σ H q)
theorem zfn {X : Cx} {e : List Stmt} {t t' : TS} (h : PSs X e t) (k : ∀ D σ H,t' D σ H -> t D σ H) : PSs X e t' := fun pins s σ H D I q=>h pins s σ H D I (k D σ H q)
theorem yeM {X : Cx} {st : Stmt} {t : TS} (h : PS X.nox st t) : PS X st t:=fun pins s σ H D I hw=>by
 refine wpAny_mono (h pins s σ H D (I.wish _) hw) (fun f s' q=>SP.unwish q) fun _ _ z=>z.elim
end Sm
namespace Sm
open PySem L2
instance : DecidableEq AV:=fun _ _=>Classical.propDecidable _
@[simp] def sVar (i : Nat) : SE:=fun en h=>match en[i]? with
 | some (some v)=>.ok v h
 | _=>.bad
@[simp] def sLit (v : AV) : SE:=fun _ h=>.ok v h
abbrev F1:=AV -> AH -> Out AV
abbrev F2:=AV -> AV -> AH -> Out AV
@[simp] def sOp1 (f : F1) (a : SE) : SE:=fun en h=>(a en h).bind f
@[simp] def sOp2 (f : F2) (a b : SE) : SE:=fun en h=>(a en h).bind fun x h1=>(b en h1).bind fun y h2=>f x y h2
@[simp] def sNil : SL:=fun _ h=>.ok [] h
@[simp] def sCons (a : SE) (r : SL) : SL:=fun en h=>(a en h).bind fun x h1=>(r en h1).bind fun xs h2=>.ok (x :: xs) h2
@[simp] def yaf (F : Fn) (as : SL) : SE:=fun en h=>(as en h).bind F
@[simp] def sTup (as : SL) : SE:=fun en h=>(as en h).bind fun xs h1=>if xs.length <= 1000 then .ok (.tup xs) h1 else .bad
@[simp] def sLst (as : SL) : SE:=fun en h=>(as en h).bind fun xs h1=>if xs.length <= 1000 then .ok (.fl xs) h1 else .bad
@[simp] def ybG (as : SL) : SE:=fun en h=>(as en h).bind fun xs h1=>if xs.length <= 1000 then .ok (.ref h1.length) (h1++[.lst xs]) else .bad
@[simp] def yez (t : Bool) : SE:=fun _ h=>.ok (.ref h.length) (h++[.dct t []])
@[simp] def yii (v : AV) (h : AH) : Option (List AV):=match v with
 | .tup xs=>some xs
 | .fl xs=>some xs
 | .ref n=>match h[n]? with
  | some (.lst xs)=>some xs
  | _=>none
 | _=>none
@[simp] def ya5 (v : AV) (h : AH) : Option (List AV):=match v with
 | .fl xs=>some xs
 | .ref n=>match h[n]? with
  | some (.lst xs)=>some xs
  | _=>none
 | _=>none
@[simp] def fAdd : F2:=fun x y h=>match x,y with
 | .int i,.int j=>.ok (.int (i + j)) h
 | .str i,.str j=>if i.length + j.length <= sizeLine then .ok (.str (i++j)) h else .bad
 | .tup xs,.tup ys=>if xs ≠ [] /\ xs.length + ys.length <= sizeLine then .ok (.tup (xs++ys)) h else .bad
 | x,y=>match ya5 x h,ya5 y h with
  | some xs,some ys=>if xs.length + ys.length <= sizeLine then .ok (.fl (xs++ys)) h else .bad
  | _,_=>.bad
@[simp] def fSub : F2:=fun x y h=>match x,y with
 | .int i,.int j=>.ok (.int (i - j)) h
 | _,_=>.bad
@[simp] def fMul : F2:=fun x y h=>match x,y with
 | .int i,.int j=>if (i.natAbs < 2 ^ 64 \/ j.natAbs < 2 ^ 64) \/ (i.natAbs < 2 ^ 4000 /\ j.natAbs < 2 ^ 4000) then .ok (.int (i * j)) h else .bad
 | _,_=>.bad
@[simp] def fDiv : F2:=fun x y h=>match x,y with
 | .int i,.int j=>if 0 < j /\ j.natAbs < 2 ^ 200 then .ok (.int (i / j)) h else .bad
 | _,_=>.bad
@[simp] def fMod : F2:=fun x y h=>match x,y with
 | .int i,.int j=>if 0 < j then .ok (.int (i % j)) h else .bad
 | _,_=>.bad
@[simp] def fPow : F2:=fun x y h=>match x,y with
 | .int i,.int j=>if 0 <= j /\ j <= 1000000 /\ i.natAbs < 2 ^ 64 then .ok (.int (i ^ j.toNat)) h else .bad
 | _,_=>.bad
@[simp] def fNeg : F1:=fun x h=>match x with
 | .int i=>.ok (.int (-i)) h
 | _=>.bad
def toDs (f : AV -> Option PyData) : List AV -> Option (List PyData)
 | []=>some []
 | x :: xs=>match f x,toDs f xs with
  | some d,some ds=>some (d :: ds)
  | _,_=>none
def toD : Nat -> AH -> AV -> Option PyData
 | 0,_,v=>match v with
  | .non=>some .none
  | .bl b=>some (.bool b)
  | .int i=>some (.int i)
  | .str x=>some (.str x)
  | _=>none
 | n + 1,h,v=>match v with
  | .non=>some .none
  | .bl b=>some (.bool b)
  | .int i=>some (.int i)
  | .str x=>some (.str x)
  | .tup xs=>(toDs (toD n h) xs).map .tuple
  | .fl xs=>(toDs (toD n h) xs).map .list
  | .ref k=>match h[k]? with
   | some (.lst xs)=>(toDs (toD n h) xs).map .list
   | _=>none
  | .exc _=>none
@[simp] def eqA (x y : AV) (h : AH) : Option Bool:=match x,y with
 | .int i,.int j=>some (decide (i = j))
 | .str i,.str j=>some (decide (i = j))
 | .bl i,.bl j=>some (decide (i = j))
 | .non,.non=>some true
 | x,y=>match toD 8 h x,toD 8 h y with
  | some d,some e=>some (PyData.eqv d e)
  | _,_=>none
@[simp] def fEq : F2:=fun x y h=>match eqA x y h with
 | some b=>.ok (.bl b) h
 | none=>.bad
@[simp] def fNe : F2:=fun x y h=>match eqA x y h with
 | some b=>.ok (.bl (!b)) h
 | none=>.bad
@[simp] def fLt : F2:=fun x y h=>match x,y with
 | .int i,.int j=>.ok (.bl (decide (i < j))) h
 | .str i,.str j=>.ok (.bl (decide (i.cps.toList < j.cps.toList))) h
 | _,_=>.bad
@[simp] def fLe : F2:=fun x y h=>match x,y with
 | .int i,.int j=>.ok (.bl (decide (i <= j))) h
 | .str i,.str j=>.ok (.bl (!decide (j.cps.toList < i.cps.toList))) h
 | _,_=>.bad
@[simp] def fGt : F2:=fun x y h=>match x,y with
 | .int i,.int j=>.ok (.bl (decide (j < i))) h
 | _,_=>.bad
@[simp] def fGe : F2:=fun x y h=>match x,y with
 | .int i,.int j=>.ok (.bl (decide (j <= i))) h
 | _,_=>.bad
@[simp] def truA (v : AV) (h : AH) : Option Bool:=match v with
 | .non=>some false
 | .bl b=>some b
 | .int i=>some (i != 0)
 | .str y=>some ((y.length : Int) != 0)
 | .tup xs=>some (!xs.isEmpty)
 | .fl xs=>some (!xs.isEmpty)
 | .ref n=>match h[n]? with
  | some (.lst xs)=>some (!xs.isEmpty)
  | some (.dct false kvs)=>some (!kvs.isEmpty)
  | _=>none
 | _=>none
@[simp] def yc6 (a : SE) : SB:=fun en h=>(a en h).bind fun v h1=>match truA v h1 with
 | some b=>.ok b h1
 | none=>.bad
@[simp] def yaj (a : SE) : SB:=fun en h=>(a en h).bind fun v h1=>match v with
 | .bl b=>.ok b h1
 | _=>.bad
@[simp] def sAnd (a b : SB) : SB:=fun en h=>(a en h).bind fun x h1=>if x = true then b en h1 else .ok false h1
@[simp] def sOr (a b : SB) : SB:=fun en h=>(a en h).bind fun x h1=>if x = true then .ok true h1 else b en h1
@[simp] def sNot (a : SB) : SB:=fun en h=>(a en h).bind fun x h1=>.ok (!x) h1
@[simp] def yeA (a b : SE) : SE:=fun en h=>(a en h).bind fun v h1=>match v with
 | .bl k=>if k = true then b en h1 else .ok (.bl false) h1
 | _=>.bad
@[simp] def sOrV (a b : SE) : SE:=fun en h=>(a en h).bind fun v h1=>match v with
 | .bl k=>if k = true then .ok (.bl true) h1 else b en h1
 | _=>.bad
@[simp] def yfO (a : SE) : SE:=fun en h=>(a en h).bind fun v h1=>match v with
 | .bl b=>.ok (.bl (!b)) h1
 | _=>.bad
@[simp] def yb8 (f f' : F2) (a b c : SE) : SE:=fun en h=>(a en h).bind fun x h1=>(b en h1).bind fun y h2=>(f x y h2).bind fun z h3=>match z with
 | .bl k=>if k = true then (c en h3).bind fun w h4=>f' y w h4 else .ok (.bl false) h3
 | _=>.bad
@[simp] def yas : SS:=fun en h=>.nx en h
@[simp] def sSeq (a b : SS) : SS:=fun en h=>match a en h with
 | .nx e h' => b e h'
 | o=>o
@[simp] def yaM (a : SE) : SS:=fun en h=>(a en h).go en fun _ h' => .nx en h'
@[simp] def sRet (a : SE) : SS:=fun en h=>(a en h).go en fun v h' => .rt v h'
@[simp] def sIf (c : SB) (a b : SS) : SS:=fun en h=>(c en h).go en fun x h' => if x = true then a en h' else b en h'
@[simp] def sSet (i : Nat) (a : SE) : SS:=fun en h=>(a en h).go en fun v h' => .nx (en.set i (some v)) h'
def ybs (c : SB) (b : SS) : Nat -> SS
 | 0=>fun _ _=>.bad
 | n + 1=>fun en h=>match c en h with
  | .ok true h1=>(match b en h1 with
   | .nx e2 h2=>ybs c b n e2 h2
   | .ct e2 h2=>ybs c b n e2 h2
   | .bk e2 h2=>.nx e2 h2
   | .rt v h2=>.rt v h2
   | _=>.bad)
  | .ok false h1=>.nx en h1
  | _=>.bad
abbrev SI:=En -> AH -> Out (List AV × Option Nat)
@[simp] def ybi (w : Option Nat) (xs : List AV) (h : AH) : Bool:=match w with
 | none=>true
 | some n=>match h[n]? with
  | some (.lst ys)=>decide (ys = xs)
  | _=>false
inductive Tg where
 | nm (i : Nat)
 | tup (is : List Nat)
@[simp] def yeN : List Nat -> List AV -> En -> Option En
 | [],[],en=>some en
 | i :: is,x :: xs,en=>yeN is xs (en.set i (some x))
 | _,_,_=>none
@[simp] def setT (t : Tg) (v : AV) (en : En) : Option En:=match t,v with
 | .nm i,v=>some (en.set i (some v))
 | .tup is,.tup xs=>yeN is xs en
 | _,_=>none
def ya7 (w : Option Nat) (all : List AV) (t : Tg) (b : SS) : List AV -> SS
 | []=>fun en h=>if ybi w all h = true then .nx en h else .bad
 | x :: xs=>fun en h=>if ybi w all h = true then
   (match setT t x en with
   | some e1=>(match b e1 h with
    | .nx e2 h2=>ya7 w all t b xs e2 h2
    | .ct e2 h2=>ya7 w all t b xs e2 h2
    | .bk e2 h2=>.nx e2 h2
    | .rt v h2=>.rt v h2
    | _=>.bad)
   | none=>.bad) else .bad
@[simp] def sFor (it : SI) (t : Tg) (b : SS) : SS:=fun en h=>match it en h with
 | .ok (xs,w) h1=>ya7 w xs t b xs en h1
 | _=>.bad
@[simp] def yeB (t : Tg) (a : SE) : SS:=fun en h=>(a en h).go en fun v h' => match setT t v en with
 | some e=>.nx e h'
 | none=>.bad
@[simp] def iVal (a : SE) : SI:=fun en h=>(a en h).bind fun v h1=>match v with
 | .fl xs=>.ok (xs,none) h1
 | .tup xs=>.ok (xs,none) h1
 | .str z=>.ok (z.cps.toList.map (fun c=>.str ⟨#[c]⟩),none) h1
 | .ref n=>match h1[n]? with
  | some (.lst xs)=>.ok (xs,some n) h1
  | _=>.bad
 | _=>.bad
@[simp] def yeg (a : SE) : SI:=fun en h=>(a en h).bind fun v h1=>match v with
 | .fl xs=>.ok (xs,none) h1
 | .tup xs=>.ok (xs,none) h1
 | .ref n=>match h1[n]? with
  | some (.lst xs)=>.ok (xs,some n) h1
  | _=>.bad
 | _=>.bad
def ya8 (lo : Int) : Nat -> List AV
 | 0=>[]
 | n + 1=>.int lo :: ya8 (lo + 1) n
@[simp] def ycy (a : SE) : SI:=fun en h=>(a en h).bind fun v h1=>match v with
 | .int j=>if j.natAbs < 2 ^ 62 then .ok (ya8 0 j.toNat,none) h1 else .bad
 | _=>.bad
def numbered (k : Nat) : List AV -> List AV
 | []=>[]
 | x :: xs=>.tup [.int k,x] :: numbered (k + 1) xs
@[simp] def iEnum (a : SE) : SI:=fun en h=>(a en h).bind fun v h1=>match v with
 | .fl xs=>.ok (numbered 0 xs,none) h1
 | _=>.bad
def yaX (js : List Nat) (en : En) (w : Option Nat) (all : List AV) (c : SB) (e : SE) : List AV -> List AV -> AH -> Out (List AV)
 | [],ys,h=>if ybi w all h = true then .ok ys h else .bad
 | x :: xs,ys,h=>if ybi w all h = true /\ ys.length < sizeLine then
   (match c (some x :: js.map fun j=>(en[j]?).join) h with
   | .ok true h1=>(match e (some x :: js.map fun j=>(en[j]?).join) h1 with
    | .ok v h2=>yaX js en w all c e xs (ys++[v]) h2
    | _=>.bad)
   | .ok false h1=>yaX js en w all c e xs ys h1
   | _=>.bad) else .bad
@[simp] def sYes : SB:=fun _ h=>.ok true h
@[simp] def ybA (js : List Nat) (it : SI) (c : SB) (e : SE) : SE:=fun en h=>match it en h with
 | .ok (xs,w) h1=>(match yaX js en w xs c e xs [] h1 with
  | .ok ys h2=>.ok (.fl ys) h2
  | _=>.bad)
 | _=>.bad
@[simp] def mkFn (n m : Nat) (b : SS) : Fn:=fun args h =>
 if args.length = n then
  match b (args.map some++List.replicate (m - n) none) h with
  | .nx _ h' => .ok .non h'
  | .rt v h' => .ok v h'
  | .ex c _ h' => .ex c h'
  | _=>.bad
 else .bad
@[simp] def yak (c : Nat) (F : Fn) (o : SE) (as : SL) : SE:=fun en h=>(o en h).bind fun x h1=>match x with
 | .ref n=>match h1[n]? with
  | some (.ins c' _)=>if c' = c then (as en h1).bind fun xs h2=>F (x :: xs) h2 else .bad
  | _=>.bad
 | _=>.bad
@[simp] def yeC (c k : Nat) (F : Fn) (as : SL) : SE:=fun en h=>(as en h).bind fun xs h1=>match F (.ref h1.length :: xs) (h1++[.ins c (List.replicate k none)]) with
 | .ok .non h2=>.ok (.ref h1.length) h2
 | .ex c h2=>.ex c h2
 | _=>.bad
@[simp] def sFld (c i : Nat) (o : SE) : SE:=fun en h=>(o en h).bind fun x h1=>match x with
 | .ref n=>match h1[n]? with
  | some (.ins c' fs)=>if c' = c then (match fs[i]? with | some (some v)=>.ok v h1 | _=>.bad) else .bad
  | _=>.bad
 | _=>.bad
@[simp] def yb4 (c i : Nat) (o v : SE) : SS:=fun en h=>(v en h).go en fun y h1=>(o en h1).go en fun x h2=>match x with
 | .ref n=>match h2[n]? with
  | some (.ins c' fs)=>if c' = c then .nx en (h2.set n (.ins c (fs.set i (some y)))) else .bad
  | _=>.bad
 | _=>.bad
@[simp] def ybM (c : Nat) (as : SL) : SS:=fun en h=>(as en h).go en fun xs h1=>if xs.length <= 1000 then .ex c en h1 else .bad
@[simp] def keyOf? (v : AV) : Option Key:=match v with
 | .int i=>some (.inl i)
 | .str x=>some (.inr x)
 | _=>none
@[simp] def keysOf? : List AV -> Option (List Key)
 | []=>some []
 | v :: r=>match keyOf? v,keysOf? r with
  | some k,some ks=>some (k :: ks)
  | _,_=>none
@[simp] def ybR (t : Bool) (v : AV) : Bool:=match t,v with
 | false,v=>(keyOf? v).isSome
 | true,.tup xs=>(keysOf? xs).isSome
 | true,_=>false
def valA (kvs : List (AV × AV)) (k : AV) : Option AV:=(kvs.find? fun p=>decide (p.1 = k)).map (·.2)
def putA (kvs : List (AV × AV)) (k v : AV) : List (AV × AV) :=
 if kvs.any (fun p=>decide (p.1 = k)) then kvs.map fun p=>if p.1 = k then (p.1,v) else p else kvs++[(k,v)]
@[simp] def fIx : F2:=fun x y h=>match x,y with
 | .str z,.int i=>match atI z.cps.toList i with
  | some c=>.ok (.str ⟨#[c]⟩) h
  | none=>.bad
 | .tup xs,.int i=>match atI xs i with
  | some v=>.ok v h
  | none=>.bad
 | .fl xs,.int i=>match atI xs i with
  | some v=>.ok v h
  | none=>.bad
 | .ref n,y=>match h[n]? with
  | some (.lst xs)=>match y with
   | .int i=>match atI xs i with
    | some v=>.ok v h
    | none=>.bad
   | _=>.bad
  | some (.dct t kvs)=>if ybR t y then (match valA kvs y with | some v=>.ok v h | none=>.bad) else .bad
  | _=>.bad
 | _,_=>.bad
@[simp] def ydM (o i v : SE) : SS:=fun en h=>(v en h).go en fun z h1=>(o en h1).go en fun x h2=>(i en h2).go en fun y h3=>match x with
 | .ref n=>match h3[n]? with
  | some (.lst xs)=>match y with
   | .int k=>match ixN xs.length k with
    | some j=>.nx en (h3.set n (.lst (xs.set j z)))
    | none=>.bad
   | _=>.bad
  | some (.dct t kvs)=>if ybR t y = true /\ kvs.length < sizeLine then .nx en (h3.set n (.dct t (putA kvs y z))) else .bad
  | _=>.bad
 | _=>.bad
@[simp] def inA (x y : AV) (h : AH) : Option Bool:=match x,y with
 | .str i,.str j=>some (!(Builtin.Str.occurrences j i 0 j.length 1).isEmpty)
 | x,.ref n=>match h[n]? with
  | some (.dct t kvs)=>if ybR t x then some (valA kvs x).isSome else none
  | some (.lst xs)=>match toD 8 h x,toDs (toD 8 h) xs with
   | some d,some ds=>some (ds.any fun e=>PyData.eqv e d)
   | _,_=>none
  | _=>none
 | x,.fl xs=>match toD 8 h x,toDs (toD 8 h) xs with
  | some d,some ds=>some (ds.any fun e=>PyData.eqv e d)
  | _,_=>none
 | x,.tup xs=>match toD 8 h x,toDs (toD 8 h) xs with
  | some d,some ds=>some (ds.any fun e=>PyData.eqv e d)
  | _,_=>none
 | _,_=>none
@[simp] def fIn : F2:=fun x y h=>match inA x y h with
 | some b=>.ok (.bl b) h
 | none=>.bad
@[simp] def yeO : F2:=fun x y h=>match inA x y h with
 | some b=>.ok (.bl (!b)) h
 | none=>.bad
@[simp] def fLen : Fn:=fun args h=>match args with
 | [.str x]=>.ok (.int x.length) h
 | [.tup xs]=>.ok (.int xs.length) h
 | [.fl xs]=>.ok (.int xs.length) h
 | [.ref n]=>match h[n]? with
  | some (.lst xs)=>.ok (.int xs.length) h
  | some (.dct false kvs)=>.ok (.int kvs.length) h
  | _=>.bad
 | _=>.bad
@[simp] def fAbs : Fn:=fun args h=>match args with
 | [.int i]=>.ok (.int (if i < 0 then -i else i)) h
 | _=>.bad
@[simp] def yce : Fn:=fun args h=>match args with
 | [.int i,.int j]=>.ok (.int (if j > i then j else i)) h
 | _=>.bad
@[simp] def ydp : List AV -> Option (List Bool)
 | []=>some []
 | .bl b :: r=>(ydp r).map (b :: ·)
 | _ :: _=>none
@[simp] def fAll : Fn:=fun args h=>match args with
 | [.fl xs]=>match ydp xs with
  | some bs=>.ok (.bl (bs.all id)) h
  | none=>.bad
 | _=>.bad
@[simp] def fInt : Fn:=fun args h=>match args with
 | [.int i]=>.ok (.int i) h
 | [.bl k]=>.ok (.int (if k then 1 else 0)) h
 | _=>.bad
@[simp] def tyN (v : AV) (h : AH) : Option String:=match v with
 | .non=>some "NoneType"
 | .bl _=>some "bool"
 | .int _=>some "int"
 | .str _=>some "str"
 | .tup _=>some "tuple"
 | .fl _=>some "list"
 | .ref n=>match h[n]? with
  | some (.lst _)=>some "list"
  | some (.dct _ _)=>some "dict"
  | _=>none
 | .exc _=>none
@[simp] def sIsB (t : String) (a : SE) : SE:=fun en h=>(a en h).bind fun v h1=>match tyN v h1 with
 | some n=>.ok (.bl (n == t || (t == "int" && n == "bool"))) h1
 | none=>.bad
abbrev FM:=AV -> List AV -> AH -> Out AV
@[simp] def yaI (v : AV) (h : AH) : Bool:=(ya5 v h).isSome
@[simp] def yeD (v : AV) (_ : AH) : Bool:=match v with
 | .str _=>true
 | _=>false
@[simp] def sBM (chk : AV -> AH -> Bool) (f : FM) (o : SE) (as : SL) : SE:=fun en h=>(o en h).bind fun x h1=>if chk x h1 = true then (as en h1).bind fun xs h2=>f x xs h2 else .bad
@[simp] def sBM0 (chk : AV -> AH -> Bool) (f : FM) (o : SE) : SE:=fun en h=>(o en h).bind fun x h1=>if chk x h1 = true then f x [] h1 else .bad
@[simp] def yaR : FM:=fun x vs h=>match x,vs with
 | .ref n,[y]=>match h[n]? with
  | some (.lst xs)=>if xs.length < sizeLine then .ok .non (h.set n (.lst (xs++[y]))) else .bad
  | _=>.bad
 | _,_=>.bad
@[simp] def mPop : FM:=fun x vs h=>match x,vs with
 | .ref n,[]=>match h[n]? with
  | some (.lst xs)=>match xs[xs.length - 1]? with
   | some y=>.ok y (h.set n (.lst xs.dropLast))
   | none=>.bad
  | _=>.bad
 | _,_=>.bad
def yfP (d : PyData) : List PyData -> Nat -> Option Nat
 | [],_=>none
 | e :: r,k=>if PyData.eqv e d = true then some k else yfP d r (k + 1)
@[simp] def yig : FM:=fun x vs h=>match vs with
 | [y]=>match ya5 x h with
  | some xs=>match toD 8 h y,toDs (toD 8 h) xs with
   | some d,some ds=>match yfP d ds 0 with
    | some k=>.ok (.int k) h
    | none=>.bad
   | _,_=>.bad
  | none=>.bad
 | _=>.bad
@[simp] def yeu : FM:=fun x vs h=>match x,vs with
 | .str z,[.str y]=>.ok (.int ((Builtin.Str.occurrences z y 0 z.length (z.length + 1)).length : Nat)) h
 | _,_=>.bad
@[simp] def ydq : List AV -> Option (List Str)
 | []=>some []
 | .str x :: r=>(ydq r).map (x :: ·)
 | _ :: _=>none
@[simp] def yc7 : FM:=fun x vs h=>match x,vs with
 | .str z,[y]=>if z = Str.empty then (match ya5 y h with
  | some xs=>match ydq xs with
   | some zs=>if ((zs.map fun x : Str=>x.cps.toList).flatten).length <= 1000000 then .ok (.str ⟨((zs.map fun x : Str=>x.cps.toList).flatten).toArray⟩) h else .bad
   | none=>.bad
  | none=>.bad) else .bad
 | _,_=>.bad
def cutA {α : Type} (xs : List α) (lo hi : Option Int) : List α:=(xs.drop (HT.sIx xs.length 0 lo)).take (HT.sIx xs.length xs.length hi - HT.sIx xs.length 0 lo)
end Sm
namespace Sm
open PySem L2
structure CA (T : Tb) (E : St -> XK) (X : Cx) : Prop where
 hK : X.K = T.K
 pass : ydo (CXE X.prog X.w) X E
abbrev EN : St -> XK:=fun _=>E0
theorem CA.nox {T : Tb} {E : St -> XK} {X : Cx} (c : CA T E X) : CA T EN X.nox:=⟨c.hK,fun _ _ _ _ _ _ _ h=>by
 obtain ⟨_,_,_,_,_,_,_,_,_,_,_,_,_,_,q⟩:=h
 exact q.elim⟩
theorem CA.never {T : Tb} {X : Cx} (hK : X.K = T.K) : CA T EN X:=⟨hK,fun _ _ _ _ _ _ _ h=>by
 obtain ⟨_,_,_,_,_,_,_,_,_,_,_,_,_,_,q⟩:=h
 exact q.elim⟩
section
variable {T : Tb} {ι : Ix} {h : AH} {H : Hp}
theorem yba {x : AV} {u : V} {xs : List AV} (S : Sim T ι h H) (r : RV T ι H x u) (e : ya5 x h = some xs) : ∃ a us,u = .ref a /\ SqL T.K H a us /\ RVs T ι H xs us:=by
 unfold ya5 at e
 cases r with
 | fl n q r=>cases e; exact ⟨_,_,rfl,.inl q,r⟩
 | kfl q r=>cases e; exact ⟨_,_,rfl,.inr q,r⟩
 | @ref k a q =>
  dsimp only at e
  split at e
  ·rename_i ys hk
   cases e
   obtain ⟨u,e1,us,rfl,r⟩:=S.obj k _ a hk q
   exact ⟨a,us,rfl,.inl (.inl e1),r⟩
  ·cases e
 | _=>cases e
theorem ycI {u : V} {xs : List AV} (r : RV T ι H (.tup xs) u) : ∃ a us,u = .ref a /\ SqT T.K H a us /\ RVs T ι H xs us:=by
 cases r with
 | tup n q r=>exact ⟨_,_,rfl,.of q,r⟩
theorem ya4 {u : V} {x : Str} (r : RV T ι H (.str x) u) : u = .str x /\ x.length <= sizeLine /\ x.cps.all (· < 0x110000) = true:=by
 cases r with
 | str n o=>exact ⟨rfl,n,o⟩
theorem yaF {u : V} {i : Int} (r : RV T ι H (.int i) u) : u = .int i:=by cases r; rfl
theorem ybS {u : V} {i : Bool} (r : RV T ι H (.bl i) u) : u = .bl i:=by cases r; rfl
theorem yeP {u : V} (r : RV T ι H .non u) : u = .non:=by cases r; rfl
theorem ycJ {us : List V} {xs : List AV} {p : Addr} {E : XK} {Q : VK} (S : Sim T ι h H) (r : RVs T ι H xs us) (n : H p = none) (q : Post T ι H E (RV T) (.ok (.fl xs) h) Q) : Q (.ref p) (upd H p (.lst us)) :=
 q ι _ _ (S.growNew n) (S.new n) (.fl (S.fresh n) (.inl zar) (r.mono (S.growNew n)))
theorem zda {us : List V} {xs : List AV} {p : Addr} {E : XK} {Q : VK} (S : Sim T ι h H) (r : RVs T ι H xs us) (n : H p = none) (q : Post T ι H E (RV T) (.ok (.tup xs) h) Q) : Q (.ref p) (upd H p (.tup us)) :=
 q ι _ _ (S.growNew n) (S.new n) (.tup (S.fresh n) zar (r.mono (S.growNew n)))
theorem zfo {us : List V} {xs : List AV} {p : Addr} {E : XK} {Q : VK} (S : Sim T ι h H) (r : RVs T ι H xs us) (n : H p = none) (q : Post T ι H E (RV T) (.ok (.ref h.length) (h++[.lst xs])) Q) : Q (.ref p) (upd H p (.lst us)) :=
 q _ _ _ (S.growAdd n) (S.add n ⟨us,rfl,r.mono (S.growAdd n)⟩) (.ref S.addAt)
end
section
variable {T : Tb} {E : St -> XK} {X : Cx} {pos : Pos}
theorem yaa (i : Nat) {x : Str} {p : Pos} (hN : X.N[i]? = some x:=by rfl) (hv : Vis X.env.scope x:=by first | exact Or.inl rfl | exact Or.inr (Or.inl rfl) | exact Or.inr (Or.inr rfl)) (hd : (x == ("__debug__" : Str)) = false:=by decide)
  (hcd : (x == ("__classdict__" : Str)) = false:=by decide) : PEA T E X (.Name x p) (sVar i) :=
 yaP (pv i hN hv hd hcd) fun σ H Q ⟨ι,h,en,S,er,q⟩=>by
  unfold sVar at q
  split at q
  ·rename_i v hv
   obtain ⟨u,e,r⟩:=er.2 i v hv
   exact ⟨u,e,q.now S r⟩
  ·exact q.elim
theorem yac {i j p} : PEA T E X (.Constant (.int i) j p) (sLit (.int i)):=yaP yf5 fun σ H Q ⟨ι,h,en,S,er,q⟩=>q.now S (.int i)
theorem r_bl {i j p} : PEA T E X (.Constant (.bool i) j p) (sLit (.bl i)):=yaP yhh fun σ H Q ⟨ι,h,en,S,er,q⟩=>q.now S (.bl i)
theorem yaw {x j p} (n : x.length <= sizeLine:=by decide +kernel) (o : x.cps.all (· < 0x110000) = true:=by decide +kernel) : PEA T E X (.Constant (.str x) j p) (sLit (.str x)):=yaP yf6 fun σ H Q ⟨ι,h,en,S,er,q⟩=>q.now S (.str n o)
theorem ziW {x : Str} {i : Int} {t : Tok} {p : Pos} (hg : Gl X x) (hm : X.mg x = some (.int i t)) (hd : (x == ("__debug__" : Str)) = false:=by decide) : PEA T E X (.Name x p) (sLit (.int i)) :=
 yaP (zit (v:=.int i) hg hm ⟨t,rfl⟩ hd) fun σ H Q ⟨ι,h,en,S,er,q⟩=>q.now S (.int i)
def OpS (T : Tb) (f : F2) (r : R2) : Prop:=∀ (ι : Ix) (h : AH) (H : Hp) (x y : AV) (u w : V) (E : XK) (Q : VK),Sim T ι h H -> RV T ι H x u -> RV T ι H y w -> Post T ι H E (RV T) (f x y h) Q -> r u w H Q
def Op (T : Tb) (X : Cx) (g : Value -> Value -> Sem Value) (f : F2) : Prop:=∃ r,OpR X g r /\ OpS T f r
variable {a b c : Expr} {sa sb sc : SE}
theorem two {f : F2} {r : R2} (hs : OpS T f r) {σ : St} {H : Hp} {Q : VK} (q : tE T E (sOp2 f sa sb) σ H Q) : tOp r (tE T E sa) (tE T E sb) σ H Q:=by
 obtain ⟨ι,h,en,S,er,q⟩:=q
 refine ⟨ι,h,en,S,er,q.bind fun x h1 ι1 H1 u g1 S1 r1 q1=>⟨ι1,h1,en,S1,er.mono g1,q1.bind fun y h2 ι2 H2 w g2 S2 r2 q2=>?_⟩⟩
 exact hs ι2 h2 H2 x y u w _ Q S2 (r1.mono g2) r2 q2
theorem yar {op : Operator} {f : F2} (ho : Op T X (binaryOp op) f) (ha : PEA T E X a sa) (hb : PEA T E X b sb) : PEA T E X (.BinOp a op b pos) (sOp2 f sa sb):=by
 obtain ⟨r,h1,h2⟩:=ho
 exact yaP (yhr h1 ha hb) fun σ H Q q=>two h2 q
theorem ziX {i j : Str} (hi : i.cps.all (· < 0x110000) = true) (hj : j.cps.all (· < 0x110000) = true) : (i++j).cps.all (· < 0x110000) = true:=by
 show (i.cps++j.cps).all _ = true
 rw [Array.all_append,hi,hj]; rfl
theorem zeR (i j : Str) : (i++j).length = i.length + j.length:=by
 show (i.cps++j.cps).size = _
 rw [Array.size_append]; rfl
theorem yaO (hK : X.K = T.K) : Op T X (binaryOp .Add) fAdd:=by
 refine ⟨_,op_add.or (zfW.or (ziH.or zfl)),fun ι h H x y u w E Q S rx ry p=>?_⟩
 unfold fAdd at p
 split at p
 ·rw [yaF rx,yaF ry]
  exact .inl ⟨_,_,rfl,rfl,p.now S (.int _)⟩
 ·split at p
  ·rename_i hz
   obtain ⟨rfl,_,o1⟩:=ya4 rx
   obtain ⟨rfl,_,o2⟩:=ya4 ry
   exact .inr (.inl ⟨_,_,rfl,rfl,hz,p.now S (.str (by rw [zeR]; exact hz) (ziX o1 o2))⟩)
  ·exact p.elim
 ·split at p
  ·rename_i hz
   obtain ⟨a,us,rfl,q1,r1⟩:=ycI rx
   obtain ⟨b,ws,rfl,q2,r2⟩:=ycI ry
   refine .inr (.inr (.inl ⟨a,b,us,ws,rfl,rfl,hK ▸ q1,hK ▸ q2,fun z=>hz.1 ?_,by rw [<- r1.length,<- r2.length]; exact hz.2,fun z=>?_,fun _ l n=>zda S (r1.append r2) n p⟩))
   ·subst z; cases r1; rfl
   ·subst z; cases r2
    rw [List.append_nil] at p
    exact p.now S rx
  ·exact p.elim
 ·split at p
  ·split at p
   ·rename_i e1 e2 hz
    obtain ⟨a,us,rfl,q1,r1⟩:=yba S rx e1
    obtain ⟨b,ws,rfl,q2,r2⟩:=yba S ry e2
    exact .inr (.inr (.inr ⟨a,b,us,ws,rfl,rfl,hK ▸ q1,hK ▸ q2,by rw [<- r1.length,<- r2.length]; exact hz,fun l n=>ycJ S (r1.append r2) n p⟩))
   ·exact p.elim
  ·exact p.elim
theorem ycm : Op T X (binaryOp .Sub) fSub:=by
 refine ⟨_,ygi,fun ι h H x y u w E Q S rx ry p=>?_⟩
 unfold fSub at p
 split at p
 ·rw [yaF rx,yaF ry]
  exact ⟨_,_,rfl,rfl,p.now S (.int _)⟩
 ·exact p.elim
theorem zfp {i : Int} (h : i.natAbs < 2 ^ 4000) : Builtin.Int.intBits i <= 2 ^ 20:=by
 unfold Builtin.Int.intBits
 split
 ·exact Nat.zero_le _
 ·rename_i hz
  have h0 : i.natAbs ≠ 0:=fun z=>hz (by simpa using z)
  have : i.natAbs.log2 < 4000:=(Nat.log2_lt h0).mpr h
  exact Nat.le_trans (by omega : i.natAbs.log2 + 1 <= 4001) (by decide)
theorem ycD : Op T X (binaryOp .Mult) fMul:=by
 refine ⟨_,zhR,fun ι h H x y u w E Q S rx ry p=>?_⟩
 unfold fMul at p
 split at p
 ·split at p
  ·rename_i hz
   rw [yaF rx,yaF ry]
   exact ⟨_,_,rfl,rfl,hz.elim (fun z=>CMul.ok (z.elim (fun z=>.inl ⟨by omega,by omega⟩) (fun z=>.inr ⟨by omega,by omega⟩))) (fun z=>.of_bits (zfp z.1) (zfp z.2)),p.now S (.int _)⟩
  ·exact p.elim
 ·exact p.elim
theorem ye4 : Op T X (binaryOp .FloorDiv) fDiv:=by
 refine ⟨_,zhQ,fun ι h H x y u w E Q S rx ry p=>?_⟩
 unfold fDiv at p
 split at p
 ·split at p
  ·rename_i hz
   rw [yaF rx,yaF ry]
   exact ⟨_,_,rfl,rfl,⟨hz.1,by omega⟩,p.now S (.int _)⟩
  ·exact p.elim
 ·exact p.elim
theorem ydx : Op T X (binaryOp .Mod) fMod:=by
 refine ⟨_,ygj,fun ι h H x y u w E Q S rx ry p=>?_⟩
 unfold fMod at p
 split at p
 ·split at p
  ·rename_i hz
   rw [yaF rx,yaF ry]
   exact ⟨_,_,rfl,rfl,hz,p.now S (.int _)⟩
  ·exact p.elim
 ·exact p.elim
theorem ye5 : Op T X (binaryOp .Pow) fPow:=by
 refine ⟨_,ygk,fun ι h H x y u w E Q S rx ry p=>?_⟩
 unfold fPow at p
 split at p
 ·split at p
  ·rename_i hz
   rw [yaF rx,yaF ry]
   exact ⟨_,_,rfl,rfl,hz,p.now S (.int _)⟩
  ·exact p.elim
 ·exact p.elim
theorem ye6 (ha : PEA T E X a sa) : PEA T E X (.UnaryOp .USub a pos) (sOp1 fNeg sa) :=
 yaP (yhs ygl ha) fun σ H Q ⟨ι,h,en,S,er,q⟩=>⟨ι,h,en,S,er,q.bind fun x h1 ι1 H1 u g1 S1 r1 q1=>by
  unfold fNeg at q1
  split at q1
  ·rw [yaF r1]
   exact ⟨_,rfl,q1.now S1 (.int _)⟩
  ·exact q1.elim⟩
theorem zgX {ds : List PyData} (h : ∀ d ∈ ds,d.canLay0 = true) : PyData.canLayAll0 ds = true:=by
 induction ds with
 | nil=>rfl
 | cons d r ih=>show (d.canLay0 && PyData.canLayAll0 r) = true; rw [h d (by simp),ih fun e he=>h e (by simp [he])]; rfl
theorem zeS {n : Nat} {ds : List PyData} (h : ∀ d ∈ ds,d.depth <= n) : PyData.depthAll ds <= n:=by
 induction ds with
 | nil=>exact Nat.zero_le _
 | cons d r ih=>show max d.depth (PyData.depthAll r) <= n; have:=h d (by simp); have:=ih fun e he=>h e (by simp [he]); omega
section
variable {ι : Ix} {h : AH} {H : Hp}
theorem zbl {f : AV -> Option PyData} {n : Nat} (hf : ∀ {x : AV} {u : V} {d : PyData},RV T ι H x u -> f x = some d -> DaV T.K H u d /\ d.canLay0 = true /\ d.depth <= n) :
  ∀ {xs : List AV} {us : List V} {ds : List PyData},RVs T ι H xs us -> toDs f xs = some ds -> DaVs T.K H us ds /\ ∀ d ∈ ds,d.canLay0 = true /\ d.depth <= n
 | _,_,ds,.nil,e=>by cases e; exact ⟨.nil,by simp⟩
 | _,_,ds,.cons (x:=x) (xs:=xs) r rs,e=>by
  unfold toDs at e
  split at e
  ·rename_i d ds' e1 e2
   cases e
   obtain ⟨q1,q2⟩:=hf r e1
   obtain ⟨q3,q4⟩:=zbl hf rs e2
   refine ⟨.cons q1 q3,fun d hd=>?_⟩
   rcases List.mem_cons.mp hd with rfl | hd
   ·exact q2
   ·exact q4 d hd
  ·cases e
theorem ycn (S : Sim T ι h H) : ∀ (n : Nat) {x : AV} {u : V} {d : PyData},RV T ι H x u -> toD n h x = some d -> DaV T.K H u d /\ d.canLay0 = true /\ d.depth <= n
 | 0,x,u,d,r,e=>by
  unfold toD at e
  cases r with
  | non=>cases e; exact ⟨.non,rfl,Nat.le_refl _⟩
  | bl b=>cases e; exact ⟨.bl b,rfl,Nat.le_refl _⟩
  | int b=>cases e; exact ⟨.int b,rfl,Nat.le_refl _⟩
  | str a b=>cases e; exact ⟨.str _,b,Nat.le_refl _⟩
  | _=>cases e
 | n + 1,x,u,d,r,e=>by
  unfold toD at e
  have many : ∀ {xs : List AV} {us : List V} {ds : List PyData},RVs T ι H xs us -> toDs (toD n h) xs = some ds -> DaVs T.K H us ds /\ ∀ d ∈ ds,d.canLay0 = true /\ d.depth <= n:=fun r e=>zbl (fun r e=>ycn S n r e) r e
  have fin : ∀ {ds : List PyData},(∀ d ∈ ds,d.canLay0 = true /\ d.depth <= n) -> PyData.canLayAll0 ds = true /\ PyData.depthAll ds + 1 <= n + 1:=fun q=>⟨zgX fun d hd=>(q d hd).1,Nat.succ_le_succ (zeS fun d hd=>(q d hd).2)⟩
  cases r with
  | non=>cases e; exact ⟨.non,rfl,Nat.zero_le _⟩
  | bl b=>cases e; exact ⟨.bl b,rfl,Nat.zero_le _⟩
  | int b=>cases e; exact ⟨.int b,rfl,Nat.zero_le _⟩
  | str a b=>cases e; exact ⟨.str _,b,Nat.zero_le _⟩
  | tup k q r =>
   obtain ⟨ds,e1,rfl⟩:=Option.map_eq_some_iff.mp e
   obtain ⟨q1,q2⟩:=many r e1
   exact ⟨.tup (.of q) q1,fin q2⟩
  | fl k q r =>
   obtain ⟨ds,e1,rfl⟩:=Option.map_eq_some_iff.mp e
   obtain ⟨q1,q2⟩:=many r e1
   exact ⟨.lst (.inl q) q1,fin q2⟩
  | kfl q r =>
   obtain ⟨ds,e1,rfl⟩:=Option.map_eq_some_iff.mp e
   obtain ⟨q1,q2⟩:=many r e1
   exact ⟨.lst (.inr q) q1,fin q2⟩
  | @ref k a q =>
   dsimp only at e
   split at e
   ·rename_i ys hk
    obtain ⟨ds,e1,rfl⟩:=Option.map_eq_some_iff.mp e
    obtain ⟨u,e2,us,rfl,r⟩:=S.obj k _ a hk q
    obtain ⟨q1,q2⟩:=many r e1
    exact ⟨.lst (.inl (.inl e2)) q1,fin q2⟩
   ·cases e
  | exc _ _ _=>cases e
end
theorem ygG {i j : Int} : decide (V.int i = V.int j) = decide (i = j):=by rw [Bool.eq_iff_iff]; simp
theorem ygH {i j : Str} : decide (V.str i = V.str j) = decide (i = j):=by rw [Bool.eq_iff_iff]; simp
theorem yhJ {i j : Bool} : decide (V.bl i = V.bl j) = decide (i = j):=by rw [Bool.eq_iff_iff]; simp
theorem zfq {r : R2} {neg : Bool} (ho : OpR X g r) (h1 : ∀ x y H Q,(scal x y = true /\ Q (.bl (if neg then !decide (x = y) else decide (x = y))) H) -> r x y H Q)
  (h2 : ∀ x y H Q,(∃ d e,DaV T.K H x d /\ DaV T.K H y e /\ d.canLay0 = true /\ e.canLay0 = true /\ d.depth <= 60 /\ Q (.bl (if neg then !PyData.eqv d e else PyData.eqv d e)) H) -> r x y H Q) :
  OpS T (fun x y h=>match eqA x y h with | some b=>.ok (.bl (if neg then !b else b)) h | none=>.bad) r:=by
 intro ι h H x y u w E Q S rx ry p
 dsimp only at p
 cases hb : eqA x y h with
 | none=>rw [hb] at p; exact p.elim
 | some b =>
  rw [hb] at p
  dsimp only at p
  unfold eqA at hb
  split at hb
  ·cases hb
   rw [yaF rx,yaF ry]
   exact h1 _ _ _ _ ⟨rfl,by rw [ygG]; exact p.now S (.bl _)⟩
  ·cases hb
   obtain ⟨rfl,_⟩:=ya4 rx
   obtain ⟨rfl,_⟩:=ya4 ry
   exact h1 _ _ _ _ ⟨rfl,by rw [ygH]; exact p.now S (.bl _)⟩
  ·cases hb
   rw [ybS rx,ybS ry]
   exact h1 _ _ _ _ ⟨rfl,by rw [yhJ]; exact p.now S (.bl _)⟩
  ·cases hb
   rw [yeP rx,yeP ry]
   exact h1 _ _ _ _ ⟨rfl,by rw [show decide (V.non = V.non) = true from rfl]; exact p.now S (.bl _)⟩
  ·split at hb
   ·rename_i d e e1 e2
    cases hb
    obtain ⟨q1,q2,q3⟩:=ycn S 8 rx e1
    obtain ⟨q4,q5,q6⟩:=ycn S 8 ry e2
    exact h2 _ _ _ _ ⟨d,e,q1,q4,q2,q5,by omega,p.now S (.bl _)⟩
   ·cases hb
theorem o_eq (hK : X.K = T.K) (hu : X.A.units + 64 < cLine) : Op T X (compareOp .Eq) fEq :=
 ⟨_,op_eq.or (yfq hu),zfq (neg:=false) (op_eq.or (yfq hu)) (fun _ _ _ _ q=>.inl q) fun _ _ _ _ q=>.inr (hK ▸ q)⟩
theorem o_ne (hK : X.K = T.K) (hu : X.A.units + 64 < cLine) : Op T X (compareOp .NotEq) fNe :=
 ⟨_,op_ne.or (yfr hu),zfq (neg:=true) (op_ne.or (yfr hu)) (fun _ _ _ _ q=>.inl q) fun _ _ _ _ q=>.inr (hK ▸ q)⟩
theorem o_lt : Op T X (compareOp .Lt) fLt:=by
 refine ⟨_,op_lt.or zgz,fun ι h H x y u w E Q S rx ry p=>?_⟩
 unfold fLt at p
 split at p
 ·rw [yaF rx,yaF ry]
  exact .inl ⟨_,_,rfl,rfl,p.now S (.bl _)⟩
 ·obtain ⟨rfl,_⟩:=ya4 rx
  obtain ⟨rfl,_⟩:=ya4 ry
  exact .inr ⟨_,_,rfl,rfl,p.now S (.bl _)⟩
 ·exact p.elim
theorem o_le : Op T X (compareOp .LtE) fLe:=by
 refine ⟨_,op_le.or zgQ,fun ι h H x y u w E Q S rx ry p=>?_⟩
 unfold fLe at p
 split at p
 ·rw [yaF rx,yaF ry]
  exact .inl ⟨_,_,rfl,rfl,p.now S (.bl _)⟩
 ·obtain ⟨rfl,_⟩:=ya4 rx
  obtain ⟨rfl,_⟩:=ya4 ry
  exact .inr ⟨_,_,rfl,rfl,p.now S (.bl _)⟩
 ·exact p.elim
theorem o_gt : Op T X (compareOp .Gt) fGt:=by
 refine ⟨_,yht,fun ι h H x y u w E Q S rx ry p=>?_⟩
 unfold fGt at p
 split at p
 ·rw [yaF rx,yaF ry]
  exact ⟨_,_,rfl,rfl,p.now S (.bl _)⟩
 ·exact p.elim
theorem o_ge : Op T X (compareOp .GtE) fGe:=by
 refine ⟨_,yhu,fun ι h H x y u w E Q S rx ry p=>?_⟩
 unfold fGe at p
 split at p
 ·rw [yaF rx,yaF ry]
  exact ⟨_,_,rfl,rfl,p.now S (.bl _)⟩
 ·exact p.elim
theorem ydW {op : CmpOp} {f : F2} (ho : Op T X (compareOp op) f) (ha : PEA T E X a sa) (hb : PEA T E X b sb) (hm : behindInMarks op b = false) : PEA T E X (.Compare a [op] [b] pos) (sOp2 f sa sb):=by
 obtain ⟨r,h1,h2⟩:=ho
 exact yaP (ziA h1 ha hb hm) fun σ H Q q=>two h2 q
theorem yan {op : CmpOp} {f : F2} (ho : Op T X (compareOp op) f) (ha : PEA T E X a sa) (hb : PEA T E X b sb) (hm : behindInMarks op b = false) : PTA T E X (.Compare a [op] [b] pos) (yaj (sOp2 f sa sb)):=by
 obtain ⟨r,h1,h2⟩:=ho
 refine ydL (ziB h1 ha hb hm) fun σ H Q q=>two (E:=E) (Q:=fun x H' => ∃ k,x = V.bl k /\ Q k H') h2 ?_
 obtain ⟨ι,h,en,S,er,q⟩:=q
 refine ⟨ι,h,en,S,er,q.bind fun x h1 ι1 H1 u g1 S1 r1 q1=>?_⟩
 split at q1
 ·rw [ybS r1]
  exact ⟨_,rfl,q1.now S1 rfl⟩
 ·exact q1.elim
theorem yfQ {f f' : F2} {r r' : R2} (hs : OpS T f r) (hs' : OpS T f' r') {σ : St} {H : Hp} {Q : VK} (q : tE T E (yb8 f f' sa sb sc) σ H Q) : yeL r r' (tE T E sa) (tE T E sb) (tE T E sc) σ H Q:=by
 obtain ⟨ι,h,en,S,er,q⟩:=q
 refine ⟨ι,h,en,S,er,q.bind fun x h1 ι1 H1 u g1 S1 r1 q1=>⟨ι1,h1,en,S1,er.mono g1,q1.bind fun y h2 ι2 H2 w g2 S2 r2 q2=>?_⟩⟩
 refine hs ι2 h2 H2 x y u w (E σ) _ S2 (r1.mono g2) r2 (q2.bind fun z h3 ι3 H3 k g3 S3 r3 q3=>?_)
 split at q3
 ·rename_i kk
  rw [ybS r3]
  refine ⟨kk,rfl,?_⟩
  by_cases hkk : kk = true
  ·rw [if_pos hkk] at q3 ⊢
   refine ⟨ι3,h3,en,S3,er.mono (g1.trans (g2.trans g3)),q3.bind fun v h4 ι4 H4 j g4 S4 r4 q4=>?_⟩
   exact hs' ι4 h4 H4 y v w j _ Q S4 (r2.mono (g3.trans g4)) r4 q4
  ·rw [if_neg hkk] at q3 ⊢
   exact q3.now S3 (.bl _)
 ·exact q3.elim
theorem zdb {op op' : CmpOp} {f f' : F2} (ho : Op T X (compareOp op) f) (ho' : Op T X (compareOp op') f') (ha : PEA T E X a sa) (hb : PEA T E X b sb) (hc : PEA T E X c sc) (hm : lastMarks [op,op'] [b,c] = false:=by with_unfolding_all rfl) :
  PEA T E X (.Compare a [op,op'] [b,c] pos) (yb8 f f' sa sb sc):=by
 obtain ⟨r,h1,h2⟩:=ho
 obtain ⟨r',h1',h2'⟩:=ho'
 exact yaP (zhx h1 h1' ha hb hc hm) fun σ H Q q=>yfQ h2 h2' q
theorem zbt {op op' : CmpOp} {f f' : F2} (ho : Op T X (compareOp op) f) (ho' : Op T X (compareOp op') f') (ha : PEA T E X a sa) (hb : PEA T E X b sb) (hc : PEA T E X c sc) (hm : lastMarks [op,op'] [b,c] = false:=by with_unfolding_all rfl) :
  PTA T E X (.Compare a [op,op'] [b,c] pos) (yaj (yb8 f f' sa sb sc)):=by
 obtain ⟨r,h1,h2⟩:=ho
 obtain ⟨r',h1',h2'⟩:=ho'
 refine ydL (zhy h1 h1' ha hb hc hm) fun σ H Q q=>yfQ (E:=E) (Q:=fun x H' => ∃ k,x = V.bl k /\ Q k H') h2 h2' ?_
 obtain ⟨ι,h,en,S,er,q⟩:=q
 refine ⟨ι,h,en,S,er,q.bind fun x h1 ι1 H1 u g1 S1 r1 q1=>?_⟩
 split at q1
 ·rw [ybS r1]
  exact ⟨_,rfl,q1.now S1 rfl⟩
 ·exact q1.elim
theorem ygI {ι : Ix} {h : AH} {H : Hp} {v : AV} {u : V} {k : Bool} (S : Sim T ι h H) (r : RV T ι H v u) (e : truA v h = some k) : TruV T.K u H k:=by
 unfold truA at e
 cases r with
 | non=>cases e; rfl
 | bl b=>cases e; rfl
 | int b=>cases e; rfl
 | str n o=>cases e; exact ⟨n,rfl⟩
 | tup n q r=>cases e; exact .inr (.inl ⟨_,.of q,by cases r<;>rfl⟩)
 | fl n q r=>cases e; exact .inl ⟨_,.inl q,by cases r<;>rfl⟩
 | kfl q r=>cases e; exact .inl ⟨_,.inr q,by cases r<;>rfl⟩
 | @ref n a q =>
  dsimp only at e
  split at e
  ·rename_i xs hk
   cases e
   obtain ⟨u,e1,us,rfl,r⟩:=S.obj n _ a hk q
   exact .inl ⟨us,.inl (.inl e1),by cases r<;>rfl⟩
  ·rename_i xs hk
   cases e
   obtain ⟨u,e1,us,rfl,r⟩:=S.obj n _ a hk q
   exact .inr (.inr ⟨us,e1,by cases r<;>rfl⟩)
  ·cases e
 | exc _ _ _=>cases e
theorem zaP (hK : X.K = T.K) (ha : PEA T E X a sa) (he : ∀ whole,isTrue a X.env whole = (do let v <- whole; standAt a.pos; holding [v] (truthy v)):=by intro _; rfl) : PTA T E X a (yc6 sa) :=
 ydL (zhz ha he) fun σ H Q ⟨ι,h,en,S,er,q⟩=>⟨ι,h,en,S,er,q.bind fun x h1 ι1 H1 u g1 S1 r1 q1=>by
  split at q1
  ·rename_i b hb
   exact ⟨b,hK ▸ ygI S1 r1 hb,q1.now S1 rfl⟩
  ·exact q1.elim⟩
variable {ca cb : SB} {rest : List Expr}
theorem ycX (ha : PTA T E X a ca) : PTA T E X (.UnaryOp .Not a pos) (sNot ca) :=
 ydL (yf9 ha) fun σ H Q ⟨ι,h,en,S,er,q⟩=>⟨ι,h,en,S,er,q.bind fun x h1 ι1 H1 u g1 S1 r1 q1=>by subst r1; exact q1.now S1 rfl⟩
theorem rt_w (h : PWA T E X a ca) : PTA T E X a ca:=PW.pt h
theorem zb3 (ha : PTA T E X a ca) : PWA T E X (.BoolOp .And [a] pos) ca:=ziv ha
theorem ydN (ha : PTA T E X a ca) : PWA T E X (.BoolOp .Or [a] pos) ca:=yf7 ha
theorem ycK (ha : PTA T E X a ca) (hb : PWA T E X (.BoolOp .And (b :: rest) pos) cb) : PWA T E X (.BoolOp .And (a :: b :: rest) pos) (sAnd ca cb) :=
 yfs (yf8 ha hb) fun σ H Q ⟨ι,h,en,S,er,q⟩=>⟨ι,h,en,S,er,q.bind fun x h1 ι1 H1 u g1 S1 r1 q1=>by
  subst r1
  by_cases hx : x = true
  ·rw [if_pos hx] at q1 ⊢
   exact ⟨ι1,h1,en,S1,er.mono g1,q1⟩
  ·rw [if_neg hx] at q1 ⊢
   exact q1.now S1 rfl⟩
theorem yeh (ha : PTA T E X a ca) (hb : PWA T E X (.BoolOp .Or (b :: rest) pos) cb) : PWA T E X (.BoolOp .Or (a :: b :: rest) pos) (sOr ca cb) :=
 yfs (yhi ha hb) fun σ H Q ⟨ι,h,en,S,er,q⟩=>⟨ι,h,en,S,er,q.bind fun x h1 ι1 H1 u g1 S1 r1 q1=>by
  subst r1
  by_cases hx : x = true
  ·rw [if_pos hx] at q1 ⊢
   exact q1.now S1 rfl
  ·rw [if_neg hx] at q1 ⊢
   exact ⟨ι1,h1,en,S1,er.mono g1,q1⟩⟩
theorem yei {op} (h : PEA T E X a sa) : PEA T E X (.BoolOp op [a] pos) sa:=yga h
theorem ye7 (ha : PEA T E X a sa) (hb : PEA T E X (.BoolOp .And (b :: rest) pos) sb) : PEA T E X (.BoolOp .And (a :: b :: rest) pos) (yeA sa sb) :=
 yaP (ygb ha hb) fun σ H Q ⟨ι,h,en,S,er,q⟩=>⟨ι,h,en,S,er,q.bind fun x h1 ι1 H1 u g1 S1 r1 q1=>by
  split at q1
  ·rename_i kk
   rw [ybS r1]
   refine ⟨kk,rfl,?_⟩
   by_cases hkk : kk = true
   ·rw [if_pos hkk] at q1 ⊢
    exact ⟨ι1,h1,en,S1,er.mono g1,q1⟩
   ·rw [if_neg hkk] at q1 ⊢
    exact q1.now S1 (.bl _)
  ·exact q1.elim⟩
theorem r_or (ha : PEA T E X a sa) (hb : PEA T E X (.BoolOp .Or (b :: rest) pos) sb) : PEA T E X (.BoolOp .Or (a :: b :: rest) pos) (sOrV sa sb) :=
 yaP (yhl ha hb) fun σ H Q ⟨ι,h,en,S,er,q⟩=>⟨ι,h,en,S,er,q.bind fun x h1 ι1 H1 u g1 S1 r1 q1=>by
  split at q1
  ·rename_i kk
   rw [ybS r1]
   refine ⟨kk,rfl,?_⟩
   by_cases hkk : kk = true
   ·rw [if_pos hkk] at q1 ⊢
    exact q1.now S1 (.bl _)
   ·rw [if_neg hkk] at q1 ⊢
    exact ⟨ι1,h1,en,S1,er.mono g1,q1⟩
  ·exact q1.elim⟩
theorem yhK (ha : PEA T E X a sa) : PEA T E X (.UnaryOp .Not a pos) (yfO sa) :=
 yaP (ygc ha) fun σ H Q ⟨ι,h,en,S,er,q⟩=>⟨ι,h,en,S,er,q.bind fun x h1 ι1 H1 u g1 S1 r1 q1=>by
  split at q1
  ·rw [ybS r1]
   exact ⟨_,rfl,q1.now S1 (.bl _)⟩
  ·exact q1.elim⟩
variable {es : List Expr} {as : SL}
theorem yab : PAA T E X [] sNil:=yft yfj fun σ H Q ⟨ι,h,en,S,er,q⟩=>q.now S .nil
theorem zaa (ha : PEA T E X a sa) (hr : PAA T E X es as) (hs : starEach (a :: es) X.env = (false,eval a X.env) :: starEach es X.env:=by rfl) : PAA T E X (a :: es) (sCons sa as) :=
 yft (zc5 ha hr hs) fun σ H Q ⟨ι,h,en,S,er,q⟩=>⟨ι,h,en,S,er,q.bind fun x h1 ι1 H1 u g1 S1 r1 q1=>⟨ι1,h1,en,S1,er.mono g1,q1.bind fun xs h2 ι2 H2 us g2 S2 r2 q2=>q2.now S2 (.cons (r1.mono g2) r2)⟩⟩
theorem yb5 {k} (h : PAA T E X es as) : PEA T E X (.Tuple es k pos) (sTup as) :=
 yaP (ygp h) fun σ H Q ⟨ι,h,en,S,er,q⟩=>⟨ι,h,en,S,er,q.bind fun xs h1 ι1 H1 us g1 S1 r1 q1=>by
  split at q1
  ·rename_i hl
   exact ⟨by rw [<- r1.length]; exact Nat.le_trans hl (by decide),fun p n=>zda S1 r1 n q1⟩
  ·exact q1.elim⟩
theorem ya6 (h : PAA T E X es as) : PEA T E X (.List es pos) (sLst as) :=
 yaP (yfk h) fun σ H Q ⟨ι,h,en,S,er,q⟩=>⟨ι,h,en,S,er,q.bind fun xs h1 ι1 H1 us g1 S1 r1 q1=>by
  split at q1
  ·rename_i hl
   exact ⟨by rw [<- r1.length]; exact Nat.le_trans hl (by decide),fun p n=>ycJ S1 r1 n q1⟩
  ·exact q1.elim⟩
theorem ybI (h : PAA T E X es as) : PEA T E X (.List es pos) (ybG as) :=
 yaP (yfk h) fun σ H Q ⟨ι,h,en,S,er,q⟩=>⟨ι,h,en,S,er,q.bind fun xs h1 ι1 H1 us g1 S1 r1 q1=>by
  split at q1
  ·rename_i hl
   exact ⟨by rw [<- r1.length]; exact Nat.le_trans hl (by decide),fun p n=>zfo S1 r1 n q1⟩
  ·exact q1.elim⟩
theorem ziY : PEA T E X (.Dict [] [] pos) (yez false) :=
 yaP zhK fun σ H Q ⟨ι,h,en,S,er,q⟩ p n=>q _ _ _ (S.growAdd n) (S.add n ⟨[],rfl,.nil⟩) (.ref S.addAt)
theorem ziZ : PEA T E X (.Dict [] [] pos) (yez true) :=
 yaP zhL fun σ H Q ⟨ι,h,en,S,er,q⟩ p n=>q _ _ _ (S.growAdd n) (S.add n ⟨[],rfl,.nil⟩) (.ref S.addAt)
end
end Sm
namespace Sm
open PySem L2
section
variable {T : Tb} {E : St -> XK} {X : Cx} {pos : Pos} {a b : Expr} {sa sb : SE} {ca : SB} {st : Stmt} {sts ss1 ss2 : List Stmt} {s1 s2 : SS}
theorem yao : PSsA T E X [] yas:=zfn ziw fun D σ H ⟨ι,h,en,S,er,q⟩=>q ι H σ S.refl S er
theorem zab (h1 : PSA T E X st s1) (h2 : PSsA T E X sts s2) : PSsA T E X (st :: sts) (sSeq s1 s2) :=
 zfn (zht h1 h2) fun D σ H ⟨ι,h,en,S,er,q⟩=>by
  refine ⟨ι,h,en,S,er,?_⟩
  unfold sSeq at q
  cases e : s1 en h with
  | nx e1 h1 =>
   rw [e] at q
   exact fun ι' H' σ' g S' er' => ⟨ι',h1,e1,S',er',q.shift g⟩
  | rt v h1=>rw [e] at q; exact q
  | bk e1 h1=>rw [e] at q; exact q
  | ct e1 h1=>rw [e] at q; exact q
  | ex c e1 h1=>rw [e] at q; exact q
  | bad=>rw [e] at q; exact q
theorem yad (h1 : PSA T E X st s1) : PSsA T E X [st] s1:=zix h1
theorem yaH (ha : PEA T E X a sa) (hs : swapsWith a none pos.line X.env = pure false:=by rfl) : PSA T E X (.Expr a pos) (yaM sa) :=
 ybL (ziy ha hs) fun D σ H ⟨ι,h,en,S,er,q⟩=>⟨ι,h,en,S,er,q.go er fun v h1 ι1 H1 u g1 S1 r1 q1=>q1 ι1 H1 σ S1.refl S1 (er.mono g1)⟩
theorem yai (ha : PEA T E X a sa) : PSA T E X (.Return (some a) pos) (sRet sa) :=
 ybL (ygd ha) fun D σ H ⟨ι,h,en,S,er,q⟩=>⟨ι,h,en,S,er,q.go er fun v h1 ι1 H1 u g1 S1 r1 q1=>q1 ι1 H1 u S1.refl S1 r1⟩
theorem r_if (hc : PTA T E X a ca) (h1 : PSsA T E X ss1 s1) (h2 : PSsA T E X ss2 s2) : PSA T E X (.If a ss1 ss2 pos) (sIf ca s1 s2) :=
 ybL (yho hc h1 h2) fun D σ H ⟨ι,h,en,S,er,q⟩=>⟨ι,h,en,S,er,q.go er fun x h1 ι1 H1 u g1 S1 r1 q1=>by
  subst r1
  by_cases hx : x = true
  ·rw [if_pos hx] at q1 ⊢
   exact ⟨ι1,h1,en,S1,er.mono g1,q1⟩
  ·rw [if_neg hx] at q1 ⊢
   exact ⟨ι1,h1,en,S1,er.mono g1,q1⟩⟩
theorem yfu {σ : St} {H : Hp} {D : Ends} {i : Nat} (q : tS T E (sSet i sa) D σ H) : tAsg (tE T E sa) (yew i) D σ H:=by
 obtain ⟨ι,h,en,S,er,q⟩:=q
 exact ⟨ι,h,en,S,er,q.go er fun v h1 ι1 H1 u g1 S1 r1 q1=>q1 ι1 H1 _ S1.refl S1 ((er.mono g1).set r1 i)⟩
theorem yap {i : Nat} {x : Str} {p' : Pos} (hN : X.N.Nodup) (ha : PEA T E X a sa) (hi : X.N[i]? = some x:=by rfl) (hx : Loc X.env.scope x:=by first | exact Or.inl rfl | exact Or.inr rfl) (hs : swapsWith a (some (.Name x p')) pos.line X.env = pure false:=by rfl)
  (hf : X.fn x = true \/ X.env.scope.names.lookup x = some .local:=by first | exact .inl rfl | exact .inr rfl | assumption) : PSA T E X (.Assign [.Name x p'] a pos) (sSet i sa) :=
 ybL (ygg hN hi hx ha hs hf) fun D σ H q=>yfu q
theorem zfr (n : Nat) (hc : PTA T EN X.nox a ca) (hb : PSsA T EN X.nox sts s1) : PSA T E X (.While a sts [] pos) (ybs ca s1 n) :=
 ybL (yeM (zhv PassesOwn.never hc hb)) fun D σ H ⟨ι,h,en,S,er,q⟩=>by
  refine ⟨fun m σ H=>∃ ι h en,Sim T ι h H /\ ER T ι H en σ /\ PostS T ι H E (ybs ca s1 m en h) D,⟨n,ι,h,en,S,er,q⟩,?_⟩
  rintro m σ H ⟨ι,h,en,S,er,q⟩
  cases m with
  | zero=>exact (show False from q).elim
  | succ m =>
   unfold ybs at q
   refine ⟨ι,h,en,S,er,?_⟩
   cases e : ca en h with
   | bad=>rw [e] at q; exact q
   | ex c h1=>rw [e] at q; exact (show False from q).elim
   | ok x h1 =>
    rw [e] at q
    intro ι1 H1 u g1 S1 r1
    subst r1
    have q1:=PostS.shift q g1
    cases x with
    | true =>
     rw [if_pos rfl]
     refine ⟨fun σ H=>∃ ι h en,Sim T ι h H /\ ER T ι H en σ /\ PostS T ι H E (ybs ca s1 m en h) D,fun σ' H' w=>⟨m,Nat.lt_succ_self m,w⟩,ι1,h1,en,S1,er.mono g1,?_⟩
     dsimp only at q1
     cases e2 : s1 en h1 with
     | nx e3 h3=>rw [e2] at q1; exact fun ι2 H2 σ2 g2 S2 er2=>⟨ι2,h3,e3,S2,er2,q1.shift g2⟩
     | ct e3 h3=>rw [e2] at q1; exact fun ι2 H2 σ2 g2 S2 er2=>⟨ι2,h3,e3,S2,er2,q1.shift g2⟩
     | bk e3 h3=>rw [e2] at q1; exact q1
     | rt v h3=>rw [e2] at q1; exact q1
     | ex c e3 h3=>rw [e2] at q1; exact (show False from q1).elim
     | bad=>rw [e2] at q1; exact q1
    | false =>
     rw [if_neg Bool.false_ne_true]
     exact q1 ι1 H1 σ S1.refl S1 (er.mono g1)
theorem zdD {ι : Ix} {H : Hp} : ∀ {is : List Nat} {xs : List AV} {us : List V} {en e : En} {σ : St},RVs T ι H xs us -> ER T ι H en σ -> yeN is xs en = some e -> ER T ι H e ((is.zip us).foldl (fun σ p=>σ.set p.1 (some p.2)) σ) /\ us.length = is.length
 | [],_,_,en,e,σ,.nil,er,q=>by cases q; exact ⟨er,rfl⟩
 | i :: is,_,_,en,e,σ,.cons r rs,er,q=>by
  obtain ⟨h1,h2⟩:=zdD (is:=is) rs (er.set r i) q
  exact ⟨h1,by simp [h2]⟩
 | [],_,_,en,e,σ,.cons r rs,er,q=>by cases q
 | i :: is,_,_,en,e,σ,.nil,er,q=>by cases q
def PGA (T : Tb) (X : Cx) (tg : Expr) (t : Tg) : Prop:=∃ g,PG X tg g /\ ∀ {ι : Ix} {h : AH} {H : Hp} {en e : En} {σ : St} {v : AV} {u : V} {Q : St -> Hp -> Prop},Sim T ι h H -> ER T ι H en σ -> RV T ι H v u -> setT t v en = some e ->
 (∀ σ',ER T ι H e σ' -> Q σ' H) -> g u σ H Q
theorem zfs {i : Nat} {x : Str} (hN : X.N.Nodup) (hi : X.N[i]? = some x:=by rfl) (hx : Loc X.env.scope x:=by first | exact Or.inl rfl | exact Or.inr rfl) (hf : X.fn x = true \/ X.env.scope.names.lookup x = some .local:=by first | exact .inl rfl | exact .inr rfl | assumption) :
  PGA T X (.Name x pos) (.nm i):=⟨_,zfd hN hi hx hf,fun S er r e k=>by cases e; exact k _ (er.set r i)⟩
def PGsA (X : Cx) (es : List Expr) (is : List Nat) : Prop:=PGs X es (fun vs σ H Q=>vs.length = is.length /\ Q ((is.zip vs).foldl (fun σ p=>σ.set p.1 (some p.2)) σ) H)
theorem zft {X : Cx} {es : List Expr} {t t' : TGs} (h : PGs X es t) (k : ∀ vs σ H Q,t' vs σ H Q -> t vs σ H Q) : PGs X es t' := fun pins s σ H vs us Q I r q=>h pins s σ H vs us Q I r (k vs σ H Q q)
theorem za7 : PGsA X [] []:=zft ziz fun vs σ H Q ⟨l,q⟩=>by
 cases vs with
 | nil=>exact ⟨rfl,q⟩
 | cons=>cases l
theorem zap {i : Nat} {is : List Nat} {x : Str} {p : Pos} {es : List Expr} (hN : X.N.Nodup) (hr : PGsA X es is) (hi : X.N[i]? = some x:=by rfl) (hx : Loc X.env.scope x:=by first | exact Or.inl rfl | exact Or.inr rfl)
  (hf : X.fn x = true \/ X.env.scope.names.lookup x = some .local:=by first | exact .inl rfl | exact .inr rfl | assumption) (hs : (assignEach (.Name x p :: es) X.env).map (·.2) = assign (.Name x p) X.env :: (assignEach es X.env).map (·.2):=by rfl) : PGsA X (.Name x p :: es) (i :: is) :=
 zft (zhu (zfd hN hi hx hf) hr hs) fun vs σ H Q ⟨l,q⟩=>by
  cases vs with
  | nil=>cases l
  | cons v r=>exact ⟨v,r,rfl,Nat.succ.inj l,q⟩
theorem ydr {es : List Expr} {is : List Nat} {k : Nat} (hK : X.K = T.K) (hc : X.calm = true) (h : PGsA X es is) (hn : (assignEach es X.env).length = is.length:=by rfl) (hst : (assignEach es X.env).findIdx? (·.1) = none:=by rfl) : PGA T X (.Tuple es k pos) (.tup is) :=
 ⟨_,yge hc h hn hst,fun {ι h H en e σ v u Q} S er r q k=>by
  unfold setT at q
  split at q
  ·rename_i hh; cases hh
  ·rename_i hh
   cases hh
   obtain ⟨a,us,rfl,q1,r1⟩:=ycI r
   obtain ⟨h1,h2⟩:=zdD r1 er q
   exact ⟨a,us,rfl,hK ▸ q1,h2,h2,k _ h1⟩
  ·cases q⟩
theorem yeQ {tg : Expr} {t : Tg} (ha : PEA T E X a sa) (hg : PGA T X tg t) (hs : swapsWithSole [tg] a pos.line X.env = pure false:=by rfl) (hw : swappedStores [tg] a X.env = pure none:=by rfl)
  (h1 : (assignEach [tg] X.env).map (·.2) = [assign tg X.env]:=by rfl) : PSA T E X (.Assign [tg] a pos) (yeB t sa):=by
 obtain ⟨g,hg1,hg2⟩:=hg
 refine ybL (yff ha hg1 hs hw h1) fun D σ H ⟨ι,h,en,S,er,q⟩=>⟨ι,h,en,S,er,q.go er fun v h1 ι1 H1 u g1 S1 r1 q1=>?_⟩
 split at q1
 ·rename_i e he
  exact hg2 S1 (er.mono g1) r1 he fun σ' er' => q1 ι1 H1 σ' S1.refl S1 er'
 ·exact q1.elim
structure ItR (T : Tb) (J : It) (ι : Ix) (H : Hp) (xs : List AV) (w : Option Nat) : Prop where
 go : ∀ (i : Nat) (ι' : Ix) (h' : AH) (H' : Hp) (x : AV),Ext ι H ι' H' -> Sim T ι' h' H' -> ybi w xs h' = true -> xs[i]? = some x -> J.go i H' /\ ∀ u H2,J.yld i H' u H2 -> Grow ι' H' ι' H2 /\ Sim T ι' h' H2 /\ RV T ι' H2 x u
 stop : ∀ (i : Nat) (ι' : Ix) (h' : AH) (H' : Hp),Ext ι H ι' H' -> Sim T ι' h' H' -> ybi w xs h' = true -> xs.length <= i -> J.stop i H'
def tI (T : Tb) (it : SI) : TI:=fun σ H R=>∃ ι h en,Sim T ι h H /\ ER T ι H en σ /\ match it en h with
 | .ok (xs,w) h' => ∀ ι' H' J,Grow ι H ι' H' -> Sim T ι' h' H' -> ItR T J ι' H' xs w -> R J H'
 | _=>False
abbrev PIA (T : Tb) (X : Cx) (tg iter : Expr) (it : SI) : Prop:=PI X tg iter (tI T it)
theorem yds {X : Cx} {tg iter : Expr} {t t' : TI} (h : PI X tg iter t) (k : ∀ σ H R,t' σ H R -> t σ H R) : PI X tg iter t' := fun pins s σ H R I q=>h pins s σ H R I (k σ H R q)
theorem PI.or {X : Cx} {tg iter : Expr} {t t' : TI} (h : PI X tg iter t) (h' : PI X tg iter t') : PI X tg iter (fun σ H R=>t σ H R \/ t' σ H R):=fun pins s σ H R I q=>q.elim (h pins s σ H R I) (h' pins s σ H R I)
theorem yfv {ι : Ix} {H : Hp} {a : Addr} {us : List V} {xs : List AV} {K : PySem.W.Frag} (keep : ∀ (ι' : Ix) (H' : Hp),Ext ι H ι' H' -> SqL K H' a us) (r : RVs T ι H xs us) : ItR T (Itl K a) ι H xs none:=by
 constructor
 ·intro i ι' h' H' x g S _ e
  obtain ⟨u,e1,r1⟩:=(r.ext g).get e
  refine ⟨⟨us,u,keep ι' H' g,e1⟩,?_⟩
  rintro u2 H2 ⟨rfl,y⟩
  have z:=y us (keep ι' _ g)
  rw [e1] at z; cases z
  exact ⟨S.refl,S,r1⟩
 ·intro i ι' h' H' g S _ hl
  exact ⟨us,keep ι' H' g,by rw [<- r.length]; exact hl⟩
theorem ygJ {ι : Ix} {H : Hp} {a : Addr} {us : List V} {xs : List AV} {K : PySem.W.Frag} (keep : ∀ (ι' : Ix) (H' : Hp),Ext ι H ι' H' -> SqT K H' a us) (r : RVs T ι H xs us) : ItR T (Itt K a) ι H xs none:=by
 constructor
 ·intro i ι' h' H' x g S _ e
  obtain ⟨u,e1,r1⟩:=(r.ext g).get e
  refine ⟨⟨us,u,keep ι' H' g,e1⟩,?_⟩
  rintro u2 H2 ⟨rfl,y⟩
  have z:=y us (keep ι' _ g)
  rw [e1] at z; cases z
  exact ⟨S.refl,S,r1⟩
 ·intro i ι' h' H' g S _ hl
  exact ⟨us,keep ι' H' g,by rw [<- r.length]; exact hl⟩
theorem zi0 {ι : Ix} {H : Hp} {a : Addr} {n : Nat} {xs : List AV} {K : PySem.W.Frag} (e : ι.refs[n]? = some a) : ItR T (Itl K a) ι H xs (some n):=by
 have at_ : ∀ {ι' : Ix} {h' : AH} {H' : Hp},Ext ι H ι' H' -> Sim T ι' h' H' -> ybi (some n) xs h' = true -> ∃ us,H' a = some (.lst us) /\ RVs T ι' H' xs us:=fun {ι' h' H'} g S l=>by
  unfold ybi at l
  dsimp only at l
  split at l
  ·rename_i ys hy
   have z:=of_decide_eq_true l
   subst z
   obtain ⟨u,e1,us,rfl,r⟩:=S.obj n _ a hy (g.at_ e)
   exact ⟨us,e1,r⟩
  ·cases l
 constructor
 ·intro i ι' h' H' x g S l e
  obtain ⟨us,e0,r⟩:=at_ g S l
  obtain ⟨u,e1,r1⟩:=r.get e
  refine ⟨⟨us,u,.of e0,e1⟩,?_⟩
  rintro u2 H2 ⟨rfl,y⟩
  have z:=y us (.of e0)
  rw [e1] at z; cases z
  exact ⟨S.refl,S,r1⟩
 ·intro i ι' h' H' g S l hl
  obtain ⟨us,e0,r⟩:=at_ g S l
  exact ⟨us,.of e0,by rw [<- r.length]; exact hl⟩
theorem zi1 {ι : Ix} {H : Hp} {x : Str} (o : x.cps.all (· < 0x110000) = true) : ItR T (Its x) ι H (x.cps.toList.map fun c=>.str ⟨#[c]⟩) none:=by
 constructor
 ·intro i ι' h' H' y g S _ e
  rw [List.getElem?_map] at e
  obtain ⟨c,e1,rfl⟩:=Option.map_eq_some_iff.mp e
  have hi : i < x.cps.size:=by
   have:=(List.getElem?_eq_some_iff.mp e1).1
   simpa using this
  refine ⟨hi,?_⟩
  rintro u H2 ⟨rfl,c',e2,rfl⟩
  have z : x.cps[i]? = some c:=by simpa using e1
  rw [e2] at z; cases z
  refine ⟨S.refl,S,.str (show 1 <= sizeLine by decide) ?_⟩
  have m:=Array.mem_of_getElem? e2
  have:=Array.all_eq_true_iff_forall_mem.mp o _ m
  simpa using this
 ·intro i ι' h' H' g S _ hl
  show x.cps.size <= i
  simpa using hl
theorem zga (n : Nat) : ∀ (lo : Int) (i : Nat),(ya8 lo n)[i]? = if i < n then some (.int (lo + i)) else none:=by
 induction n with
 | zero=>intro lo i; simp [ya8]
 | succ n ih =>
  intro lo i
  cases i with
  | zero=>simp [ya8]
  | succ i =>
   show (ya8 (lo + 1) n)[i]? = _
   rw [ih]
   by_cases h : i < n
   ·rw [if_pos h,if_pos (by omega)]
    congr 2
    show lo + 1 + (i : Int) = lo + ((i + 1 : Nat) : Int)
    omega
   ·rw [if_neg h,if_neg (by omega)]
theorem zdW (n : Nat) : ∀ lo : Int,(ya8 lo n).length = n:=by
 induction n with
 | zero=>intro lo; rfl
 | succ n ih=>intro lo; show (ya8 (lo + 1) n).length + 1 = n + 1; rw [ih]
theorem zgY {ι : Ix} {H : Hp} {lo : Int} {n : Nat} : ItR T (Itr lo n) ι H (ya8 lo n) none:=by
 constructor
 ·intro i ι' h' H' y g S _ e
  rw [zga] at e
  split at e
  ·rename_i hi
   cases e
   refine ⟨hi,?_⟩
   rintro u H2 ⟨rfl,rfl⟩
   exact ⟨S.refl,S,.int _⟩
  ·cases e
 ·intro i ι' h' H' g S _ hl
  rw [zdW] at hl
  exact hl
theorem numbered_get : ∀ (xs : List AV) (k i : Nat),(numbered k xs)[i]? = (xs[i]?).map fun x=>.tup [.int ((k + i : Nat) : Int),x]
 | [],k,i=>by simp [numbered]
 | x :: xs,k,0=>by simp [numbered]
 | x :: xs,k,i + 1=>by
  show (numbered (k + 1) xs)[i]? = _
  rw [numbered_get xs (k + 1) i]
  show _ = (xs[i]?).map _
  congr 1
  funext y
  rw [show k + 1 + i = k + (i + 1) by omega]
theorem numbered_length : ∀ (xs : List AV) (k : Nat),(numbered k xs).length = xs.length
 | [],_=>rfl
 | x :: xs,k=>by show (numbered (k + 1) xs).length + 1 = _; rw [numbered_length xs]; rfl
theorem zee {ι : Ix} {H : Hp} {a : Addr} {us : List V} {xs : List AV} {K : PySem.W.Frag} (keep : ∀ (ι' : Ix) (H' : Hp),Ext ι H ι' H' -> SqL K H' a us) (r : RVs T ι H xs us) : ItR T (Ite K a) ι H (numbered 0 xs) none:=by
 constructor
 ·intro i ι' h' H' x g S _ e
  rw [numbered_get] at e
  obtain ⟨y,e0,rfl⟩:=Option.map_eq_some_iff.mp e
  obtain ⟨u,e1,r1⟩:=(r.ext g).get e0
  refine ⟨⟨us,u,keep ι' H' g,e1⟩,?_⟩
  rintro u2 H2 ⟨t,y2,rfl,hn,rfl,hy⟩
  have z:=hy us (keep ι' _ g)
  rw [e1] at z; cases z
  have g2:=S.growNew (o:=.tup [.int i,u]) hn
  refine ⟨g2,S.new hn,.tup (S.fresh hn) zar (.cons ?_ (.cons (r1.mono g2) .nil))⟩
  rw [Nat.zero_add]
  exact .int _
 ·intro i ι' h' H' g S _ hl
  rw [numbered_length] at hl
  exact ⟨us,keep ι' H' g,by rw [<- r.length]; exact hl⟩
theorem ydX {ι : Ix} {H : Hp} {a : Addr} {us : List V} (n : a ∉ ι.all) (h : Rd H a (.lst us)) : ∀ (ι' : Ix) (H' : Hp),Ext ι H ι' H' -> SqL T.K H' a us:=fun _ _ g=>.inl (zfm g n h)
theorem yhL {ι : Ix} {H : Hp} {a : Addr} {us : List V} (n : a ∉ ι.all) (h : H a = some (.tup us)) : ∀ (ι' : Ix) (H' : Hp),Ext ι H ι' H' -> SqT T.K H' a us:=fun _ _ g=>.of (g.keep _ _ n h)
theorem ya9 {K K' : PySem.W.Frag} {H : Hp} {a : Addr} {us : List V} (e : K = K') (h : SqL K' H a us) : SqL K H a us:=e ▸ h
theorem yeE {σ : St} {H : Hp} {R : It -> Hp -> Prop} {ι : Ix} {h h1 : AH} {en : En} {v : AV} {xs : List AV} {w : Option Nat} (hK : X.K = T.K) (S : Sim T ι h H) (er : ER T ι H en σ) (e : sa en h = .ok v h1) (hv : (v = .fl xs /\ w = none) \/ ∃ n,v = .ref n /\ h1[n]? = some (.lst xs) /\ w = some n)
  (q : ∀ ι' H' J,Grow ι H ι' H' -> Sim T ι' h1 H' -> ItR T J ι' H' xs w -> R J H') : yfL X.K (tE T E sa) σ H R:=by
 refine ⟨ι,h,en,S,er,?_⟩
 rw [e]
 intro ι1 H1 u g1 S1 r1
 rcases hv with ⟨rfl,rfl⟩ | ⟨n,rfl,hn,rfl⟩
 ·cases r1 with
  | fl n hr rs=>exact ⟨_,rfl,⟨_,ya9 hK (.inl hr)⟩,q ι1 H1 _ g1 S1 (hK ▸ yfv (ydX n hr) rs)⟩
  | kfl hr rs=>exact ⟨_,rfl,⟨_,ya9 hK (.inr hr)⟩,q ι1 H1 _ g1 S1 (hK ▸ yfv (fun _ _ _=>.inr hr) rs)⟩
 ·cases r1 with
  | ref hr =>
   obtain ⟨u,e1,us,rfl,rs⟩:=S1.obj n _ _ hn hr
   exact ⟨_,rfl,⟨_,.of e1⟩,q ι1 H1 _ g1 S1 (zi0 hr)⟩
theorem yfR {σ : St} {H : Hp} {R : It -> Hp -> Prop} {ι : Ix} {h h1 : AH} {en : En} {xs : List AV} (hK : X.K = T.K) (S : Sim T ι h H) (er : ER T ι H en σ) (e : sa en h = .ok (.tup xs) h1)
  (q : ∀ ι' H' J,Grow ι H ι' H' -> Sim T ι' h1 H' -> ItR T J ι' H' xs none -> R J H') : iTup X.K (tE T E sa) σ H R:=by
 refine ⟨ι,h,en,S,er,?_⟩
 rw [e]
 intro ι1 H1 u g1 S1 r1
 cases r1 with
 | tup n hr rs=>exact ⟨_,rfl,⟨_,.of hr⟩,q ι1 H1 _ g1 S1 (hK ▸ ygJ (yhL n hr) rs)⟩
theorem zi2 {tg : Expr} (hK : X.K = T.K) (ha : PEA T E X a sa) : PIA T X tg a (yeg sa) :=
 yds (PI.or (zfe ha) (yfg ha)) fun σ H R ⟨ι,h,en,S,er,q⟩=>by
  unfold yeg at q
  cases e : sa en h with
  | bad=>rw [e] at q; exact q.elim
  | ex c h1=>rw [e] at q; exact q.elim
  | ok v h1 =>
   rw [e] at q
   cases v with
   | fl xs=>exact .inl (yeE hK S er e (.inl ⟨rfl,rfl⟩) q)
   | tup xs=>exact .inr (yfR hK S er e q)
   | ref n =>
    dsimp only [Out.bind] at q
    cases e2 : h1[n]? with
    | none=>rw [e2] at q; exact q.elim
    | some o =>
     rw [e2] at q
     cases o with
     | lst xs=>exact .inl (yeE hK S er e (.inr ⟨n,rfl,e2,rfl⟩) q)
     | _=>exact q.elim
   | _=>exact q.elim
theorem yeR {y : Str} {py : Pos} (hK : X.K = T.K) (ha : PEA T E X a sa) : PIA T X (.Name y py) a (iVal sa) :=
 yds (PI.or (zfe ha) (PI.or (yfg ha) (ygA ha))) fun σ H R ⟨ι,h,en,S,er,q⟩=>by
  unfold iVal at q
  cases e : sa en h with
  | bad=>rw [e] at q; exact q.elim
  | ex c h1=>rw [e] at q; exact q.elim
  | ok v h1 =>
   rw [e] at q
   cases v with
   | fl xs=>exact .inl (yeE hK S er e (.inl ⟨rfl,rfl⟩) q)
   | tup xs=>exact .inr (.inl (yfR hK S er e q))
   | str z =>
    refine .inr (.inr ⟨ι,h,en,S,er,?_⟩)
    rw [e]
    intro ι1 H1 u g1 S1 r1
    obtain ⟨rfl,_,o⟩:=ya4 r1
    exact ⟨_,rfl,q ι1 H1 _ g1 S1 (zi1 o)⟩
   | ref n =>
    dsimp only [Out.bind] at q
    cases e2 : h1[n]? with
    | none=>rw [e2] at q; exact q.elim
    | some o =>
     rw [e2] at q
     cases o with
     | lst xs=>exact .inl (yeE hK S er e (.inr ⟨n,rfl,e2,rfl⟩) q)
     | _=>exact q.elim
   | _=>exact q.elim
theorem zdE {tg : Expr} {p : Pos} (hg : Gl X "range") (hm : X.mg "range" = none) (ha : PEA T E X a sa) (hs : starEach [a] X.env = [(false,eval a X.env)]:=by rfl) : PIA T X tg (.Call (.Name "range" p) [a] [] pos) (ycy sa) :=
 yds (zgx hg hm (zaa ha yab hs) hs) fun σ H R ⟨ι,h,en,S,er,q⟩=>by
  unfold ycy at q
  refine ⟨ι,h,en,S,er,?_⟩
  unfold sCons
  cases e : sa en h with
  | bad=>rw [e] at q; exact q
  | ex c h1=>rw [e] at q; exact q.elim
  | ok v h1 =>
   rw [e] at q
   intro ι1 H1 u g1 S1 r1
   dsimp only [Out.bind] at q
   cases v with
   | int j =>
    dsimp only at q
    split at q
    ·rename_i hx
     split at hx
     ·rename_i hb
      cases hx
      cases r1 with
      | cons r r' =>
       cases r'
       rw [yaF r]
       exact ⟨j,rfl,by omega,by omega,q ι1 H1 _ g1 S1 zgY⟩
     ·cases hx
    ·exact q.elim
   | _=>exact q.elim
theorem zi3 {p tp : Pos} {es : List Expr} {k : Nat} (hK : X.K = T.K) (hg : Gl X "enumerate") (hm : X.mg "enumerate" = none) (ha : PEA T E X a sa) (hs : starEach [a] X.env = [(false,eval a X.env)]:=by rfl) : PIA T X (.Tuple es k tp) (.Call (.Name "enumerate" p) [a] [] pos) (Sm.iEnum sa) :=
 yds (ziO hg hm (zaa ha yab hs) hs) fun σ H R ⟨ι,h,en,S,er,q⟩=>by
  unfold Sm.iEnum at q
  refine ⟨ι,h,en,S,er,?_⟩
  unfold sCons
  cases e : sa en h with
  | bad=>rw [e] at q; exact q
  | ex c h1=>rw [e] at q; exact q.elim
  | ok v h1 =>
   rw [e] at q
   intro ι1 H1 u g1 S1 r1
   dsimp only [Out.bind] at q
   cases v with
   | fl xs =>
    cases r1 with
    | cons r r' =>
     cases r'
     cases r with
     | fl n hr rs=>exact ⟨_,rfl,⟨_,ya9 hK (.inl hr)⟩,q ι1 H1 _ g1 S1 (hK ▸ zee (ydX n hr) rs)⟩
     | kfl hr rs=>exact ⟨_,rfl,⟨_,ya9 hK (.inr hr)⟩,q ι1 H1 _ g1 S1 (hK ▸ zee (fun _ _ _=>.inr hr) rs)⟩
   | _=>exact q.elim
theorem zbO {α : Type} {xs : List α} {i : Nat} (h : i < xs.length) : xs.drop i = xs[i] :: xs.drop (i + 1):=by simp
theorem yeF {tg iter : Expr} {it : SI} {t : Tg} (hc : X.calm = true) (hi : PIA T X.nox tg iter it) (hg : PGA T X.nox tg t) (hb : PSsA T EN X.nox sts s1) (hs : ∀ x,foldedSetIterable iter X.nox.env x = pure x:=by intro _; rfl) :
  PSA T E X (.For tg iter sts [] pos) (sFor it t s1):=by
 obtain ⟨g,hg1,hg2⟩:=hg
 refine ybL (yeM (yfh PassesOwn.never hc hi hg1 hb hs)) fun D σ H ⟨ι,h,en,S,er,q⟩=>⟨ι,h,en,S,er,?_⟩
 unfold sFor at q
 cases e : it en h with
 | bad=>rw [e] at q; exact q
 | ex c h1=>rw [e] at q; exact q
 | ok p h1 =>
  obtain ⟨xs,w⟩:=p
  rw [e] at q
  intro ι1 H1 J g1 S1 IR
  refine ⟨fun i m σ H=>m = xs.length - i /\ i <= xs.length /\ ∃ ι' h' en',Grow ι1 H1 ι' H /\ Sim T ι' h' H /\ ER T ι' H en' σ /\ PostS T ι' H E (ya7 w xs t s1 (xs.drop i) en' h') D,
   ⟨xs.length,by simp,Nat.zero_le _,ι1,h1,en,S1.refl,S1,er.mono g1,PostS.shift q g1⟩,?_⟩
  rintro i m σ H ⟨rfl,hi,ι',h',en',g',S',er',q'⟩
  by_cases hl : i < xs.length
  ·rw [zbO hl] at q'
   unfold ya7 at q'
   split at q'
   ·rename_i hlive
    obtain ⟨go,yld⟩:=IR.go i ι' h' H xs[i] g'.ext S' hlive (by simp [hl])
    refine .inr ⟨go,fun σ H=>∃ ι' h' en',Grow ι1 H1 ι' H /\ Sim T ι' h' H /\ ER T ι' H en' σ /\ PostS T ι' H E (ya7 w xs t s1 (xs.drop (i + 1)) en' h') D,
     fun σ' H' w' => ⟨xs.length - (i + 1),by omega,rfl,hl,w'⟩,fun x H' y=>?_⟩
    obtain ⟨g2,S2,r2⟩:=yld x H' y
    split at q'
    ·rename_i e1 he1
     refine hg2 S2 (er'.mono g2) r2 he1 fun σ' er2=>⟨ι',h',e1,S2,er2,?_⟩
     have q2:=PostS.shift q' g2
     cases e2 : s1 e1 h' with
     | nx e3 h3=>rw [e2] at q2; exact fun ι3 H3 σ3 g3 S3 er3=>⟨ι3,h3,e3,g'.trans (g2.trans g3),S3,er3,q2.shift g3⟩
     | ct e3 h3=>rw [e2] at q2; exact fun ι3 H3 σ3 g3 S3 er3=>⟨ι3,h3,e3,g'.trans (g2.trans g3),S3,er3,q2.shift g3⟩
     | bk e3 h3=>rw [e2] at q2; exact q2
     | rt v h3=>rw [e2] at q2; exact q2
     | ex c e3 h3=>rw [e2] at q2; exact (show False from q2).elim
     | bad=>rw [e2] at q2; exact q2
    ·exact (show False from q').elim
   ·exact (show False from q').elim
  ·have ei : i = xs.length:=by omega
   subst ei
   rw [List.drop_length] at q'
   unfold ya7 at q'
   split at q'
   ·rename_i hlive
    exact .inl ⟨IR.stop _ ι' h' H g'.ext S' hlive (Nat.le_refl _),q' ι' H σ S'.refl S' er'⟩
   ·exact (show False from q').elim
theorem ER.comp {ι : Ix} {H : Hp} {en : En} {σ : St} {x : AV} {u : V} {jf : List (Nat × Str)} (er : ER T ι H en σ) (r : RV T ι H x u) : ER T ι H (some x :: (jf.map (·.1)).map fun j=>(en[j]?).join) (ybr (some u) jf σ):=by
 refine ⟨by simp [ybr],fun i v e=>?_⟩
 cases i with
 | zero=>simp at e; subst e; exact ⟨u,rfl,r⟩
 | succ i =>
  simp only [List.getElem?_cons_succ,List.getElem?_map] at e
  unfold ybr
  simp only [List.getElem?_cons_succ,List.getElem?_map]
  cases e1 : jf[i]? with
  | none=>rw [e1] at e; cases e
  | some j =>
   rw [e1] at e
   simp only [Option.map_some,Option.some.injEq] at e
   have e2 : en[j.1]? = some (some v):=by
    cases e3 : en[j.1]? with
    | none=>rw [e3] at e; cases e
    | some o=>rw [e3] at e; exact congrArg some e
   obtain ⟨u',e4,r'⟩:=er.2 j.1 v e2
   exact ⟨u',by simp [e4],r'⟩
theorem zi4 {jf : List (Nat × Str)} {it : SI} {cc : SB} {ce : SE} {σ : St} {H : Hp} {Q : VK} {ι : Ix} {h : AH} {en : En} (S : Sim T ι h H) (er : ER T ι H en σ)
  (q : match it en h with | .ok (xs,w) h1=>(match yaX (jf.map (·.1)) en w xs cc ce xs [] h1 with | .ok ys h2=>∀ ι' H' D vs,Grow ι H ι' H' -> Sim T (ι'.hide D) h2 H' -> RVs T (ι'.hide D) H' ys vs -> H' D = some (.lst vs) -> D ∉ ι'.all -> (∀ n,ι'.refs = ι.refs++n -> ∀ a ∈ n++[D],H a = none) -> Q (.ref D) H' | _=>False) | _=>False) :
  yee jf (tI T it) (tT T EN cc) (tE T EN ce) σ H Q:=by
 refine ⟨ι,h,en,S,er,?_⟩
 cases e : it en h with
 | bad=>rw [e] at q; exact q
 | ex c h1=>rw [e] at q; exact q
 | ok p h1 =>
  obtain ⟨xs,w⟩:=p
  rw [e] at q
  dsimp only at q
  intro ι1 H1 J g1 S1 IR D hD
  refine ⟨fun i m ys H2=>m = xs.length - i /\ i <= xs.length /\ H2 D = some (.lst ys) /\ ∃ ι' h' vs,Grow ι1 H1 ι' H2 /\ Ext ι1 H1 (ι'.hide D) H2 /\ Sim T (ι'.hide D) h' H2 /\ ER T (ι'.hide D) H2 en σ /\ RVs T (ι'.hide D) H2 vs ys /\ D ∉ ι'.refs /\
   (match yaX (jf.map (·.1)) en w xs cc ce (xs.drop i) vs h' with | .ok ys h2=>∀ ι' H' D vs,Grow ι H ι' H' -> Sim T (ι'.hide D) h2 H' -> RVs T (ι'.hide D) H' ys vs -> H' D = some (.lst vs) -> D ∉ ι'.all -> (∀ n,ι'.refs = ι.refs++n -> ∀ a ∈ n++[D],H a = none) -> Q (.ref D) H' | _=>False),?_,?_⟩
  ·exact ⟨xs.length,by simp,Nat.zero_le _,zar,ι1,h1,[],S1.growNew hD,Ext.hide hD,S1.hide hD,(er.mono g1).ext (Ext.hide hD),.nil,fun z=>S1.fresh hD (List.mem_append_left _ z),q⟩
  ·rintro i m ys H2 ⟨rfl,hi,hH2,ι',h',vs,g',x',S',er',rv',nD',q'⟩
   refine ⟨hH2,?_⟩
   by_cases hl : i < xs.length
   ·rw [zbO hl] at q'
    unfold yaX at q'
    by_cases hs : ybi w xs h' = true /\ vs.length < sizeLine
    ·rw [if_pos hs] at q'
     obtain ⟨hs1,hs2⟩:=hs
     obtain ⟨go,yld⟩:=IR.go i _ h' H2 xs[i] x' S' hs1 (by simp [hl])
     refine .inr ⟨go,by rw [<- rv'.length]; exact hs2,fun x H3 y=>?_⟩
     obtain ⟨g3,S3,r3⟩:=yld x H3 y
     have er3:=er'.mono g3
     refine ⟨ι'.hide D,h',_,S3,ER.comp er3 r3,?_⟩
     cases ec : cc (some xs[i] :: (jf.map (·.1)).map fun j=>(en[j]?).join) h' with
     | bad=>rw [ec] at q'; exact q'
     | ex c h5=>rw [ec] at q'; exact q'.elim
     | ok bb h5 =>
      rw [ec] at q'
      intro ι5 H5 b5 g5 S5 r5
      subst r5
      have g35:=g3.trans g5
      have hD5 : H5 D = some (.lst ys):=g35.keep D _ nD' hH2
      have eι : ι5 = Ix.hide ⟨ι5.refs,ι'.priv⟩ D:=by
       have:=g5.priv
       cases ι5
       simp only at this
       subst this
       rfl
      have nD5 : D ∉ ι5.refs:=g35.outR nD' hH2
      have gG5 : Grow ι1 H1 ⟨ι5.refs,ι'.priv⟩ H5:=by
       obtain ⟨n,en1,hn⟩:=g'.pre
       obtain ⟨k,ek,hk⟩:=g35.pre
       refine ⟨⟨n++k,?_,fun a ha=>?_⟩,g'.priv,fun a o na ea=>?_,fun a ha=>?_⟩
       ·show ι5.refs = _; rw [ek]; show ι'.refs++k = _; rw [en1]; simp
       ·rcases List.mem_append.mp ha with z | z
        ·exact hn a z
        ·have z2:=hk a z
         by_cases hr : a ∈ ι1.refs
         ·exact absurd z2 (g'.live a (List.mem_append_left _ hr))
         ·cases e9 : H1 a with
          | none=>rfl
          | some o=>rw [g'.keep a o hr e9] at z2; cases z2
       ·exact g35.keep a o (g'.outR na ea) (g'.keep a o na ea)
       ·have : a ∈ (ι'.hide D).all:=by
         rcases List.mem_append.mp ha with z | z
         ·exact List.mem_append_left _ (by show a ∈ ι'.refs; rw [en1]; exact List.mem_append_left _ z)
         ·exact List.mem_append_right _ (List.mem_cons_of_mem _ (by rw [g'.priv]; exact z))
        exact g35.live a this
      have x5 : Ext ι1 H1 (Ix.hide ⟨ι5.refs,ι'.priv⟩ D) H5:=eι ▸ x'.trans g35.ext
      have er5:=er3.mono g5
      have rv5:=(rv'.mono g35)
      cases bb with
      | false =>
       rw [if_neg Bool.false_ne_true]
       refine ⟨xs.length - (i + 1),by omega,rfl,hl,hD5,⟨ι5.refs,ι'.priv⟩,h5,vs,gG5,x5,eι ▸ S5,eι ▸ er5,eι ▸ rv5,nD5,q'⟩
      | true =>
       rw [if_pos rfl]
       refine ⟨ι5,h5,_,S5,(ER.comp er3 r3).mono g5,?_⟩
       dsimp only at q'
       cases ee : ce (some xs[i] :: (jf.map (·.1)).map fun j=>(en[j]?).join) h5 with
       | bad=>rw [ee] at q'; exact q'
       | ex c h6=>rw [ee] at q'; exact q'.elim
       | ok v h6 =>
        rw [ee] at q'
        intro ι6 H6 u6 g6 S6 r6
        have g56:=g6
        have hD6 : H6 D = some (.lst ys):=g56.keep D _ nD5 hD5
        have eι6 : ι6 = Ix.hide ⟨ι6.refs,ι'.priv⟩ D:=by
         have h1:=g6.priv
         have h2:=g5.priv
         rw [h2] at h1
         cases ι6
         simp only at h1
         subst h1
         rfl
        have nD6 : D ∉ ι6.refs:=g56.outR nD5 hD5
        have gG6 : Grow ι1 H1 ⟨ι6.refs,ι'.priv⟩ (upd H6 D (.lst (ys++[u6]))):=by
         obtain ⟨n,en1,hn⟩:=gG5.pre
         obtain ⟨k,ek,hk⟩:=g56.pre
         have hD1 : ∀ a o,H1 a = some o -> a ≠ D:=fun a o ea=>zav ea hD
         refine ⟨⟨n++k,?_,fun a ha=>?_⟩,g'.priv,fun a o na ea=>?_,fun a ha=>?_⟩
         ·show ι6.refs = _; rw [ek]; have z : ι5.refs = ι1.refs++n:=en1; rw [z]; simp
         ·rcases List.mem_append.mp ha with z | z
          ·exact hn a z
          ·have z2:=hk a z
           by_cases hr : a ∈ ι1.refs
           ·exact absurd z2 (gG5.live a (List.mem_append_left _ hr))
           ·cases e9 : H1 a with
            | none=>rfl
            | some o=>rw [gG5.keep a o hr e9] at z2; cases z2
         ·rw [yay (hD1 a o ea)]
          exact g56.keep a o (gG5.outR na ea) (gG5.keep a o na ea)
         ·by_cases zD : a = D
          ·subst zD; rw [zar]; simp
          ·rw [yay zD]
           have : a ∈ ι5.all:=by
            rcases List.mem_append.mp ha with z | z
            ·exact List.mem_append_left _ (by have z' : ι5.refs = ι1.refs++n:=en1; rw [z']; exact List.mem_append_left _ z)
            ·rw [eι]; exact List.mem_append_right _ (List.mem_cons_of_mem _ (by show a ∈ ι'.priv; rw [g'.priv]; exact z))
           exact g56.live a this
        refine ⟨hD6,xs.length - (i + 1),by omega,rfl,hl,zar,⟨ι6.refs,ι'.priv⟩,h6,vs++[v],gG6,?_,?_,?_,?_,nD6,q'⟩
        ·exact (eι6 ▸ (x'.trans (g35.ext.trans g6.ext))).trans Ext.poke
        ·exact Sim.poke (eι6 ▸ S6) nD6
        ·exact ER.ext (eι6 ▸ er5.mono g6) Ext.poke
        ·have : RVs T ι6 H6 (vs++[v]) (ys++[u6]):=(rv5.mono g6).append (.cons r6 .nil)
         exact RVs.ext Ext.poke (eι6 ▸ this)
    ·rw [if_neg hs] at q'; exact q'.elim
   ·have ei : i = xs.length:=by omega
    subst ei
    rw [List.drop_length] at q'
    unfold yaX at q'
    by_cases hs : ybi w xs h' = true
    ·rw [if_pos hs] at q'
     have hp : D ∉ ι'.priv:=fun z=>by rw [g'.priv] at z; exact S1.plive D z hD
     refine .inl ⟨IR.stop _ _ h' H2 x' S' hs (Nat.le_refl _),q' ι' H2 D ys (g1.trans g') S' rv' hH2 (fun z=>(List.mem_append.mp z).elim nD' hp) fun n en1 a ha=>?_⟩
     obtain ⟨k,ek,hk⟩:=(g1.trans g').pre
     have : n = k:=List.append_cancel_left (en1.symm.trans ek)
     subst this
     rcases List.mem_append.mp ha with z | z
     ·exact hk a z
     ·have z' : a = D:=by simpa using z
      subst z'
      cases e9 : H a with
      | none=>rfl
      | some o =>
       by_cases hr : a ∈ ι.refs
       ·have z1 : a ∈ ι1.refs:=by
         obtain ⟨k1,ek1,_⟩:=g1.pre
         rw [ek1]; exact List.mem_append_left _ hr
        exact absurd hD (S1.live a (List.mem_append_left _ z1))
       ·rw [g1.keep a o hr e9] at hD; cases hD
    ·rw [if_neg hs] at q'; exact q'.elim
end
end Sm
namespace Sm
open PySem PySem.Spec L2
section
variable {T : Tb} {E : St -> XK} {X : Cx} {pos px : Pos} {iter elt : Expr} {ifs : List Expr} {scope : Scope} {x₁ : Str} {jf : List (Nat × Str)} {it : SI} {cc : SB} {ce : SE}
theorem zfu {σ : St} {H : Hp} {Q : VK} (q : tE T E (ybA (jf.map (·.1)) it cc ce) σ H Q) : yee jf (tI T it) (tT T EN cc) (tE T EN ce) σ H Q:=by
 obtain ⟨ι,h,en,S,er,q⟩:=q
 refine zi4 S er ?_
 unfold ybA at q
 cases e : it en h with
 | bad=>rw [e] at q; exact q
 | ex c h1=>rw [e] at q; exact q.elim
 | ok p h1 =>
  obtain ⟨xs,w⟩:=p
  rw [e] at q
  dsimp only at q ⊢
  cases e2 : yaX (jf.map (·.1)) en w xs cc ce xs [] h1 with
  | bad=>rw [e2] at q; exact q
  | ex c h1=>rw [e2] at q; exact q.elim
  | ok ys h2 =>
   rw [e2] at q
   exact fun ι' H' D vs g S' r hD nD _=>q ι' H' _ g S'.show (.fl nD (.inl hD) (r.ext Ext.show))
theorem zb4 : PTs X [] (tT T E sYes):=fun pins s σ H Q I ⟨ι,h,en,S,er,q⟩=>ziP pins s σ H Q I (q.now S rfl)
structure CompOk (X : Cx) (x₁ : Str) (jf : List (Nat × Str)) (scope : Scope) : Prop where
 hN : (x₁ :: jf.map (·.2)).Nodup
 hx : scope.names.lookup x₁ = some .local
 hjf : ∀ p ∈ jf,X.N[p.1]? = some p.2
 hjl : ∀ p ∈ jf,scope.names.lookup p.2 = some .free
 hkind : scope.kind = .function
 hcell : ∀ y ∈ scope.names,y.2 ≠ .cell
 hfr : ∀ y ∈ scope.names,y.2 = .free -> X.env.kindOf y.1 = some .cell \/ X.env.kindOf y.1 = some .free
 hnames : ∀ y ∈ scope.names,y.2 = .local -> scope.names.lookup y.1 = some .local
theorem yeS (C : CompOk X x₁ jf scope) (hcalm : X.calm = true) (hi : PIA T X (.Name x₁ px) iter it) (hc : ∀ pins cl s H fp,PTs (ya0 X pins x₁ jf scope cl s H fp) ifs (tT T EN cc)) (he : ∀ pins cl s H fp,PEA T EN (ya0 X pins x₁ jf scope cl s H fp) elt ce)
  (hs : ∀ x,foldedSetIterable iter X.env x = pure x:=by intro _; rfl) : PEA T E X (.ListComp elt [⟨.Name x₁ px,iter,ifs,0⟩] scope pos) (ybA (jf.map (·.1)) it cc ce) :=
 yaP (ziQ hcalm hi hc he C.hN C.hx C.hjf C.hjl C.hkind C.hcell C.hfr C.hnames hs) fun _ _ _ q=>zfu q
theorem zi5 {y : Str} {py spos : Pos} {i : Nat} (C : CompOk X x₁ jf scope) (hcalm : X.calm = true) (hi : PIA T X (.Name x₁ px) iter it) (hc : ∀ pins cl s H fp,PTs (ya0 X pins x₁ jf scope cl s H fp) ifs (tT T EN cc)) (he : ∀ pins cl s H fp,PEA T EN (ya0 X pins x₁ jf scope cl s H fp) elt ce)
  (hNX : X.N.Nodup) (hi' : X.N[i]? = some y:=by rfl) (hy : X.env.scope.names.lookup y = some .local:=by rfl) (hsw : swapsWith (.ListComp elt [⟨.Name x₁ px,iter,ifs,0⟩] scope pos) (some (.Name y py)) spos.line X.env = pure true:=by rfl) (hs : ∀ x,foldedSetIterable iter X.env x = pure x:=by intro _; rfl) :
  PSA T E X (.Assign [.Name y py] (.ListComp elt [⟨.Name x₁ px,iter,ifs,0⟩] scope pos) spos) (sSet i (ybA (jf.map (·.1)) it cc ce)) :=
 ybL (ziR hcalm hi hc he C.hN C.hx C.hjf C.hjl C.hkind C.hcell C.hfr C.hnames hNX hi' hy hsw hs) fun D σ H q=>zfu (yfu q)
end
def spA (T : Tb) (F : Fn) : Sp:=fun vs H Q E=>∃ ι h args,Sim T ι h H /\ RVs T ι H args vs /\ Post T ι H E (RV T) (F args h) Q
def yhM (F : Fn) (n : Nat) : Prop:=∀ args h,args.length ≠ n -> F args h = .bad
theorem zcT (n m : Nat) (b : SS) : yhM (mkFn n m b) n:=fun args h hl=>by
 unfold mkFn
 rw [if_neg hl]
theorem okA {P : Program} {w : World} {K : PySem.W.Frag} {mg : Str -> Option Value} {base : Heap} {T : Tb} {x qual : Str} {st : Stmt} {f : Addr} {fd : FuncData} {N ps : List Str} {k : Nat} {b : SS} (F : Fun K x qual st f fd) (hK : K = T.K) (S : FnScope N ps (yag st))
  (hbody : ∀ (cdv : Value) (A : Around) (outer : List Env) (s : Shared) (H : Hp) (E : XK),Room k (A.deeper (PyProof.Rows.envOfC qual (yag st) s.heap.objs.size f cdv)) -> CA T (fun _=>E) (cxOf (CXE P w) P w K mg base N qual (yag st) f cdv A outer s H E) ->
   PSsA T (fun _=>E) (cxOf (CXE P w) P w K mg base N qual (yag st) f cdv A outer s H E) (ybN st) b) : FnOk P w K mg base (CXE P w) (k + 1) f fd ps (spA T (mkFn ps.length N.length b)):=by
 refine F.okE S (fun vs H Q E h=>?_) (fun cdv A outer s H vs Q E hr h=>?_)
 ·obtain ⟨ι,h,args,_,r,q⟩:=h
  by_cases hl : args.length = ps.length
  ·rw [<- hl,r.length]
  ·rw [zcT _ _ _ args h hl] at q; exact q.elim
 ·obtain ⟨ι,h,args,Si,r,q⟩:=h
  refine ⟨_,hbody cdv A outer s H E hr ⟨hK,ziT⟩,ι,h,args.map some++List.replicate (N.length - ps.length) none,Si,?_,?_⟩
  ·by_cases hl : args.length = ps.length
   ·refine ⟨by simp [L2.start,r.length,<- hl],fun i v e=>?_⟩
    unfold L2.start
    by_cases hi : i < args.length
    ·rw [List.getElem?_append_left (by simpa using hi),List.getElem?_map] at e
     rw [List.getElem?_append_left (by simpa [<- r.length] using hi),List.getElem?_map]
     obtain ⟨x,e1,e2⟩:=Option.map_eq_some_iff.mp e
     cases e2
     obtain ⟨u,e3,r3⟩:=r.get e1
     exact ⟨u,by rw [e3]; rfl,r3⟩
    ·rw [List.getElem?_append_right (by simpa using hi),List.getElem?_replicate] at e
     split at e
     ·cases e
     ·cases e
   ·rw [zcT _ _ _ args h hl] at q; exact q.elim
  ·unfold mkFn at q
   split at q
   ·split at q
    ·rename_i e1 h1 he
     rw [he]
     exact fun ι' H' σ' g S' er=>q ι' H' _ g S' .non
    ·rename_i v h1 he
     rw [he]
     exact q
    ·rename_i c e1 h1 he
     rw [he]
     exact fun ι' H' σ' C g S' er ec=>q ι' H' C g S' ec
    ·exact q.elim
   ·exact q.elim
structure GF (P : Program) (w : World) (T : Tb) (mg : Str -> Option Value) (base : Heap) (k : Nat) (x : Str) (F : Fn) : Prop where
 ex : ∃ f fd ps,mg x = some (.ref f) /\ PySem.W.keepIn T.K (.ref f) = true /\ Binds T.K fd ps [] /\ FnOk P w T.K mg base (CXE P w) k f fd ps (spA T F)
structure GM (P : Program) (w : World) (T : Tb) (mg : Str -> Option Value) (base : Heap) (k : Nat) (c : Nat) (m : Str) (F : Fn) : Prop where
 ex : ∃ C f fd ps,T.cls c = some C /\ Cls T.K C /\ Meth T.K C m f /\ Binds T.K fd ps [] /\ FnOk P w T.K mg base (CXE P w) k f fd ps (spA T F)
 no : m ∉ T.fields c
section
variable {T : Tb} {E : St -> XK} {X : Cx} {pos p apos : Pos} {e o a : Expr} {es : List Expr} {x m : Str} {F : Fn} {k c : Nat} {as : SL} {so sa : SE}
theorem yah (hK : X.K = T.K) (C : CA T E X) (G : GF X.prog X.w T X.mg X.base k x F) (hr : Room k X.A) (hg : Gl X x) (ha : PAA T E X (e :: es) as) (hdb : (x == ("__debug__" : Str)) = false:=by decide)
  (he : starEach (e :: es) X.env = (false,eval e X.env) :: starEach es X.env:=by rfl) (hpl : (backTo pos (starEach es X.env)).any (·.1) = false:=by rfl) : PEA T E X (.Call (.Name x p) (e :: es) [] pos) (yaf F as):=by
 obtain ⟨f,fd,ps,h1,h2,h3,h4⟩:=G.ex
 refine yaP (zhV (Ex:=E) (dvs:=[]) (hK ▸ h4) hr hg h1 (hK ▸ h2) (hK ▸ h3) .nil C.pass ha hdb he hpl) fun σ H Q ⟨ι,h,en,S,er,q⟩=>⟨ι,h,en,S,er,q.bind fun xs h1 ι1 H1 us g1 S1 r1 q1=>?_⟩
 rw [List.append_nil]
 exact ⟨ι1,h1,xs,S1,r1,q1⟩
theorem zfv {C : Addr} {σ : St} {H : Hp} {Q : VK} (hc : T.cls c = some C) (no : m ∉ T.fields c) (q : tE T E (yak c F so as) σ H Q) : yfp C m (spA T F) [] E (tE T E so) (tA T E as) σ H Q:=by
 obtain ⟨ι,h,en,S,er,q⟩:=q
 refine ⟨ι,h,en,S,er,q.bind fun x h1 ι1 H1 u g1 S1 r1 q1=>?_⟩
 split at q1
 ·rename_i n
  split at q1
  ·rename_i c' fs hn
   split at q1
   ·rename_i ec
    subst ec
    cases r1 with
    | @ref _ a hr =>
     obtain ⟨o,e1,C',dx,fus,hC,rfl,nd,hw,hl,_⟩:=S1.obj n _ a hn hr
     rw [hc] at hC; cases hC
     refine ⟨a,dx,fus,rfl,e1,?_,ι1,h1,en,S1,er.mono g1,q1.bind fun xs h2 ι2 H2 us g2 S2 r2 q2=>?_⟩
     ·cases e : fus.lookup m with
      | none=>rfl
      | some v =>
       have:=PySem.mem_of_lookup e
       exact absurd (hw _ this) no
     ·rw [List.append_nil]
      exact ⟨ι2,h2,.ref n :: xs,S2,.cons (.ref (g2.at hr)) r2,q2⟩
   ·exact q1.elim
  ·exact q1.elim
 ·exact q1.elim
theorem yam {pl : Sem Bool} (hK : X.K = T.K) (CC : CA T E X) (G : GM X.prog X.w T X.mg X.base k c m F) (hr : Room k X.A) (ho : PEA T E X o so) (ha : PAA T E X (e :: es) as)
  (hst : starEach (e :: es) X.env = (false,eval e X.env) :: starEach es X.env:=by rfl) (hpl : (backTo pos (starEach es X.env)).any (·.1) = false:=by rfl)
  (ht : eval (.Call (.Attribute o m apos) (e :: es) [] pos) X.env = (do
   let ov <- eval o X.env
   standAt apos.atName
   let (f,first) <- holding [ov] (getMethod ov m pl)
   callWith pos f first (backTo pos (starEach (e :: es) X.env)) (backToKw pos (keywordEach [] X.env))):=by rfl) : PEA T E X (.Call (.Attribute o m apos) (e :: es) [] pos) (yak c F so as):=by
 obtain ⟨C,f,fd,ps,h1,h2,h3,h4,h5⟩:=G.ex
 exact yaP (zhW (Ex:=E) (dvs:=[]) (pl:=pl) ho (hK ▸ h2) (hK ▸ h3) (hK ▸ h5) hr (hK ▸ h4) .nil CC.pass ha hst hpl ht) fun σ H Q q=>zfv h1 G.no q
theorem zb5 {pl : Sem Bool} (hK : X.K = T.K) (CC : CA T E X) (G : GM X.prog X.w T X.mg X.base k c m F) (hr : Room k X.A) (ho : PEA T E X o so)
  (ht : eval (.Call (.Attribute o m apos) [] [] pos) X.env = (do
   let ov <- eval o X.env
   standAt apos.atName
   let (f,first) <- holding [ov] (getMethod ov m pl)
   callWith pos f first (backTo pos (starEach [] X.env)) (backToKw pos (keywordEach [] X.env))):=by rfl) : PEA T E X (.Call (.Attribute o m apos) [] [] pos) (yak c F so sNil):=by
 obtain ⟨C,f,fd,ps,h1,h2,h3,h4,h5⟩:=G.ex
 intro pins s σ H Q I q
 have q' := zfv (C:=C) h1 G.no q
 refine PySem.W.methodCall_KW (pl:=pl) (thn (ho pins s σ H _ I q') fun u s1 ⟨x,H1,I1,rx,a,dx,fs,ex,ea,l,q⟩=>?_) ht
 subst ex
 obtain rfl : u = Value.ref a:=rx
 refine zcP I1 ea (hK ▸ h2) (hK ▸ h3) l ?_
 obtain ⟨ι,h,en,S,er,q⟩:=q
 refine PySem.W.callWith_K0 (first:=[.ref a]) I1.kIn (hK ▸ h3.kp) (zc7 (dvs:=[]) (us:=[.ref a]) (vs:=[.ref a]) (hK ▸ h5) hr (hK ▸ h4) .nil CC.pass I1 (.cons rfl .nil) (q.now S .nil))
structure CF (T : Tb) (c : Nat) : Prop where
 ex : ∃ C,T.cls c = some C /\ Cls T.K C /\ ∀ f ∈ T.fields c,NoAttr T.K C f
structure GK (P : Program) (w : World) (T : Tb) (mg : Str -> Option Value) (base : Heap) (k : Nat) (c : Nat) (x : Str) (F : Fn) : Prop where
 ex : ∃ C f fd ps,T.cls c = some C /\ mg x = some (.ref C) /\ Mk T.K C f /\ Binds T.K fd ps [] /\ FnOk P w T.K mg base (CXE P w) k f fd ps (spA T F)
theorem zgZ {CX : CXT} {C f : Addr} {fd : FuncData} {ps : List Str} {sp : Sp} {dvs : List V} {ds : List Value} {pins : List (Addr × Obj)} {σ : St} {H : Hp} {s : Shared} {Q : VK} {us : List Value} {vs : List V} (M : Mk X.K C f) (F : FnOk X.prog X.w X.K X.mg X.base CX k f fd ps sp) (hr : Room (k + 1) X.A) (hb : Binds X.K fd ps ds) (hd : Vals dvs ds)
  (hx : ydo CX X E) (I : L2.Inv X pins σ H s) (r : Vals vs us)
  (h : ∀ x dx,H x = none -> H dx = none -> dx ≠ x -> sp (.ref x :: (vs++dvs)) (upd (upd H dx (.own x)) x (.ins C dx [])) (fun v H2=>v = .non /\ Q (.ref x) H2) (E σ)) :
  wpAny (model X.prog X.w) X.A (call (.ref C) us) (EP X pins σ Q) X.xe s:=by
 have hq:=h (s.heap.objs.size + 1) s.heap.objs.size (I.hok.fresh (Nat.le_succ _)) (I.hok.fresh (Nat.le_refl _)) (Nat.ne_of_lt (Nat.lt_succ_self _))
 have I2:=Inv.made (C:=C) I
 have r2 : Vals (V.ref (s.heap.objs.size + 1) :: (vs++dvs)) (Value.ref (s.heap.objs.size + 1) :: (us++ds)):=.cons rfl (r.append hd)
 have hl : (Value.ref (s.heap.objs.size + 1) :: us++ds).length = ps.length:=by
  have e:=r2.length
  rw [F.len _ _ _ _ hq] at e
  exact e.symm
 refine wpAny_call (zhC (f:=f) I.kIn M.makes M.init (beq_iff_eq.mp M.fn) (codeAny_mono (F.run _ X.stack _ _ ⟨Value.ref (s.heap.objs.size + 1) :: us,[]⟩ (Value.ref (s.heap.objs.size + 1) :: (us++ds)) _ _ (E σ) (hr.make C us [])
  (I2.env0.make C us []) (hb _ (Value.ref (s.heap.objs.size + 1) :: us) I2.kIn hl) r2 hq) fun r s' hq' => ?_))
 cases r with
 | error e=>exact hx pins σ _ _ e s' I2 hq'
 | ok fl =>
  cases fl with
  | ret u =>
   obtain ⟨v,H',I3,rv,ev,q3⟩:=I2.after hq'
   subst ev
   exact ⟨rv,⟨V.ref (s.heap.objs.size + 1),H',I3,rfl,q3⟩⟩
  | next=>exact False.elim hq'
  | brk=>exact False.elim hq'
  | cont=>exact False.elim hq'
theorem zi6 {C : Addr} {xs : List AV} {us : List V} {H : Hp} {Q : VK} {ι : Ix} {h : AH} {E : XK} {n : Nat} (hc : T.cls c = some C) (hn : (T.fields c).length = n) (S : Sim T ι h H) (r : RVs T ι H xs us)
  (q : Post T ι H E (RV T) (match F (.ref h.length :: xs) (h++[.ins c (List.replicate n none)]) with | .ok .non h2=>Out.ok (AV.ref h.length) h2 | .ex c h2=>.ex c h2 | _=>.bad) Q) :
  ∀ x dx,H x = none -> H dx = none -> dx ≠ x -> spA T F (.ref x :: us) (upd (upd H dx (.own x)) x (.ins C dx [])) (fun v H2=>v = .non /\ Q (.ref x) H2) E:=by
 intro x dx nx ndx ne
 have nx' : (upd H dx (.own x)) x = none:=by rw [yay (Ne.symm ne)]; exact nx
 have S1:=S.new (o:=.own x) ndx
 have g1:=S.growNew (o:=.own x) ndx
 have g2:=S1.growAdd (u:=.ins C dx []) nx'
 have S2 : Sim T (ι.add x) (h++[.ins c (List.replicate n none)]) (upd (upd H dx (.own x)) x (.ins C dx [])):=S1.add nx' ⟨C,dx,[],hc,rfl,by simp,by simp,by simp [hn],fun i v e=>by
  rw [List.getElem?_replicate] at e
  split at e
  ·cases e
  ·cases e⟩
 refine ⟨ι.add x,_,.ref h.length :: xs,S2,.cons (.ref S.addAt) (r.mono (g1.trans g2)),?_⟩
 have q2:=q.shift (g1.trans g2)
 cases e : F (.ref h.length :: xs) (h++[.ins c (List.replicate n none)]) with
 | bad=>rw [e] at q2; exact q2
 | ex c' h2=>rw [e] at q2; exact q2
 | ok v h2 =>
  rw [e] at q2
  cases v with
  | non=>exact fun ι' H' u g S' r' => ⟨yeP r',q2 ι' H' _ g S' (.ref (g.at S.addAt))⟩
  | _=>exact (show False from q2).elim
theorem zi7 {n : Nat} (hK : X.K = T.K) (CC : CA T E X) (G : GK X.prog X.w T X.mg X.base k c x F) (hr : Room (k + 1) X.A) (hg : Gl X x) (hn : (T.fields c).length = n:=by rfl) (hdb : (x == ("__debug__" : Str)) = false:=by decide) : PEA T E X (.Call (.Name x p) [] [] pos) (yeC c n F sNil):=by
 obtain ⟨C,f,fd,ps,h1,h2,h3,h4,h5⟩:=G.ex
 intro pins s σ H Q I ⟨ι,h,en,S,er,q⟩
 refine wpAny_Call_Name_kw (zb0 I hg h2 ?_ hdb)
 have M : Mk X.K C f:=hK ▸ h3
 exact PySem.W.callWith_K0 I.kIn M.kp (zgZ (us:=[]) (vs:=[]) (dvs:=[]) M (hK ▸ h5) hr (hK ▸ h4) .nil CC.pass I .nil (zi6 h1 hn S .nil q))
theorem yaG {i : Nat} {f : Str} (hK : X.K = T.K) (CFc : CF T c) (ho : PEA T E X o so) (hf : (T.fields c)[i]? = some f:=by rfl) (hb : attributeBase o f X.env (eval o X.env) = eval o X.env:=by rfl) : PEA T E X (.Attribute o f pos) (Sm.sFld c i so):=by
 obtain ⟨C,hC,hcl,hna⟩:=CFc.ex
 refine yaP (ygn ho hb) fun σ H Q ⟨ι,h,en,S,er,q⟩=>⟨ι,h,en,S,er,q.bind fun x h1 ι1 H1 u g1 S1 r1 q1=>?_⟩
 split at q1
 ·rename_i n
  split at q1
  ·rename_i c' fs hn
   split at q1
   ·rename_i ec
    subst ec
    split at q1
    ·rename_i v hv
     cases r1 with
     | @ref _ a hr =>
      obtain ⟨o,e1,C',dx,fus,hC',rfl,nd,hw,hl,hr2⟩:=S1.obj n _ a hn hr
      rw [hC] at hC'; cases hC'
      obtain ⟨f',u,e2,e3,r3⟩:=hr2 i v hv
      rw [hf] at e2; cases e2
      exact ⟨a,_,dx,fus,u,rfl,e1,hK ▸ hcl,hK ▸ hna f (List.mem_of_getElem? hf),e3,q1.now S1 r3⟩
    ·exact q1.elim
   ·exact q1.elim
  ·exact q1.elim
 ·exact q1.elim
theorem zdF (f : Str) (v : V) : ∀ {fs : List (Str × V)},(fs.map (·.1)).Nodup -> ((putF f v fs).map (·.1)).Nodup /\ ∀ g,g ∈ (putF f v fs).map (·.1) -> g = f \/ g ∈ fs.map (·.1)
 | [],_=>by simp [putF]
 | (g,x) :: r,n=>by
  obtain ⟨n1,n2⟩:=List.nodup_cons.mp (show (g :: r.map (·.1)).Nodup from n)
  unfold putF
  split
  ·rename_i e
   subst e
   exact ⟨n,fun k hk=>.inr hk⟩
  ·rename_i e
   obtain ⟨h1,h2⟩:=zdF f v (fs:=r) n2
   refine ⟨List.nodup_cons.mpr ⟨fun z=>?_,h1⟩,fun k hk=>?_⟩
   ·rcases h2 g z with z | z
    ·exact e z
    ·exact n1 z
   ·rcases List.mem_cons.mp hk with z | z
    ·exact .inr (by rw [z]; simp)
    ·rcases h2 k z with z | z
     ·exact .inl z
     ·exact .inr (List.mem_cons_of_mem _ z)
theorem zef : ∀ {l m : List Str},l.Nodup -> (∀ x ∈ l,x ∈ m) -> l.length <= m.length
 | [],m,_,_=>Nat.zero_le _
 | x :: l,m,n,h=>by
  obtain ⟨n1,n2⟩:=List.nodup_cons.mp n
  have hx:=h x (by simp)
  have:=zef (l:=l) (m:=m.erase x) n2 fun y hy=>by
   have ne : y ≠ x:=fun z=>n1 (z ▸ hy)
   exact (List.mem_erase_of_ne ne).mpr (h y (by simp [hy]))
  rw [List.length_erase_of_mem hx] at this
  have : 0 < m.length:=List.length_pos_of_mem hx
  simp only [List.length_cons]
  omega
theorem zaI {i : Nat} {f : Str} {p' : Pos} (hK : X.K = T.K) (CFc : CF T c) (ho : PEA T E X o so) (ha : PEA T E X a sa) (hf : (T.fields c)[i]? = some f:=by rfl) (hs : swapsWith a (some (.Attribute o f p')) pos.line X.env = pure false:=by rfl) :
  PSA T E X (.Assign [.Attribute o f p'] a pos) (yb4 c i so sa):=by
 obtain ⟨C,hC,hcl,hna⟩:=CFc.ex
 refine ybL (ygo ho ha hs) fun D σ H ⟨ι,h,en,S,er,q⟩=>⟨ι,h,en,S,er,q.go er fun y h1 ι1 H1 v g1 S1 r1 q1=>⟨ι1,h1,en,S1,er.mono g1,q1.go (er.mono g1) fun x h2 ι2 H2 u g2 S2 r2 q2=>?_⟩⟩
 split at q2
 ·rename_i n
  split at q2
  ·rename_i c' fs hn
   split at q2
   ·rename_i ec
    subst ec
    cases r2 with
    | @ref _ a hr =>
     obtain ⟨o,e1,C',dx,fus,hC',rfl,nd,hw,hl,hr2⟩:=S2.obj n _ a hn hr
     rw [hC] at hC'; cases hC'
     have hmem : f ∈ T.fields c' := List.mem_of_getElem? hf
     have hlen : fus.length < 1000:=by
      have:=zef nd (m:=T.fields c') (fun x hx=>by
       obtain ⟨p,hp,rfl⟩:=List.mem_map.mp hx
       exact hw p hp)
      have:=T.few c'
      rw [List.length_map] at *
      omega
     obtain ⟨k1,k2⟩:=zdF f v nd
     have g3:=S2.growSet (u:=.ins C dx (putF f v fus)) hr
     refine ⟨a,C,dx,fus,rfl,e1,hK ▸ hcl,hK ▸ hna f hmem,hlen,q2 ι2 _ σ g3 (S2.set hr ⟨C,dx,putF f v fus,hC,rfl,k1,fun p hp=>?_,by simp [hl],fun j w hj=>?_⟩) (er.mono (g1.trans (g2.trans g3)))⟩
     ·rcases k2 p.1 (List.mem_map.mpr ⟨p,hp,rfl⟩) with z | z
      ·rw [z]; exact hmem
      ·obtain ⟨p',hp',e⟩:=List.mem_map.mp z
       rw [<- e]; exact hw p' hp'
     ·by_cases hji : j = i
      ·subst hji
       have hjl : j < fs.length:=by
        have:=(List.getElem?_eq_some_iff.mp hj).1
        simpa using this
       rw [List.getElem?_set_self hjl] at hj
       cases hj
       exact ⟨f,v,hf,by rw [za0,if_pos rfl],r1.mono (g2.trans g3)⟩
      ·rw [List.getElem?_set_ne (Ne.symm hji)] at hj
       obtain ⟨f',u,e2,e3,r3⟩:=hr2 j w hj
       have ne : f' ≠ f:=fun z=>hji (zcs (T.nd c') e2 (z ▸ hf))
       exact ⟨f',u,e2,by rw [za0,if_neg ne]; exact e3,r3.mono g3⟩
   ·exact (show False from q2).elim
  ·exact (show False from q2).elim
 ·exact (show False from q2).elim
end
end Sm
namespace Sm
open PySem PySem.Spec L2
theorem ye8 {T : Tb} {ι : Ix} {H : Hp} {k : Key} {u : V} (r : RV T ι H (kA k) u) : u = kV k:=by
 cases k with
 | inl i=>exact yaF r
 | inr x=>exact (ya4 r).1
theorem yeT {k j : Key} (e : kA k = kA j) : k = j:=by
 cases k<;>cases j<;>simp [kA] at e<;>simp [e]
theorem zdc : ∀ {ks js : List Key},ks.map kA = js.map kA -> ks = js
 | [],[],_=>rfl
 | [],_ :: _,e=>by simp at e
 | _ :: _,[],e=>by simp at e
 | k :: ks,j :: js,e=>by
  simp only [List.map_cons,List.cons.injEq] at e
  rw [yeT e.1,zdc e.2]
theorem yfw {T : Tb} {ι : Ix} {H : Hp} : ∀ {ks : List Key} {us : List V},RVs T ι H (ks.map kA) us -> us = ks.map kV
 | [],_,.nil=>rfl
 | k :: ks,_,.cons r rs=>by rw [ye8 r,yfw rs]; rfl
theorem zbu {v : AV} {k : Key} (e : keyOf? v = some k) : v = kA k:=by
 unfold keyOf? at e
 split at e<;>cases e<;>rfl
theorem za1 : ∀ {vs : List AV} {ks : List Key},keysOf? vs = some ks -> vs = ks.map kA
 | [],_,e=>by cases e; rfl
 | v :: vs,ks,e=>by
  unfold keysOf? at e
  split at e
  ·rename_i k ks' e1 e2
   cases e
   rw [zbu e1,za1 e2]; rfl
  ·cases e
theorem yej {κ : Type} [DecidableEq κ] {T : Tb} {ι : Ix} {H : Hp} {f : κ -> AV} (hf : ∀ {a b},f a = f b -> a = b) {k : κ} : ∀ {kvs : List (AV × AV)} {kus : List (κ × V)},Paired (fun (p : AV × AV) (q : κ × V)=>p.1 = f q.1 /\ RV T ι H p.2 q.2) kvs kus ->
  (valA kvs (f k) = none /\ valV kus k = none) \/ ∃ v u,valA kvs (f k) = some v /\ valV kus k = some u /\ RV T ι H v u
 | _,_,.nil=>.inl ⟨rfl,rfl⟩
 | (a,v) :: kvs,(j,u) :: kus,.cons ⟨e,r⟩ rs=>by
  by_cases h : j = k
  ·subst h
   replace e : a = f j:=e
   subst e
   exact .inr ⟨v,u,by simp [valA],zbr rfl,r⟩
  ·have h' : ¬ a = f k:=fun z=>h (hf (e.symm.trans z))
   rcases yej hf rs (k:=k) with ⟨h1,h2⟩ | ⟨v',u',h1,h2,h3⟩
   ·refine .inl ⟨?_,by rw [zba h]; exact h2⟩
    unfold valA at h1 ⊢
    rw [List.find?_cons,decide_eq_false h']
    exact h1
   ·refine .inr ⟨v',u',?_,by rw [zba h]; exact h2,h3⟩
    unfold valA at h1 ⊢
    rw [List.find?_cons,decide_eq_false h']
    exact h1
theorem za8 {kvs : List (AV × AV)} {k : AV} : (kvs.any fun p=>decide (p.1 = k)) = (valA kvs k).isSome:=by
 induction kvs with
 | nil=>rfl
 | cons p r ih =>
  unfold valA at ih ⊢
  rw [List.any_cons,List.find?_cons,ih]
  cases h : decide (p.1 = k)<;>simp
theorem yfx {κ : Type} [DecidableEq κ] {T : Tb} {ι : Ix} {H : Hp} {f : κ -> AV} (hf : ∀ {a b},f a = f b -> a = b) {k : κ} {v : AV} {u : V} (rv : RV T ι H v u) {kvs : List (AV × AV)} {kus : List (κ × V)} (r : Paired (fun (p : AV × AV) (q : κ × V)=>p.1 = f q.1 /\ RV T ι H p.2 q.2) kvs kus) :
  Paired (fun (p : AV × AV) (q : κ × V)=>p.1 = f q.1 /\ RV T ι H p.2 q.2) (putA kvs (f k) v) (putK kus k u):=by
 have e : (kvs.any fun p=>decide (p.1 = f k)) = kus.any fun kv=>decide (kv.1 = k):=by
  rw [za8,zcv]
  rcases yej hf r (k:=k) with ⟨h1,h2⟩ | ⟨v',u',h1,h2,h3⟩
  ·rw [h1,h2]; rfl
  ·rw [h1,h2]; rfl
 unfold putA putK
 rw [e]
 by_cases h : (kus.any fun kv=>decide (kv.1 = k)) = true
 ·rw [if_pos h,if_pos h]
  clear e h
  induction r with
  | nil=>exact .nil
  | cons p rs ih =>
   rename_i a b l1 l2
   refine .cons ?_ ih
   obtain ⟨e1,r1⟩:=p
   dsimp only
   by_cases hk : b.1 = k
   ·rw [if_pos hk,if_pos (by rw [e1,hk])]
    exact ⟨e1,rv⟩
   ·rw [if_neg hk,if_neg (fun z=>hk (hf (e1.symm.trans z)))]
    exact ⟨e1,r1⟩
 ·rw [if_neg h,if_neg h]
  have app : ∀ {l1 : List (AV × AV)} {l2 : List (κ × V)},Paired (fun (p : AV × AV) (q : κ × V)=>p.1 = f q.1 /\ RV T ι H p.2 q.2) l1 l2 -> Paired (fun (p : AV × AV) (q : κ × V)=>p.1 = f q.1 /\ RV T ι H p.2 q.2) (l1++[(f k,v)]) (l2++[(k,u)]):=fun z=>by
   induction z with
   | nil=>exact .cons ⟨rfl,rv⟩ .nil
   | cons p _ ih=>exact .cons p ih
  exact app r
section
variable {T : Tb} {ι : Ix} {h : AH} {H : Hp}
theorem keyT {xs : List AV} {u : V} {ks : List Key} (r : RV T ι H (.tup xs) u) (e : keysOf? xs = some ks) : ∃ b,u = .ref b /\ KTup H b ks:=by
 have:=za1 e
 subst this
 cases r with
 | tup n q r=>exact ⟨_,rfl,.of (by rw [<- yfw r]; exact q)⟩
theorem zfw {n : Nat} {t : Bool} {kvs : List (AV × AV)} {y : AV} {a : Addr} {w : V} (S : Sim T ι h H) (hn : h[n]? = some (.dct t kvs)) (hr : ι.refs[n]? = some a) (ry : RV T ι H y w) (hk : ybR t y = true) :
  ∃ o,DGet H a w o /\ ((valA kvs y = none /\ o = none) \/ ∃ v u,valA kvs y = some v /\ o = some u /\ RV T ι H v u):=by
 obtain ⟨ob,e1,r⟩:=S.obj n _ a hn hr
 cases t with
 | false =>
  obtain ⟨kus,rfl,r⟩:=r
  have hk' : (keyOf? y).isSome = true:=hk
  obtain ⟨k,ek⟩:=Option.isSome_iff_exists.mp hk'
  have:=zbu ek
  subst this
  rw [ye8 ry]
  refine ⟨valV kus k,.k e1,?_⟩
  rcases yej yeT r (k:=k) with ⟨h1,h2⟩ | ⟨v',u',h1,h2,h3⟩
  ·exact .inl ⟨h1,h2⟩
  ·exact .inr ⟨v',u',h1,h2,h3⟩
 | true =>
  obtain ⟨kus,rfl,r⟩:=r
  unfold ybR at hk
  split at hk
  ·rename_i hh; cases hh
  ·rename_i xs hh
   obtain ⟨ks,ek⟩:=Option.isSome_iff_exists.mp hk
   obtain ⟨b,rfl,hb⟩:=keyT ry ek
   have:=za1 ek
   subst this
   refine ⟨valV kus ks,.t e1 hb,?_⟩
   rcases yej (f:=fun ks : List Key=>AV.tup (ks.map kA)) (fun e=>zdc (by injection e)) r (k:=ks) with ⟨h1,h2⟩ | ⟨v',u',h1,h2,h3⟩
   ·exact .inl ⟨h1,h2⟩
   ·exact .inr ⟨v',u',h1,h2,h3⟩
  ·cases hk
theorem zi8 {n : Nat} {t : Bool} {kvs : List (AV × AV)} {y z : AV} {a : Addr} {w u : V} (S : Sim T ι h H) (hn : h[n]? = some (.dct t kvs)) (hr : ι.refs[n]? = some a) (ry : RV T ι H y w) (rz : RV T ι H z u) (hk : ybR t y = true) (hl : kvs.length < sizeLine) :
  ∃ H',DPut H a w u H' /\ Grow ι H ι H' /\ Sim T ι (h.set n (.dct t (putA kvs y z))) H' := by
 obtain ⟨ob,e1,r⟩:=S.obj n _ a hn hr
 cases t with
 | false =>
  obtain ⟨kus,rfl,r⟩:=r
  have hk' : (keyOf? y).isSome = true:=hk
  obtain ⟨k,ek⟩:=Option.isSome_iff_exists.mp hk'
  have:=zbu ek
  subst this
  rw [ye8 ry]
  have g:=S.growSet (u:=.dK (putK kus k u)) hr
  exact ⟨_,.k e1 (by rw [<- Paired.length r]; exact hl),g,S.set hr ⟨_,rfl,yfx yeT (rz.mono g) (Paired.mapP r fun _ _ ⟨p,q⟩=>⟨p,q.mono g⟩)⟩⟩
 | true =>
  obtain ⟨kus,rfl,r⟩:=r
  unfold ybR at hk
  split at hk
  ·rename_i hh; cases hh
  ·rename_i xs hh
   obtain ⟨ks,ek⟩:=Option.isSome_iff_exists.mp hk
   obtain ⟨b,rfl,hb⟩:=keyT ry ek
   have:=za1 ek
   subst this
   have g:=S.growSet (u:=.dT (putK kus ks u)) hr
   exact ⟨_,.t e1 hb (by rw [<- Paired.length r]; exact hl),g,S.set hr ⟨_,rfl,yfx (f:=fun ks : List Key=>AV.tup (ks.map kA)) (fun e=>zdc (by injection e)) (rz.mono g) (Paired.mapP r fun _ _ ⟨p,q⟩=>⟨p,q.mono g⟩)⟩⟩
  ·cases hk
theorem RVs.atI {xs : List AV} {us : List V} {i : Int} {v : AV} (r : RVs T ι H xs us) (e : atI xs i = some v) : ∃ u,L2.atI us i = some u /\ RV T ι H v u:=by
 unfold L2.atI at e ⊢
 rw [<- r.length]
 obtain ⟨j,e1,e2⟩:=Option.bind_eq_some_iff.mp e
 obtain ⟨u,e3,r3⟩:=r.get e2
 exact ⟨u,by rw [e1]; exact e3,r3⟩
end
section
variable {T : Tb} {E : St -> XK} {X : Cx} {pos : Pos} {a b c : Expr} {sa sb sc : SE}
theorem yhN {e : Expr} {t t' : TE} (h : PE X e t) (h' : PE X e t') : PE X e (fun σ H Q=>t σ H Q \/ t' σ H Q):=fun pins s σ H Q I q=>q.elim (h pins s σ H Q I) (h' pins s σ H Q I)
theorem yhO {e : Stmt} {t t' : TS} (h : PS X e t) (h' : PS X e t') : PS X e (fun D σ H=>t D σ H \/ t' D σ H):=fun pins s σ H Q I q=>q.elim (h pins s σ H Q I) (h' pins s σ H Q I)
theorem r_ix (hK : X.K = T.K) (hu : X.A.units + 64 < cLine) (ha : PEA T E X a sa) (hb : PEA T E X b sb) (hs : ye0 b:=by exact fun _ _=>rfl) : PEA T E X (.Subscript a b pos) (sOp2 fIx sa sb):=by
 refine yaP (yhN (yhy ygs ha hb hs) (ziM (Nat.lt_of_le_of_lt (Nat.add_le_add_left (by decide : 1 <= 64) _) hu) ha hb hs)) fun σ H Q q=>?_
 obtain ⟨ι,h,en,S,er,q⟩:=q
 have left : (∀ x h1 y h2,sa en h = .ok x h1 -> sb en h1 = .ok y h2 -> ∀ n t kvs,x = .ref n -> h2[n]? = some (.dct t kvs) -> False) -> tOp (rIx X.K) (tE T E sa) (tE T E sb) σ H Q:=fun no=>by
  refine ⟨ι,h,en,S,er,?_⟩
  unfold sOp2 at q
  cases e1 : sa en h with
  | bad=>rw [e1] at q; exact q
  | ex c h1=>rw [e1] at q; exact q
  | ok x h1 =>
   rw [e1] at q
   intro ι1 H1 u g1 S1 r1
   refine ⟨ι1,h1,en,S1,er.mono g1,?_⟩
   dsimp only [Out.bind] at q
   cases e2 : sb en h1 with
   | bad=>rw [e2] at q; exact q
   | ex c h2=>rw [e2] at q; exact Post.shift (R:=RV T) (o:=.ex c h2) q g1
   | ok y h2 =>
    rw [e2] at q
    intro ι2 H2 w g2 S2 r2
    have q2:=Post.shift q (g1.trans g2)
    have r1' := r1.mono g2
    dsimp only at q2
    unfold fIx at q2
    split at q2
    ·rename_i z i
     split at q2
     ·rename_i cc hc
      obtain ⟨rfl,zl,zo⟩:=ya4 r1'
      rw [yaF r2]
      refine .inr (.inr ⟨z,i,cc,rfl,rfl,zl,hc,q2.now S2 (.str (show 1 <= sizeLine by decide) ?_)⟩)
      obtain ⟨j,_,e3,_⟩:=zb2 hc
      have m : cc ∈ z.cps:=by
       have:=List.mem_of_getElem? e3
       simpa using this
      have:=Array.all_eq_true_iff_forall_mem.mp zo _ m
      simpa using this
     ·exact q2.elim
    ·rename_i xs i
     split at q2
     ·rename_i v hv
      obtain ⟨b,us,rfl,sq,rs⟩:=ycI r1'
      obtain ⟨u2,e3,r3⟩:=rs.atI hv
      rw [yaF r2]
      exact .inr (.inl ⟨b,us,i,u2,rfl,rfl,hK ▸ sq,e3,q2.now S2 r3⟩)
     ·exact q2.elim
    ·rename_i xs i
     split at q2
     ·rename_i v hv
      obtain ⟨b,us,rfl,sq,rs⟩:=yba S2 r1' rfl
      obtain ⟨u2,e3,r3⟩:=rs.atI hv
      rw [yaF r2]
      exact .inl ⟨b,us,i,u2,rfl,rfl,hK ▸ sq,e3,q2.now S2 r3⟩
     ·exact q2.elim
    ·rename_i n
     split at q2
     ·rename_i xs hn
      split at q2
      ·rename_i i
       split at q2
       ·rename_i v hv
        obtain ⟨b,us,rfl,sq,rs⟩:=yba (xs:=xs) S2 r1' (by simp [ya5,hn])
        obtain ⟨u2,e3,r3⟩:=rs.atI hv
        rw [yaF r2]
        exact .inl ⟨b,us,i,u2,rfl,rfl,hK ▸ sq,e3,q2.now S2 r3⟩
       ·exact q2.elim
      ·exact q2.elim
     ·rename_i t kvs hn
      exact (no _ h1 _ h2 e1 e2 n t kvs rfl hn).elim
     ·exact q2.elim
    ·exact q2.elim
 by_cases dd : ∃ x h1 y h2,sa en h = .ok x h1 /\ sb en h1 = .ok y h2 /\ ∃ n t kvs,x = .ref n /\ h2[n]? = some (.dct t kvs)
 ·obtain ⟨x,h1,y,h2,e1,e2,n,t,kvs,rfl,hn⟩:=dd
  refine .inr ⟨ι,h,en,S,er,?_⟩
  unfold sOp2 at q
  rw [e1] at q ⊢
  intro ι1 H1 u g1 S1 r1
  refine ⟨ι1,h1,en,S1,er.mono g1,?_⟩
  dsimp only [Out.bind] at q
  rw [e2] at q ⊢
  intro ι2 H2 w g2 S2 r2
  have q2:=Post.shift q (g1.trans g2)
  have r1' := r1.mono g2
  dsimp only at q2
  unfold fIx at q2
  simp only [hn] at q2
  split at q2
  ·rename_i hk
   cases r1' with
   | @ref _ ad hr =>
    obtain ⟨o,dg,alt⟩:=zfw S2 hn hr r2 hk
    rcases alt with ⟨v1,rfl⟩ | ⟨v,u,v1,rfl,r3⟩
    ·rw [v1] at q2; exact q2.elim
    ·rw [v1] at q2
     exact ⟨ad,u,rfl,dg,q2.now S2 r3⟩
  ·exact q2.elim
 ·exact .inl (left fun x h1 y h2 e1 e2 n t kvs e3 e4=>dd ⟨x,h1,y,h2,e1,e2,n,t,kvs,e3,e4⟩)
theorem zdd {p' : Pos} (hu : X.A.units + 64 < cLine) (ho : PEA T E X a sa) (hi : PEA T E X b sb) (hv : PEA T E X c sc) (hs : swapsWith c (some (.Subscript a b p')) pos.line X.env = pure false:=by rfl) (hs' : swapsWithSole [.Subscript a b p'] c pos.line X.env = pure false:=by rfl) (hw : swappedStores [.Subscript a b p'] c X.env = pure none:=by rfl)
  (h1 : (assignEach [.Subscript a b p'] X.env).map (·.2) = [assign (.Subscript a b p') X.env]:=by rfl)
  (has : ∀ v,assign (.Subscript a b p') X.env v = (do
   let ov <- holding [v] (eval a X.env)
   let iv <- holding [v,ov] (eval b X.env)
   standAt p'
   holding [v,ov,iv] (setItem ov iv v)
   release [v,ov,iv] []):=by intro _; rfl) : PSA T E X (.Assign [.Subscript a b p'] c pos) (ydM sa sb sc):=by
 refine ybL (yhO (yff hv (ygf ho hi zhF has) hs' hw h1) (ziN (Nat.lt_of_le_of_lt (Nat.add_le_add_left (by decide : 1 <= 64) _) hu) ho hi hv hs)) fun D σ H q=>?_
 obtain ⟨ι,h,en,S,er,q⟩:=q
 unfold ydM at q
 by_cases dd : ∃ z h1 x h2 y h3,sc en h = .ok z h1 /\ sa en h1 = .ok x h2 /\ sb en h2 = .ok y h3 /\ ∃ n t kvs,x = .ref n /\ h3[n]? = some (.dct t kvs)
 ·obtain ⟨z,h1,x,h2,y,h3,e1,e2,e3,n,t,kvs,rfl,hn⟩:=dd
  refine .inr ⟨ι,h,en,S,er,?_⟩
  rw [e1] at q ⊢
  intro ι1 H1 u g1 S1 r1
  refine ⟨ι1,h1,en,S1,er.mono g1,?_⟩
  dsimp only [Out.go] at q
  rw [e2] at q ⊢
  intro ι2 H2 w g2 S2 r2
  refine ⟨ι2,h2,en,S2,er.mono (g1.trans g2),?_⟩
  dsimp only at q
  rw [e3] at q ⊢
  intro ι3 H3 j g3 S3 r3
  have q2:=PostS.shift q (g1.trans (g2.trans g3))
  simp only [hn] at q2
  split at q2
  ·rename_i hk
   cases (r2.mono g3) with
   | @ref _ ad hr =>
    obtain ⟨H4,dp,g4,S4⟩:=zi8 S3 hn hr r3 (r1.mono (g2.trans g3)) hk.1 hk.2
    exact ⟨ad,H4,rfl,dp,q2 ι3 H4 σ g4 S4 (er.mono (g1.trans (g2.trans (g3.trans g4))))⟩
  ·exact q2.elim
 ·refine .inl ⟨ι,h,en,S,er,?_⟩
  cases e1 : sc en h with
  | bad=>rw [e1] at q; exact q
  | ex cc h1=>rw [e1] at q; exact fun i2 H2 C g S e=>q i2 H2 σ C g S (er.mono g) e
  | ok z h1 =>
   rw [e1] at q
   intro ι1 H1 u g1 S1 r1
   refine ⟨ι1,h1,en,S1,er.mono g1,?_⟩
   dsimp only [Out.go] at q
   cases e2 : sa en h1 with
   | bad=>rw [e2] at q; exact q
   | ex cc h2=>rw [e2] at q; exact fun i2 H2 C g S e=>q i2 H2 σ C (g1.trans g) S (er.mono (g1.trans g)) e
   | ok x h2 =>
    rw [e2] at q
    intro ι2 H2 w g2 S2 r2
    refine ⟨ι2,h2,en,S2,er.mono (g1.trans g2),?_⟩
    dsimp only at q
    cases e3 : sb en h2 with
    | bad=>rw [e3] at q; exact q
    | ex cc h3=>rw [e3] at q; exact fun i2 H2 C g S e=>q i2 H2 σ C (g1.trans (g2.trans g)) S (er.mono (g1.trans (g2.trans g))) e
    | ok y h3 =>
     rw [e3] at q
     intro ι3 H3 j g3 S3 r3
     have q2:=PostS.shift q (g1.trans (g2.trans g3))
     dsimp only at q2
     split at q2
     ·rename_i n
      split at q2
      ·rename_i xs hn
       split at q2
       ·rename_i k
        split at q2
        ·rename_i jj hj
         cases (r2.mono g3) with
         | @ref _ ad hr =>
          obtain ⟨o,e4,us,rfl,rs⟩:=S3.obj n _ ad hn hr
          have g4:=S3.growSet (u:=.lst (us.set jj u)) hr
          rw [yaF r3]
          exact ⟨ad,us,k,jj,rfl,rfl,e4,by rw [<- rs.length]; exact hj,q2 ι3 _ σ g4 (S3.set hr ⟨_,rfl,RVs.set (r1.mono (g2.trans (g3.trans g4))) jj (rs.mono g4)⟩) (er.mono (g1.trans (g2.trans (g3.trans g4))))⟩
        ·exact q2.elim
       ·exact q2.elim
      ·rename_i t kvs hn
       exact (dd ⟨_,h1,_,h2,_,h3,e1,e2,e3,n,t,kvs,rfl,hn⟩).elim
      ·exact q2.elim
     ·exact q2.elim
theorem zfx {g : Value -> Value -> Sem Value} {r : R2} {neg : Bool} (hK : X.K = T.K)
  (h1 : ∀ (i j : Str) H Q,Q (V.bl (if neg then !(!(Builtin.Str.occurrences j i 0 j.length 1).isEmpty) else !(Builtin.Str.occurrences j i 0 j.length 1).isEmpty)) H -> r (.str i) (.str j) H Q)
  (h2 : ∀ x y H Q p xs d ds,y = V.ref p -> SqL T.K H p xs -> DaV T.K H x d -> DaVs T.K H xs ds -> d.canLay0 = true -> (∀ e ∈ ds,e.canLay0 = true /\ e.depth <= 30) -> Q (V.bl (if neg then !(ds.any fun e=>PyData.eqv e d) else ds.any fun e=>PyData.eqv e d)) H -> r x y H Q)
  (h2t : ∀ x y H Q p xs d ds,y = V.ref p -> SqT T.K H p xs -> DaV T.K H x d -> DaVs T.K H xs ds -> d.canLay0 = true -> (∀ e ∈ ds,e.canLay0 = true /\ e.depth <= 30) -> Q (V.bl (if neg then !(ds.any fun e=>PyData.eqv e d) else ds.any fun e=>PyData.eqv e d)) H -> r x y H Q)
  (h3 : ∀ (y : V) (a : Addr) o H Q,DGet H a y o -> Q (V.bl (if neg then !o.isSome else o.isSome)) H -> r y (.ref a) H Q) :
  OpS T (fun x y h=>match inA x y h with | some b=>.ok (.bl (if neg then !b else b)) h | none=>.bad) r:=by
 intro ι h H x y u w E Q S rx ry p
 dsimp only at p
 cases hb : inA x y h with
 | none=>rw [hb] at p; exact p.elim
 | some b =>
  rw [hb] at p
  dsimp only at p
  unfold inA at hb
  split at hb
  ·cases hb
   obtain ⟨rfl,_⟩:=ya4 rx
   obtain ⟨rfl,_⟩:=ya4 ry
   exact h1 _ _ _ _ (p.now S (.bl _))
  ·rename_i n
   split at hb
   ·rename_i t kvs hn
    split at hb
    ·rename_i hk
     cases hb
     cases ry with
     | @ref _ ad hr =>
      obtain ⟨o,dg,alt⟩:=zfw S hn hr rx hk
      refine h3 u ad o H Q dg ?_
      rcases alt with ⟨v1,rfl⟩ | ⟨v,u',v1,rfl,r3⟩
      ·rw [v1] at p; exact p.now S (.bl _)
      ·rw [v1] at p; exact p.now S (.bl _)
    ·cases hb
   ·rename_i xs hn
    split at hb
    ·rename_i d ds e1 e2
     cases hb
     obtain ⟨a,us,rfl,sq,rs⟩:=yba (xs:=xs) S ry (by simp [ya5,hn])
     obtain ⟨q1,q2,q3⟩:=ycn S 8 rx e1
     obtain ⟨q4,q5⟩:=zbl (n:=8) (fun r e=>ycn S 8 r e) rs e2
     exact h2 _ _ _ _ a us d ds rfl sq q1 q4 q2 (fun e he=>⟨(q5 e he).1,by have:=(q5 e he).2; omega⟩) (p.now S (.bl _))
    ·cases hb
   ·cases hb
  ·rename_i xs
   split at hb
   ·rename_i d ds e1 e2
    cases hb
    obtain ⟨a,us,rfl,sq,rs⟩:=yba S ry rfl
    obtain ⟨q1,q2,q3⟩:=ycn S 8 rx e1
    obtain ⟨q4,q5⟩:=zbl (n:=8) (fun r e=>ycn S 8 r e) rs e2
    exact h2 _ _ _ _ a us d ds rfl sq q1 q4 q2 (fun e he=>⟨(q5 e he).1,by have:=(q5 e he).2; omega⟩) (p.now S (.bl _))
   ·cases hb
  ·rename_i xs
   split at hb
   ·rename_i d ds e1 e2
    cases hb
    obtain ⟨a,us,rfl,sq,rs⟩:=ycI ry
    obtain ⟨q1,q2,q3⟩:=ycn S 8 rx e1
    obtain ⟨q4,q5⟩:=zbl (n:=8) (fun r e=>ycn S 8 r e) rs e2
    exact h2t _ _ _ _ a us d ds rfl sq q1 q4 q2 (fun e he=>⟨(q5 e he).1,by have:=(q5 e he).2; omega⟩) (p.now S (.bl _))
   ·cases hb
  ·cases hb
end
end Sm
namespace L2
open PySem PySem.Spec PyProof.Rows
section
variable {X : Cx} {pins : List (Addr × Obj)} {σ : St} {H : Hp} {s : Shared}
theorem zbP (I : Inv X pins σ H s) (hu : X.A.units + 64 < cLine) {xs : List V} {ds : List PyData} {its : List Value} {d : PyData} {v : Value} {as : List Addr} (ra : Reads s.heap v d as) (hds : DaVs X.K H xs ds) (r : Vals xs its) (cd : d.canLay0 = true) (cds : ∀ e ∈ ds,e.canLay0 = true /\ e.depth <= 30) :
  (∀ y,y ∈ its.toArray -> SeqAt.EqAt X.A.in1 s y v (isD s.heap d y)) /\ its.toArray.any (isD s.heap d) = ds.any fun e=>PyData.eqv e d:=by
 obtain ⟨hl,hat⟩:=zc8 I hds r
 constructor
 ·intro y hy
  have hy' : y ∈ its:=by simpa using hy
  obtain ⟨j,hj⟩:=List.getElem?_of_mem hy'
  have hlt:=(List.getElem?_eq_some_iff.mp hj).1
  have hdj : ds[j]? = some (ds[j]'(by omega)):=List.getElem?_eq_getElem (by omega)
  obtain ⟨bs,rb⟩:=hat j _ _ hj hdj
  have cj:=cds _ (List.mem_of_getElem? hdj)
  rw [yef cj.1 rb]
  exact SeqAt.eqAt_reads _ _ _ _ _ _ _ _ rb ra cj.1 cd (by
   have:=Nat.min_le_left (ds[j]'(by omega)).depth d.depth
   show X.A.units + 1 + _ < cLine
   omega)
 ·rw [<- Array.any_toList]
  refine zc9 hl fun j u e h1 h2=>?_
  obtain ⟨bs,rb⟩:=hat j _ _ h1 h2
  exact yef (cds _ (List.mem_of_getElem? h2)).1 rb
def yf0 (K : PySem.W.Frag) : R2:=fun x y H Q=>∃ p xs d ds,y = .ref p /\ SqL K H p xs /\ DaV K H x d /\ DaVs K H xs ds /\ d.canLay0 = true /\ (∀ e ∈ ds,e.canLay0 = true /\ e.depth <= 30) /\ Q (.bl (!(ds.any fun e=>PyData.eqv e d))) H
def yhP (K : PySem.W.Frag) : R2:=fun x y H Q=>∃ p xs d ds,y = .ref p /\ SqT K H p xs /\ DaV K H x d /\ DaVs K H xs ds /\ d.canLay0 = true /\ (∀ e ∈ ds,e.canLay0 = true /\ e.depth <= 30) /\ Q (.bl (ds.any fun e=>PyData.eqv e d)) H
def yfJ (K : PySem.W.Frag) : R2:=fun x y H Q=>∃ p xs d ds,y = .ref p /\ SqT K H p xs /\ DaV K H x d /\ DaVs K H xs ds /\ d.canLay0 = true /\ (∀ e ∈ ds,e.canLay0 = true /\ e.depth <= 30) /\ Q (.bl (!(ds.any fun e=>PyData.eqv e d))) H
theorem zg0 (hu : X.A.units + 64 < cLine) : OpR X (compareOp .NotIn) (yf0 X.K):=by
 intro pins s σ H x y v u Q I rx ry h
 obtain ⟨p,xs,d,ds,rfl,hq,hd,hds,cd,cds,q⟩:=h
 cases ry
 obtain ⟨its,r,pl,hz⟩:=I.list hq
 obtain ⟨as,ra⟩:=hd.reads I rx
 obtain ⟨h1,h2⟩:=zbP I hu ra hds r cd cds
 exact SeqAt.notIn_listAt (isD s.heap d) pl.isList h1 ⟨.bl _,H,I,rfl,by rw [h2]; exact q⟩
theorem zi9 (hu : X.A.units + 64 < cLine) : OpR X (compareOp .In) (yhP X.K):=by
 intro pins s σ H x y v u Q I rx ry h
 obtain ⟨p,xs,d,ds,rfl,hq,hd,hds,cd,cds,q⟩:=h
 cases ry
 obtain ⟨its,r,pl,hz⟩:=I.tuple hq
 obtain ⟨as,ra⟩:=hd.reads I rx
 obtain ⟨h1,h2⟩:=zbP I hu ra hds r cd cds
 exact SeqAt.in_tupleAt (isD s.heap d) pl h1 ⟨.bl _,H,I,rfl,by rw [h2]; exact q⟩
theorem zgb (hu : X.A.units + 64 < cLine) : OpR X (compareOp .NotIn) (yfJ X.K):=by
 intro pins s σ H x y v u Q I rx ry h
 obtain ⟨p,xs,d,ds,rfl,hq,hd,hds,cd,cds,q⟩:=h
 cases ry
 obtain ⟨its,r,pl,hz⟩:=I.tuple hq
 obtain ⟨as,ra⟩:=hd.reads I rx
 obtain ⟨h1,h2⟩:=zbP I hu ra hds r cd cds
 exact SeqAt.notIn_tupleAt (isD s.heap d) pl h1 ⟨.bl _,H,I,rfl,by rw [h2]; exact q⟩
theorem zg1 (hu : X.A.units + 64 < cLine) : OpR X (compareOp .In) (fun x y H Q=>∃ a o,y = .ref a /\ DGet H a x o /\ Q (.bl o.isSome) H):=by
 intro pins s σ H x y v u Q I rx ry h
 obtain ⟨a,o,rfl,g,q⟩:=h
 cases ry
 exact d_in (Nat.lt_of_le_of_lt (Nat.add_le_add_left (by decide : 1 <= 64) _) hu) I g rx fun s' I' => ⟨.bl _,H,I',rfl,q⟩
theorem zeg (hu : X.A.units + 64 < cLine) : OpR X (compareOp .NotIn) (fun x y H Q=>∃ a o,y = .ref a /\ DGet H a x o /\ Q (.bl (!o.isSome)) H):=by
 intro pins s σ H x y v u Q I rx ry h
 obtain ⟨a,o,rfl,g,q⟩:=h
 cases ry
 exact ziK (Nat.lt_of_le_of_lt (Nat.add_le_add_left (by decide : 1 <= 64) _) hu) I g rx fun s' I' => ⟨.bl _,H,I',rfl,q⟩
end
end L2
namespace Sm
open PySem PySem.Spec L2
section
variable {T : Tb} {E : St -> XK} {X : Cx}
theorem o_in (hK : X.K = T.K) (hu : X.A.units + 64 < cLine) : Op T X (compareOp .In) fIn:=by
 refine ⟨_,zgA.or ((ygD hu).or ((zi9 hu).or (zg1 hu))),zfx (neg:=false) (g:=compareOp .In) hK ?_ ?_ ?_ ?_⟩
 ·exact fun i j H Q q=>.inl ⟨i,j,rfl,rfl,q⟩
 ·exact fun x y H Q p xs d ds e1 e2 e3 e4 e5 e6 q=>.inr (.inl ⟨p,xs,d,ds,e1,hK ▸ e2,hK ▸ e3,hK ▸ e4,e5,e6,q⟩)
 ·exact fun x y H Q p xs d ds e1 e2 e3 e4 e5 e6 q=>.inr (.inr (.inl ⟨p,xs,d,ds,e1,hK ▸ e2,hK ▸ e3,hK ▸ e4,e5,e6,q⟩))
 ·exact fun y a o H Q g q=>.inr (.inr (.inr ⟨a,o,rfl,g,q⟩))
theorem zfy (hK : X.K = T.K) (hu : X.A.units + 64 < cLine) : Op T X (compareOp .NotIn) yeO:=by
 refine ⟨_,zd6.or ((zg0 hu).or ((zgb hu).or (zeg hu))),zfx (neg:=true) (g:=compareOp .NotIn) hK ?_ ?_ ?_ ?_⟩
 ·exact fun i j H Q q=>.inl ⟨i,j,rfl,rfl,q⟩
 ·exact fun x y H Q p xs d ds e1 e2 e3 e4 e5 e6 q=>.inr (.inl ⟨p,xs,d,ds,e1,hK ▸ e2,hK ▸ e3,hK ▸ e4,e5,e6,q⟩)
 ·exact fun x y H Q p xs d ds e1 e2 e3 e4 e5 e6 q=>.inr (.inr (.inl ⟨p,xs,d,ds,e1,hK ▸ e2,hK ▸ e3,hK ▸ e4,e5,e6,q⟩))
 ·exact fun y a o H Q g q=>.inr (.inr (.inr ⟨a,o,rfl,g,q⟩))
end
end Sm
namespace Sm
open PySem PySem.Spec L2
abbrev ErrC (x : Str) (C : Addr) (mg : Str -> Option Value) (base : Heap) : Prop:=PyProof.Rows.OwnCls x C [.type "ValueError",.type "Exception",.type "BaseException",.type "object"] "ValueError.__new__" mg base
structure GX (T : Tb) (mg : Str -> Option Value) (base : Heap) (c : Nat) (x : Str) : Prop where
 ex : ∃ C,T.exc c = some C /\ ErrC x C mg base
section
variable {T : Tb} {E : St -> XK} {X : Cx} {pos np cpos : Pos} {e : Expr} {es : List Expr} {x : Str} {c : Nat} {as : SL}
theorem zaG (G : GX T X.mg X.base c x) (hr : yet X E) (hg : Gl X x) (ha : PAA T E X (e :: es) as) (hc : X.calm = true:=by rfl) (hex : X.ex = []:=by rfl)
  (hdb : (x == ("__debug__" : Str)) = false:=by decide) (he : starEach (e :: es) X.env = (false,eval e X.env) :: starEach es X.env:=by rfl) (hpl : (backTo cpos (starEach es X.env)).any (·.1) = false:=by rfl) :
  PSA T E X (.Raise (some (.Call (.Name x np) (e :: es) [] cpos)) none pos) (ybM c as):=by
 obtain ⟨C,h1,O⟩:=G.ex
 refine ybL (zhU O PySem.F.excBase_ValueError hc hex hr hg ha hdb he hpl) fun D σ H ⟨ι,h,en,S,er,q⟩=>⟨ι,h,en,S,er,q.go er fun xs h1' ι1 H1 us g1 S1 r1 q1=>?_⟩
 split at q1
 ·rename_i hl
  exact ⟨by rw [<- r1.length]; exact hl,q1 ι1 H1 σ C S1.refl S1 (er.mono g1) h1⟩
 ·exact q1.elim
end
def ycE (T : Tb) (f : Fn) (r : List V -> Hp -> VK -> Prop) : Prop:=∀ (ι : Ix) (h : AH) (H : Hp) (xs : List AV) (us : List V) (E : XK) (Q : VK),Sim T ι h H -> RVs T ι H xs us -> Post T ι H E (RV T) (f xs h) Q -> r us H Q
section
variable {T : Tb} {E : St -> XK} {X : Cx} {pos p : Pos} {e a : Expr} {es : List Expr} {x : Str} {as : SL} {sa : SE}
theorem yfS {f : Fn} {r : List V -> Hp -> VK -> Prop} (hs : ycE T f r) {σ : St} {H : Hp} {Q : VK} (q : tE T E (yaf f as) σ H Q) : tCB r (tA T E as) σ H Q:=by
 obtain ⟨ι,h,en,S,er,q⟩:=q
 exact ⟨ι,h,en,S,er,q.bind fun xs h1 ι1 H1 us g1 S1 r1 q1=>hs ι1 h1 H1 xs us _ Q S1 r1 q1⟩
theorem r_bi {id : String} {f : Fn} (hc : ∃ r,CallR X (.builtin id) r /\ ycE T f r) (hg : Gl X x) (hm : X.mg x = none) (hv : bootBuiltins x = some (.builtin id)) (ha : PAA T E X (e :: es) as) (hn : x ≠ "__name__" := by decide) (hdb : (x == ("__debug__" : Str)) = false:=by decide)
  (he : starEach (e :: es) X.env = (false,eval e X.env) :: starEach es X.env:=by rfl) (hpl : (backTo pos (starEach es X.env)).any (·.1) = false:=by rfl) : PEA T E X (.Call (.Name x p) (e :: es) [] pos) (yaf f as):=by
 obtain ⟨r,h1,h2⟩:=hc
 exact yaP (zd4 h1 hg hm hv ha hn hdb he hpl) fun σ H Q q=>yfS h2 q
theorem r_ty {id : String} {f : Fn} (hc : ∃ r,CallR X (.type id) r /\ ycE T f r) (hg : Gl X x) (hm : X.mg x = none) (hv : bootBuiltins x = some (.type id)) (ha : PAA T E X (e :: es) as) (hn : x ≠ "__name__" := by decide) (hdb : (x == ("__debug__" : Str)) = false:=by decide)
  (he : starEach (e :: es) X.env = (false,eval e X.env) :: starEach es X.env:=by rfl) (hpl : (backTo pos (starEach es X.env)).any (·.1) = false:=by rfl) : PEA T E X (.Call (.Name x p) (e :: es) [] pos) (yaf f as):=by
 obtain ⟨r,h1,h2⟩:=hc
 exact yaP (zgH h1 hg hm hv ha hn hdb he hpl) fun σ H Q q=>yfS h2 q
theorem b_len (hK : X.K = T.K) : ∃ r,CallR X (.builtin "len") r /\ ycE T fLen r:=by
 refine ⟨_,zd8.or (zd7.or zgN),fun ι h H xs us E Q S r q=>?_⟩
 unfold fLen at q
 split at q
 ·cases r with
  | cons r r' =>
   cases r'
   obtain ⟨rfl,n,_⟩:=ya4 r
   exact .inl ⟨_,rfl,n,q.now S (.int _)⟩
 ·cases r with
  | cons r r' =>
   cases r'
   obtain ⟨a,us,rfl,sq,rs⟩:=ycI r
   exact .inr (.inl ⟨a,us,rfl,.inr (hK ▸ sq),by rw [<- rs.length]; exact q.now S (.int _)⟩)
 ·cases r with
  | cons r r' =>
   cases r'
   obtain ⟨a,us,rfl,sq,rs⟩:=yba S r rfl
   exact .inr (.inl ⟨a,us,rfl,.inl (hK ▸ sq),by rw [<- rs.length]; exact q.now S (.int _)⟩)
 ·rename_i n
  cases r with
  | cons r r' =>
   cases r'
   split at q
   ·rename_i xs hn
    obtain ⟨a,us,rfl,sq,rs⟩:=yba (xs:=xs) S r (by simp [ya5,hn])
    exact .inr (.inl ⟨a,us,rfl,.inl (hK ▸ sq),by rw [<- rs.length]; exact q.now S (.int _)⟩)
   ·rename_i kvs hn
    cases r with
    | @ref _ ad hr =>
     obtain ⟨o,e1,kus,rfl,rs⟩:=S.obj n _ ad hn hr
     exact .inr (.inr ⟨ad,kus,rfl,e1,by rw [<- Paired.length rs]; exact q.now S (.int _)⟩)
   ·exact q.elim
 ·exact q.elim
theorem b_abs : ∃ r,CallR X (.builtin "abs") r /\ ycE T fAbs r:=by
 refine ⟨_,zhA,fun ι h H xs us E Q S r q=>?_⟩
 unfold fAbs at q
 split at q
 ·cases r with
  | cons r r' => cases r'; rw [yaF r]; exact ⟨_,rfl,q.now S (.int _)⟩
 ·exact q.elim
theorem yeU (hc : X.calm = true:=by rfl) : ∃ r,CallR X (.builtin "max") r /\ ycE T yce r:=by
 refine ⟨_,zgB hc,fun ι h H xs us E Q S r q=>?_⟩
 unfold yce at q
 split at q
 ·cases r with
  | cons r r' => cases r' with
   | cons r1 r2=>cases r2; rw [yaF r,yaF r1]; exact ⟨_,_,rfl,q.now S (.int _)⟩
 ·exact q.elim
theorem zeh {ι : Ix} {H : Hp} : ∀ {xs : List AV} {us : List V} {bs : List Bool},RVs T ι H xs us -> ydp xs = some bs -> us = bs.map V.bl
 | _,_,_,.nil,e=>by cases e; rfl
 | _,_,bs,.cons (x:=x) r rs,e=>by
  unfold ydp at e
  split at e
  ·rename_i hh; cases hh
  ·rename_i b r' hh
   cases hh
   obtain ⟨bs',e1,rfl⟩:=Option.map_eq_some_iff.mp e
   rw [ybS r,zeh rs e1]; rfl
  ·cases e
theorem b_all (hK : X.K = T.K) (hc : X.calm = true:=by rfl) : ∃ r,CallR X (.builtin "all") r /\ ycE T fAll r:=by
 refine ⟨_,zhP hc,fun ι h H xs us E Q S r q=>?_⟩
 unfold fAll at q
 split at q
 ·split at q
  ·rename_i bs hb
   cases r with
   | cons r r' =>
    cases r'
    obtain ⟨a,us,rfl,sq,rs⟩:=yba S r rfl
    rw [zeh rs hb] at sq
    exact ⟨a,bs,rfl,hK ▸ sq,q.now S (.bl _)⟩
  ·exact q.elim
 ·exact q.elim
theorem b_int : ∃ r,CallR X (.type "int") r /\ ycE T fInt r:=by
 refine ⟨_,zgC,fun ι h H xs us E Q S r q=>?_⟩
 unfold fInt at q
 split at q
 ·cases r with
  | cons r r' => cases r'; rw [yaF r]; exact .inl ⟨_,rfl,q.now S (.int _)⟩
 ·cases r with
  | cons r r' => cases r'; rw [ybS r]; exact .inr ⟨_,rfl,q.now S (.int _)⟩
 ·exact q.elim
abbrev tys : List String:=["NoneType", "bool", "int", "str", "list", "tuple", "dict"]
theorem yfy (K : PySem.W.Frag) : ∀ n ∈ tys,∀ t ∈ tys,PySem.W.kitOne K (.type n) (.type t) = some (n == t || (t == "int" && n == "bool")):=by
 intro n hn t ht
 simp only [tys,List.mem_cons,List.not_mem_nil,or_false] at hn ht
 rcases hn with rfl | rfl | rfl | rfl | rfl | rfl | rfl<;>rcases ht with rfl | rfl | rfl | rfl | rfl | rfl | rfl<;>rfl
theorem zg2 {c : V} {cv : Value} (rc : ∀ u,RelV c u -> u = cv) :
  CallR X (.builtin "isinstance") (fun xs H Q=>∃ a us r,xs = [.ref a,c] /\ SqL X.K H a us /\ PySem.W.kitOne X.K (.type "list") cv = some r /\ Q (.bl r) H):=by
 intro pins s σ H xs us Q I r h
 obtain ⟨a,ws,k,rfl,sq,hk,q⟩:=h
 obtain ⟨u,w',rfl,rx,ry⟩:=ye3 r
 obtain rfl:=rc _ ry
 obtain rfl : u = Value.ref a:=rx
 obtain ⟨its,_,⟨o,n,e1,e2,_⟩,_⟩:=I.list sq
 exact PySem.W.kia_one PySem.W.kitx_list I.kIn ⟨_,e1,e2⟩ hk (fun z=>nomatch z) fun tk=>⟨.bl k,H,I.tok _,rfl,q⟩
theorem yhQ {ι : Ix} {h : AH} {H : Hp} {v : AV} {u : V} {n : String} (S : Sim T ι h H) (r : RV T ι H v u) (e : tyN v h = some n) : (TyOf T.K H u (.type n) \/ (n = "list" /\ ∃ a us,u = .ref a /\ SqL T.K H a us)) /\ n ∈ tys:=by
 unfold tyN at e
 cases r with
 | non=>cases e; exact ⟨.inl .non,by decide⟩
 | bl b=>cases e; exact ⟨.inl (.bl b),by decide⟩
 | int b=>cases e; exact ⟨.inl (.int b),by decide⟩
 | str n o=>cases e; exact ⟨.inl (.str _),by decide⟩
 | tup n q r=>cases e; exact ⟨.inl (.tup q),by decide⟩
 | fl n q r=>cases e; exact ⟨.inr ⟨rfl,_,_,rfl,.inl q⟩,by decide⟩
 | kfl q r=>cases e; exact ⟨.inr ⟨rfl,_,_,rfl,.inr q⟩,by decide⟩
 | @ref k a q =>
  dsimp only at e
  split at e
  ·rename_i xs hn
   cases e
   obtain ⟨o,e1,us,rfl,rs⟩:=S.obj k _ a hn q
   exact ⟨.inl (.lst e1),by decide⟩
  ·rename_i t kvs hn
   cases e
   obtain ⟨o,e1,r⟩:=S.obj k _ a hn q
   cases t with
   | false=>obtain ⟨kus,rfl,rs⟩:=r; exact ⟨.inl (.dK e1),by decide⟩
   | true=>obtain ⟨kus,rfl,rs⟩:=r; exact ⟨.inl (.dT e1),by decide⟩
  ·cases e
 | exc _ _ _=>cases e
theorem yeG {t : Str} {id : String} {p2 : Pos} (hK : X.K = T.K) (hg : Gl X "isinstance") (hm : X.mg "isinstance" = none) (ha : PEA T E X a sa) (hgt : Gl X t) (hmt : X.mg t = none) (hvt : bootBuiltins t = some (.type id)) (hid : id ∈ tys) (hnt : t ≠ "__name__" := by decide) (hdt : (t == ("__debug__" : Str)) = false:=by decide)
  (he : starEach [a,.Name t p2] X.env = (false,eval a X.env) :: starEach [.Name t p2] X.env:=by rfl) : PEA T E X (.Call (.Name "isinstance" p) [a,.Name t p2] [] pos) (sIsB id sa):=by
 refine yaP (zd4 ((zhO (X:=X) (yfN id)).or (zg2 (X:=X) (yfN id))) hg hm PyProof.Rows.boot_isinstance (zc5 ha (zc5 (ziu (v:=.ty id) hgt hmt hvt rfl hnt hdt) yfj) he) (he:=he)) fun σ H Q ⟨ι,h,en,S,er,q⟩=>⟨ι,h,en,S,er,q.bind fun v h1 ι1 H1 u g1 S1 r1 q1=>?_⟩
 split at q1
 ·rename_i n hn
  obtain ⟨ty,hmem⟩:=yhQ S1 r1 hn
  rcases ty with ty | ⟨rfl,ad,us,rfl,sq⟩
  ·exact .inl ⟨u,.type n,_,rfl,hK ▸ ty,yfy _ n hmem id hid,q1.now S1 (.bl _)⟩
  ·exact .inr ⟨ad,us,_,rfl,hK ▸ sq,yfy _ _ hmem id hid,q1.now S1 (.bl _)⟩
 ·exact q1.elim
def MtS (T : Tb) (f : FM) (r : V -> List V -> Hp -> VK -> Prop) : Prop:=∀ (ι : Ix) (h : AH) (H : Hp) (x : AV) (xs : List AV) (u : V) (us : List V) (E : XK) (Q : VK),Sim T ι h H -> RV T ι H x u -> RVs T ι H xs us -> Post T ι H E (RV T) (f x xs h) Q -> r u us H Q
def ChkS (T : Tb) (chk : AV -> AH -> Bool) (n : String) : Prop:=∀ (ι : Ix) (h : AH) (H : Hp) (x : AV) (u : V),Sim T ι h H -> RV T ι H x u -> chk x h = true -> tyV T.K n u H
theorem zat : ChkS T yaI "list" := fun ι h H x u S r e=>by
 obtain ⟨xs,e1⟩:=Option.isSome_iff_exists.mp e
 obtain ⟨a,us,rfl,sq,rs⟩:=yba S r e1
 exact .inl ⟨rfl,us,sq⟩
theorem zfz : ChkS T yeD "str" := fun ι h H x u S r e=>by
 unfold yeD at e
 split at e
 ·obtain ⟨rfl,_⟩:=ya4 r; rfl
 ·cases e
variable {o : Expr} {so : SE} {name : Str} {apos : Pos} {chk : AV -> AH -> Bool} {f : FM} {tn id : String}
theorem r_bm (hK : X.K = T.K) (pa : PlainAttrs tn) (slot : Slot tn name id) (hty : typeOf (.builtin id) = pure (.type "method_descriptor")) (hm : ∃ r,MtR X id r /\ MtS T f r) (hc : ChkS T chk tn) (ho : PEA T E X o so) (ha : PAA T E X (e :: es) as)
  (hbase : attributeBase o name X.env (eval o X.env) = eval o X.env:=by rfl)
  (hfew : ((backTo pos (starEach (e :: es) X.env)).all (fun x=>!x.1) && (backToKw pos (keywordEach [] X.env)).all (fun x=>x.1.isSome)
   && decide ((e :: es).length + ([] : List Keyword).length + (if ([] : List Keyword).isEmpty then 0 else 1) < 30)) = true:=by rfl)
  (hline : (apos.endLine == pos.line) = true:=by rfl) (hs : starEach (e :: es) X.env = (false,eval e X.env) :: starEach es X.env:=by rfl) (hplain : (backTo pos (starEach es X.env)).any (·.1) = false:=by rfl) :
  PEA T E X (.Call (.Attribute o name apos) (e :: es) [] pos) (sBM chk f so as):=by
 obtain ⟨r,h1,h2⟩:=hm
 refine yaP (yhA pa slot hty h1 ho ha hbase hfew hline hs hplain) fun σ H Q ⟨ι,h,en,S,er,q⟩=>⟨ι,h,en,S,er,q.bind fun x h1 ι1 H1 u g1 S1 r1 q1=>?_⟩
 by_cases hx : chk x h1 = true
 ·rw [if_pos hx] at q1
  exact ⟨hK ▸ hc ι1 h1 H1 x u S1 r1 hx,ι1,h1,en,S1,er.mono g1,q1.bind fun xs h2' ι2 H2 us g2 S2 r2 q2=>h2 ι2 h2' H2 x xs u us _ Q S2 (r1.mono g2) r2 q2⟩
 ·rw [if_neg hx] at q1; exact q1.elim
theorem yhR (hK : X.K = T.K) (pa : PlainAttrs tn) (slot : Slot tn name id) (hty : typeOf (.builtin id) = pure (.type "method_descriptor")) (hm : ∃ r,MtR X id r /\ MtS T f r) (hc : ChkS T chk tn) (ho : PEA T E X o so)
  (hbase : attributeBase o name X.env (eval o X.env) = eval o X.env:=by rfl) (hline : (apos.endLine == pos.line) = true:=by rfl) : PEA T E X (.Call (.Attribute o name apos) [] [] pos) (sBM0 chk f so):=by
 obtain ⟨r,h1,h2⟩:=hm
 refine yaP (ygt pa slot hty h1 ho hbase hline) fun σ H Q ⟨ι,h,en,S,er,q⟩=>⟨ι,h,en,S,er,q.bind fun x h1 ι1 H1 u g1 S1 r1 q1=>?_⟩
 by_cases hx : chk x h1 = true
 ·rw [if_pos hx] at q1
  exact ⟨hK ▸ hc ι1 h1 H1 x u S1 r1 hx,h2 ι1 h1 H1 x [] u [] _ Q S1 r1 .nil q1⟩
 ·rw [if_neg hx] at q1; exact q1.elim
theorem zaw : ∃ r,MtR X "list.append" r /\ MtS T yaR r:=by
 refine ⟨_,zdz,fun ι h H x xs u us E Q S rx rs q=>?_⟩
 unfold yaR at q
 split at q
 ·rename_i n y
  split at q
  ·rename_i ys hn
   split at q
   ·rename_i hl
    cases rx with
    | @ref _ ad hr =>
     cases rs with
     | @cons _ uu _ _ r r' =>
      cases r'
      obtain ⟨o,e1,ws,rfl,rw_⟩:=S.obj n _ ad hn hr
      have g:=S.growSet (u:=.lst (ws++[uu])) hr
      exact ⟨ad,ws,_,rfl,rfl,e1,by rw [<- rw_.length]; exact hl,q ι _ _ g (S.set hr ⟨_,rfl,(rw_.mono g).append (.cons (r.mono g) .nil)⟩) .non⟩
   ·exact q.elim
  ·exact q.elim
 ·exact q.elim
theorem yhS : ∃ r,MtR X "list.pop" r /\ MtS T mPop r:=by
 refine ⟨_,ygu,fun ι h H x xs u us E Q S rx rs q=>?_⟩
 unfold mPop at q
 split at q
 ·rename_i n
  split at q
  ·rename_i ys hn
   split at q
   ·rename_i y hy
    cases rx with
    | @ref _ ad hr =>
     cases rs
     obtain ⟨o,e1,ws,rfl,rw_⟩:=S.obj n _ ad hn hr
     have g:=S.growSet (u:=.lst ws.dropLast) hr
     obtain ⟨v,e2,r2⟩:=rw_.get hy
     refine ⟨ad,ws,v,rfl,rfl,e1,by rw [<- rw_.length]; exact e2,q ι _ _ g (S.set hr ⟨_,rfl,?_⟩) (r2.mono g)⟩
     have z:=(rw_.mono g).take (ys.length - 1)
     have e3 : ys.take (ys.length - 1) = ys.dropLast:=List.dropLast_eq_take.symm
     have e4 : ws.take (ys.length - 1) = ws.dropLast:=by rw [rw_.length]; exact List.dropLast_eq_take.symm
     rw [e3,e4] at z
     exact z
   ·exact q.elim
  ·exact q.elim
 ·exact q.elim
theorem zh1 : ∃ r,MtR X "str.count" r /\ MtS T yeu r:=by
 refine ⟨_,zec,fun ι h H x xs u us E Q S rx rs q=>?_⟩
 unfold yeu at q
 split at q
 ·cases rs with
  | cons r r' =>
   cases r'
   obtain ⟨rfl,_⟩:=ya4 rx
   obtain ⟨rfl,_⟩:=ya4 r
   exact ⟨_,_,rfl,rfl,q.now S (.int _)⟩
 ·exact q.elim
theorem zfA {ι : Ix} {H : Hp} : ∀ {xs : List AV} {us : List V} {zs : List Str},RVs T ι H xs us -> ydq xs = some zs -> us = zs.map V.str /\ ∀ z ∈ zs,z.cps.all (· < 0x110000) = true
 | _,_,_,.nil,e=>by cases e; exact ⟨rfl,by simp⟩
 | _,_,zs,.cons (x:=x) r rs,e=>by
  unfold ydq at e
  split at e
  ·rename_i hh; cases hh
  ·rename_i b r' hh
   cases hh
   obtain ⟨zs',e1,rfl⟩:=Option.map_eq_some_iff.mp e
   obtain ⟨rfl,_,o⟩:=ya4 r
   obtain ⟨h1,h2⟩:=zfA rs e1
   refine ⟨by rw [h1]; rfl,fun z hz=>?_⟩
   rcases List.mem_cons.mp hz with rfl | hz
   ·exact o
   ·exact h2 z hz
  ·cases e
theorem ygK (hK : X.K = T.K) : ∃ r,MtR X "str.join" r /\ MtS T yc7 r:=by
 refine ⟨_,ziU,fun ι h H x xs u us E Q S rx rs q=>?_⟩
 unfold yc7 at q
 split at q
 ·rename_i z y
  split at q
  ·rename_i hz
   subst hz
   split at q
   ·rename_i ys hy
    split at q
    ·rename_i zs hzs
     split at q
     ·rename_i hl
      cases rs with
      | cons r r' =>
       cases r'
       obtain ⟨rfl,_⟩:=ya4 rx
       obtain ⟨a,ws,rfl,sq,rw_⟩:=yba S r hy
       obtain ⟨h1,h2⟩:=zfA rw_ hzs
       subst h1
       refine ⟨a,zs,rfl,rfl,hK ▸ sq,hl,fun rr hrr=>?_⟩
       have e : rr = ⟨((zs.map fun x : Str=>x.cps.toList).flatten).toArray⟩:=by
        cases rr
        simp only [Str.mk.injEq]
        rw [<- hrr]
       rw [e]
       refine q.now S (.str ?_ ?_)
       ·show ((zs.map fun x : Str=>x.cps.toList).flatten).toArray.size <= sizeLine
        rw [List.size_toArray]
        exact Nat.le_trans hl (by decide)
       ·rw [Array.all_eq_true_iff_forall_mem]
        intro c hc
        simp only [List.mem_toArray,List.mem_flatten,List.mem_map] at hc
        obtain ⟨l,⟨zz,hz1,rfl⟩,hc2⟩:=hc
        exact Array.all_eq_true_iff_forall_mem.mp (h2 zz hz1) c (by simpa using hc2)
     ·exact q.elim
    ·exact q.elim
   ·exact q.elim
  ·exact q.elim
 ·exact q.elim
end
end Sm
namespace Sm
open PySem PySem.Spec L2
theorem Out.bind_assoc {α β γ : Type} (o : Out α) (f : α -> AH -> Out β) (g : β -> AH -> Out γ) : (o.bind f).bind g = o.bind fun a h=>(f a h).bind g:=by cases o<;>rfl
section
variable {T : Tb} {E : St -> XK} {X : Cx} {pos p2 : Pos} {a b : Expr} {sa sb : SE}
def tO (T : Tb) (E : St -> XK) : Option SE -> TO
 | none=>yeZ
 | some s=>yfM (tE T E s)
abbrev POA (T : Tb) (E : St -> XK) (X : Cx) (e : Option Expr) (s : Option SE) : Prop:=PO X e (tO T E s)
theorem zaH : POA T E X none none:=ziF
theorem zaA (h : PEA T E X a sa) : POA T E X (some a) (some sa):=ziG h
@[simp] def yeH (s : Option SE) : En -> AH -> Out (Option Int):=fun en h=>match s with
 | none=>.ok none h
 | some l=>(l en h).bind fun v h2=>match v with | .int i=>.ok (some i) h2 | _=>.bad
theorem zfB {s : Option SE} {σ : St} {H : Hp} {ι : Ix} {h : AH} {en : En} {γ δ : Type} {R' : Ix -> Hp -> γ -> δ -> Prop} {Q0 : δ -> Hp -> Prop} {f : Option Int -> AH -> Out γ} {Q : Option Int -> Hp -> Prop} (S : Sim T ι h H) (er : ER T ι H en σ) (q : Post T ι H (E σ) R' ((yeH s en h).bind f) Q0)
  (k : ∀ l h' ι' H',Grow ι H ι' H' -> Sim T ι' h' H' -> Post T ι' H' (E σ) R' (f l h') Q0 -> Q l H') : tO T E s σ H Q:=by
 cases s with
 | none=>exact k none h ι H S.refl S q
 | some l =>
  refine ⟨ι,h,en,S,er,?_⟩
  unfold yeH at q
  dsimp only at q
  rw [Out.bind_assoc] at q
  refine q.bind fun v h1 ι1 H1 u g1 S1 r1 q1=>?_
  split at q1
  ·rw [yaF r1]
   exact ⟨_,rfl,k _ _ ι1 H1 g1 S1 q1⟩
  ·exact q1.elim
@[simp] def ybb (x : AV) (l u : Option Int) (h : AH) : Out AV:=match x with
 | .fl xs=>.ok (.fl (cutA xs l u)) h
 | .str z=>.ok (.str (cutS z l u)) h
 | .tup xs=>if ¬ (HT.sIx xs.length 0 l = 0 /\ HT.sIx xs.length xs.length u = xs.length) then .ok (.tup (cutA xs l u)) h else .bad
 | .ref n=>match h[n]? with
  | some (.lst xs)=>.ok (.fl (cutA xs l u)) h
  | _=>.bad
 | _=>.bad
@[simp] def sCut (a : SE) (lo hi : Option SE) : SE:=fun en h=>(a en h).bind fun x h1=>(yeH lo en h1).bind fun l h2=>(yeH hi en h2).bind fun u h3=>ybb x l u h3
theorem RVs.cut {ι : Ix} {H : Hp} {xs : List AV} {us : List V} {lo hi : Option Int} (r : RVs T ι H xs us) : RVs T ι H (cutA xs lo hi) (cutV us lo hi):=by
 unfold cutA cutV
 rw [<- r.length]
 exact (r.drop _).take _
theorem ygL {ι : Ix} {H : Hp} {z : Str} {l u : Option Int} (hz : z.length <= sizeLine) (hc : z.cps.all (· < 0x110000) = true) : RV T ι H (.str (cutS z l u)) (.str (cutS z l u)):=by
 refine .str ?_ ?_
 ·refine Nat.le_trans ?_ hz
  simp [cutS,Str.length]; omega
 ·simp only [cutS,List.all_toArray,List.all_eq_true]
  intro c h
  have hm : c ∈ z.cps.toList:=List.mem_of_mem_drop (List.mem_of_mem_take h)
  exact (Array.all_eq_true_iff_forall_mem.mp hc) c (by simpa using hm)
theorem zaC {lo hi : Option Expr} {sl sh : Option SE} (hK : X.K = T.K) (ha : PEA T E X a sa) (hl : POA T E X lo sl) (hh : POA T E X hi sh) : PEA T E X (.Subscript a (.Slice lo hi none p2) pos) (sCut sa sl sh):=by
 refine yaP (zhE (ziJ.or (sl_tup.or ygE)) ha hl hh) fun σ H Q ⟨ι,h,en,S,er,q⟩=>⟨ι,h,en,S,er,q.bind fun x h1 ι1 H1 u g1 S1 r1 q1=>?_⟩
 refine zfB (E:=E) S1 (er.mono g1) q1 fun l h2 ι2 H2 g2 S2 q2=>zfB (E:=E) S2 (er.mono (g1.trans g2)) q2 fun w h3 ι3 H3 g3 S3 q3=>?_
 have r3:=r1.mono (g2.trans g3)
 unfold ybb at q3
 split at q3
 ·obtain ⟨ad,us,rfl,sq,rs⟩:=yba S3 r3 rfl
  exact .inl ⟨ad,us,rfl,hK ▸ sq,fun p n=>ycJ S3 rs.cut n q3⟩
 ·obtain ⟨rfl,hz,hc⟩:=ya4 r3
  exact .inr (.inr ⟨_,rfl,hz,q3.now S3 (ygL hz hc)⟩)
 ·rename_i xs
  split at q3
  ·rename_i hz
   obtain ⟨ad,us,rfl,sq,rs⟩:=ycI r3
   exact .inr (.inl ⟨ad,us,rfl,hK ▸ sq,by rw [<- rs.length]; exact hz,fun p n=>zda S3 rs.cut n q3⟩)
  ·exact q3.elim
 ·split at q3
  ·rename_i xs hn
   obtain ⟨ad,us,rfl,sq,rs⟩:=yba (xs:=xs) S3 r3 (by simp [ya5,hn])
   exact .inl ⟨ad,us,rfl,hK ▸ sq,fun p n=>ycJ S3 rs.cut n q3⟩
  ·exact q3.elim
 ·exact q3.elim
theorem r_gI {x : Str} {i : Int} {p : Pos} (hg : Gl X x) (hm : ∃ t,X.mg x = some (.int i t)) (hd : (x == ("__debug__" : Str)) = false:=by decide) : PEA T E X (.Name x p) (sLit (.int i)):=by
 obtain ⟨t,hm⟩:=hm
 exact ziW hg hm hd
end
def DG (K : PySem.W.Frag) (mg : Str -> Option Value) (x : Str) (st : Stmt) (ps : List Str) : Prop:=∃ f fd,mg x = some (.ref f) /\ PySem.W.keepIn K (.ref f) = true /\ Binds K fd ps [] /\ Fun K x x st f fd
end Sm
namespace Sm
open PySem PySem.Spec L2
def ye1 (N : List Str) (sc : Scope) (x₁ : Str) (jf : List (Nat × Str)) (scope : Scope) : Bool :=
 decide (x₁ :: jf.map (·.2)).Nodup && (scope.names.lookup x₁ == some .local) && jf.all (fun p=>N[p.1]? == some p.2) && jf.all (fun p=>scope.names.lookup p.2 == some .free) && (scope.kind == .function) &&
 scope.names.all (fun y=>y.2 != .cell) && scope.names.all (fun y=>y.2 != .free || sc.names.lookup y.1 == some .cell || sc.names.lookup y.1 == some .free) && scope.names.all (fun y=>y.2 != .local || scope.names.lookup y.1 == some .local)
theorem zbe {X : Cx} {N : List Str} {sc scope : Scope} {x₁ : Str} {jf : List (Nat × Str)} (hN : X.N = N) (hk : ∀ x,X.env.kindOf x = sc.names.lookup x) (h : ye1 N sc x₁ jf scope = true) : CompOk X x₁ jf scope:=by
 unfold ye1 at h
 simp only [Bool.and_eq_true,decide_eq_true_eq,List.all_eq_true,beq_iff_eq,bne_iff_ne,Bool.or_eq_true] at h
 obtain ⟨⟨⟨⟨⟨⟨⟨h1,h2⟩,h3⟩,h4⟩,h5⟩,h6⟩,h7⟩,h8⟩:=h
 refine ⟨h1,h2,fun p hp=>by rw [hN]; exact h3 p hp,h4,h5,fun y hy=>h6 y hy,fun y hy e=>?_,fun y hy e=>?_⟩
 ·rw [hk]
  rcases h7 y hy with (z | z) | z
  ·exact absurd e z
  ·exact .inl z
  ·exact .inr z
 ·rcases h8 y hy with z | z
  ·exact absurd e z
  ·exact z
end Sm
namespace Sm
open PySem PySem.Spec L2
theorem zde {T : Tb} {ι : Ix} {H : Hp} : ∀ ns : List Int,RVs T ι H (ns.map AV.int) (ns.map V.int)
 | []=>.nil
 | n :: ns=>.cons (.int n) (zde ns)
theorem sim0 {T : Tb} {H : Hp} : Sim T ⟨[],[]⟩ [] H:=⟨rfl,List.nodup_nil,(fun _ z=>nomatch z),(fun i o a e=>by simp at e)⟩
def spL (K : PySem.W.Frag) : Sp:=fun vs H Q _=>∃ (a : Addr) (ns : List Int),vs = [.ref a] /\ SqL K H a (ns.map V.int) /\ ns.length <= 63 /\ ∀ H',Q (.bl true) H'
theorem zja {T : Tb} {F : Fn} (ht : ∀ ns : List Int,ns.length <= 63 -> ∃ h',F [.fl (ns.map AV.int)] [] = .ok (.bl true) h') : ∀ vs H Q E,spL T.K vs H Q E -> spA T F vs H Q E:=by
 rintro vs H Q E ⟨a,ns,rfl,hs,hl,q⟩
 obtain ⟨h',e⟩:=ht ns hl
 refine ⟨⟨[],[]⟩,[],[.fl (ns.map AV.int)],sim0,.cons ?_ .nil,?_⟩
 ·rcases hs with hs | hs
  ·exact .fl (by simp [Ix.all]) hs (zde ns)
  ·exact .kfl hs (zde ns)
 ·rw [e]
  intro ι' H' u g S r
  rw [ybS r]
  exact q H'
theorem zg3 {P : Program} {w : World} {outer : List Env} {H : Hp} {s s' : Shared} {e : Value} (h : CXE P w outer H s (fun _ _ _=>False) e s') : False:=by
 obtain ⟨_,_,_,_,_,_,_,_,_,_,_,_,_,_,q⟩:=h
 exact q
end Sm
namespace Sm
open PySem PySem.Spec L2
@[simp] def yek : List AV -> Option (List Int)
 | []=>some []
 | .int i :: r=>(yek r).map (i :: ·)
 | _=>none
@[simp] def fSum : Fn:=fun args h=>match args with
 | [.fl xs]=>match yek xs with
  | some ns=>.ok (.int ns.sum) h
  | none=>.bad
 | _=>.bad
@[simp] def ycV (a b c : SE) : SI:=fun en h=>(a en h).bind fun v h1=>(b en h1).bind fun w h2=>(c en h2).bind fun z h3=>match v,w,z with
 | .int i,.int j,.int k=>if i.natAbs < 2 ^ 40 /\ j.natAbs < 2 ^ 40 /\ 0 < k /\ k < 2 ^ 20 then .ok ((List.range (if i < j then (j - i - 1) / k + 1 else 0 : Int).toNat).map (fun m : Nat=>.int (i + m * k)),none) h3 else .bad
 | _,_,_=>.bad
@[simp] def fIsB : F2:=fun x y h=>match x,y with
 | .bl a,.bl b=>.ok (.bl (a == b)) h
 | _,_=>.bad
@[simp] def yev (f f' f'' : F2) (a b c d : SE) : SE:=fun en h=>(a en h).bind fun x h1=>(b en h1).bind fun y h2=>(f x y h2).bind fun z h3=>match z with
 | .bl k=>if k = true then (c en h3).bind fun w h4=>(f' y w h4).bind fun z2 h5=>(match z2 with
  | .bl k2=>if k2 = true then (d en h5).bind fun v h6=>f'' w v h6 else .ok (.bl false) h5
  | _=>.bad) else .ok (.bl false) h3
 | _=>.bad
section
variable {T : Tb} {E : St -> XK} {X : Cx} {pos p : Pos} {e a b c : Expr} {sa sb sc : SE}
theorem zdf {ι : Ix} {H : Hp} : ∀ {xs : List AV} {us : List V} {bs : List Int},RVs T ι H xs us -> yek xs = some bs -> us = bs.map V.int
 | _,_,_,.nil,e=>by cases e; rfl
 | _,_,bs,.cons (x:=x) r rs,e=>by
  unfold yek at e
  split at e
  ·rename_i hh; cases hh
  ·rename_i b r' hh
   cases hh
   obtain ⟨bs',e1,rfl⟩:=Option.map_eq_some_iff.mp e
   rw [yaF r,zdf rs e1]; rfl
  ·cases e
theorem zgc {ι : Ix} {H : Hp} {lo c : Int} {n : Nat} : ItR T (Itr3 lo c n) ι H ((List.range n).map (fun m : Nat=>AV.int (lo + m * c))) none:=by
 constructor
 ·intro i ι' h' H' y g S _ e
  rw [List.getElem?_map] at e
  obtain ⟨m,e1,rfl⟩:=Option.map_eq_some_iff.mp e
  have hi : i < n:=by
   have:=(List.getElem?_eq_some_iff.mp e1).1
   simpa using this
  rw [List.getElem?_range hi] at e1
  cases e1
  refine ⟨hi,?_⟩
  rintro u H2 ⟨rfl,rfl⟩
  exact ⟨S.refl,S,.int _⟩
 ·intro i ι' h' H' g S _ hl
  have hl' : n <= i:=by simpa using hl
  exact hl'
theorem zg4 {tg : Expr} {p : Pos} (hg : Gl X "range") (hm : X.mg "range" = none) (ha : PEA T E X a sa) (hb : PEA T E X b sb) (hc : PEA T E X c sc) (hs : starEach [a,b,c] X.env = [(false,eval a X.env),(false,eval b X.env),(false,eval c X.env)]:=by rfl) (hs2 : starEach [b,c] X.env = [(false,eval b X.env),(false,eval c X.env)]:=by rfl) (hs3 : starEach [c] X.env = [(false,eval c X.env)]:=by rfl) :
  PIA T X tg (.Call (.Name "range" p) [a,b,c] [] pos) (ycV sa sb sc) :=
 yds (zgV hg hm (zaa ha (zaa hb (zaa hc yab hs3) (by rw [hs2,hs3])) (by rw [hs,hs2])) hs hs2) fun σ H R ⟨ι,h,en,S,er,q⟩=>by
  unfold ycV at q
  refine ⟨ι,h,en,S,er,?_⟩
  unfold sCons
  cases e : sa en h with
  | bad=>rw [e] at q; exact q
  | ex c h1=>rw [e] at q; exact q.elim
  | ok v h1 =>
   rw [e] at q
   dsimp only [Out.bind] at q ⊢
   cases e' : sb en h1 with
   | bad=>rw [e'] at q; exact q
   | ex c h1=>rw [e'] at q; exact q.elim
   | ok v' h2 =>
    rw [e'] at q
    dsimp only at q ⊢
    cases e'' : sc en h2 with
    | bad=>rw [e''] at q; exact q
    | ex c h1=>rw [e''] at q; exact q.elim
    | ok v'' h3 =>
     rw [e''] at q
     dsimp only at q
     intro ι1 H1 u g1 S1 r1
     split at q
     ·rename_i hx
      split at hx
      ·split at hx
       ·rename_i hb
        cases hx
        cases r1 with
        | cons r r' =>
         cases r' with
         | cons r2 r3 =>
          cases r3 with
          | cons r4 r5 =>
           cases r5
           rw [yaF r,yaF r2,yaF r4]
           exact ⟨_,_,_,rfl,hb,q ι1 H1 _ g1 S1 zgc⟩
       ·cases hx
      ·cases hx
     ·exact q.elim
theorem ycL {sts : List Stmt} {E : St -> XK} : PSsA T E X sts (fun _ _=>.bad):=fun pins s σ H D I ⟨ι,h,en,S,er,q⟩=>q.elim
theorem yih {ι : Ix} {H : Hp} {z : Str} (hz : z.length <= sizeLine) (hc : z.cps.all (· < 0x110000) = true) : RV T ι H (.str (revS z)) (.str (revS z)):=by
 refine .str ?_ ?_
 ·refine Nat.le_trans ?_ hz
  simp [revS,Str.length]
 ·simp only [revS,List.all_toArray,List.all_eq_true,List.mem_reverse]
  intro c h
  exact (Array.all_eq_true_iff_forall_mem.mp hc) c (by simpa using h)
theorem zg5 {d : Expr} {sd : SE} {op op' op'' : CmpOp} {f f' f'' : F2} (ho : Op T X (compareOp op) f) (ho' : Op T X (compareOp op') f') (ho'' : Op T X (compareOp op'') f'') (ha : PEA T E X a sa) (hb : PEA T E X b sb) (hc : PEA T E X c sc) (hd : PEA T E X d sd) (hm : lastMarks [op,op',op''] [b,c,d] = false:=by with_unfolding_all rfl) :
  PTA T E X (.Compare a [op,op',op''] [b,c,d] pos) (yaj (yev f f' f'' sa sb sc sd)):=by
 obtain ⟨r,h1,hs⟩:=ho
 obtain ⟨r',h1',hs'⟩:=ho'
 obtain ⟨r'',h1'',hs''⟩:=ho''
 refine ydL (zgW h1 h1' h1'' ha hb hc hd hm) fun σ H Q q=>?_
 obtain ⟨ι,h,en,S,er,q⟩:=q
 unfold yaj yev at q
 rw [Out.bind_assoc] at q
 refine ⟨ι,h,en,S,er,q.bind fun x h1 ι1 H1 u g1 S1 r1 q1=>?_⟩
 rw [Out.bind_assoc] at q1
 refine ⟨ι1,h1,en,S1,er.mono g1,q1.bind fun y h2 ι2 H2 w g2 S2 r2 q2=>?_⟩
 rw [Out.bind_assoc] at q2
 refine hs ι2 h2 H2 x y u w (E σ) _ S2 (r1.mono g2) r2 (q2.bind fun z h3 ι3 H3 k g3 S3 r3 q3=>?_)
 split at q3
 ·rename_i kk
  rw [ybS r3]
  refine ⟨kk,rfl,?_⟩
  by_cases hkk : kk = true
  ·rw [if_pos hkk] at q3 ⊢
   rw [Out.bind_assoc] at q3
   refine ⟨ι3,h3,en,S3,er.mono (g1.trans (g2.trans g3)),q3.bind fun v h4 ι4 H4 j g4 S4 r4 q4=>?_⟩
   rw [Out.bind_assoc] at q4
   refine hs' ι4 h4 H4 y v w j (E σ) _ S4 (r2.mono (g3.trans g4)) r4 (q4.bind fun z2 h5 ι5 H5 k5 g5 S5 r5 q5=>?_)
   split at q5
   ·rename_i k2
    rw [ybS r5]
    refine ⟨k2,rfl,?_⟩
    by_cases hk2 : k2 = true
    ·rw [if_pos hk2] at q5 ⊢
     rw [Out.bind_assoc] at q5
     refine ⟨ι5,h5,en,S5,er.mono (g1.trans (g2.trans (g3.trans (g4.trans g5)))),q5.bind fun v6 h6 ι6 H6 j6 g6 S6 r6 q6=>?_⟩
     refine hs'' ι6 h6 H6 v v6 j j6 (E σ) _ S6 (r4.mono (g5.trans g6)) r6 (q6.bind fun z7 h7 ι7 H7 k7 g7 S7 r7 q7=>?_)
     split at q7
     ·rw [ybS r7]; exact ⟨_,rfl,q7.now S7 rfl⟩
     ·exact q7.elim
    ·rw [if_neg hk2] at q5 ⊢
     exact ⟨false,rfl,q5.now S5 rfl⟩
   ·exact q5.elim
  ·rw [if_neg hkk] at q3 ⊢
   exact ⟨false,rfl,q3.now S3 rfl⟩
 ·exact q3.elim
end
theorem el1 : ∀ {us : List Value},us.length = 1 -> ∃ a : Value,us = [a]
 | [a],_=>⟨a,rfl⟩
theorem el2 : ∀ {us : List Value},us.length = 2 -> ∃ a b : Value,us = [a,b]
 | [a,b],_=>⟨a,b,rfl⟩
theorem el3 : ∀ {us : List Value},us.length = 3 -> ∃ a b c : Value,us = [a,b,c]
 | [a,b,c],_=>⟨a,b,c,rfl⟩
theorem el4 : ∀ {us : List Value},us.length = 4 -> ∃ a b c d : Value,us = [a,b,c,d]
 | [a,b,c,d],_=>⟨a,b,c,d,rfl⟩
@[simp] def ydY : FM:=fun x vs h=>match x,vs with
 | .ref n,[.ref k]=>match h[n]?,h[k]? with
  | some (.lst xs),some (.lst ys)=>if xs.length + ys.length <= sizeLine then .ok .non (h.set n (.lst (xs++ys))) else .bad
  | _,_=>.bad
 | _,_=>.bad
theorem ygM {T : Tb} {X : Cx} : ∃ r,MtR X "list.extend" r /\ MtS T ydY r:=by
 refine ⟨_,zgI,fun ι h H x xs u us E Q S rx rs q=>?_⟩
 unfold ydY at q
 split at q
 ·rename_i n k
  split at q
  ·rename_i ys zs hn hk
   split at q
   ·rename_i hl
    cases rx with
    | @ref _ ad hr =>
     cases rs with
     | @cons _ uu _ _ r r' =>
      cases r'
      cases r with
      | @ref _ bd hb =>
       obtain ⟨o,e1,ws,rfl,rw_⟩:=S.obj n _ ad hn hr
       obtain ⟨o2,e2,ws2,rfl,rw2⟩:=S.obj k _ bd hk hb
       have g:=S.growSet (u:=.lst (ws++ws2)) hr
       exact ⟨ad,bd,ws,ws2,rfl,rfl,e1,e2,by rw [<- rw_.length,<- rw2.length]; exact hl,q ι _ _ g (S.set hr ⟨_,rfl,(rw_.mono g).append (rw2.mono g)⟩) .non⟩
   ·exact q.elim
  ·exact q.elim
 ·exact q.elim
theorem ygN {T : Tb} {ι : Ix} {H : Hp} {z : Str} {n : Nat} (hl : z.length * n <= 1000000) (hc : z.cps.all (· < 0x110000) = true) : RV T ι H (.str (repS z n)) (.str (repS z n)):=by
 refine .str ?_ ?_
 ·refine Nat.le_trans ?_ (Nat.le_trans hl (by decide))
  simp [repS,Str.length,Nat.mul_comm]
 ·simp only [repS,List.all_toArray,List.all_eq_true,List.mem_flatten,List.mem_replicate]
  rintro c ⟨l,⟨_,rfl⟩,hm⟩
  exact (Array.all_eq_true_iff_forall_mem.mp hc) c (by simpa using hm)
def yco : Nat:=100000000
end Sm
namespace Sm
open PySem PySem.Spec L2
@[simp] def ydZ : F2:=fun x y h=>match ya5 x h,ya5 y h with
 | some xs,some ys=>if xs.length + ys.length <= sizeLine then .ok (.ref h.length) (h++[.lst (xs++ys)]) else .bad
 | _,_=>.bad
section
variable {T : Tb} {E : St -> XK} {X : Cx} {pos : Pos}
theorem ygO (hK : X.K = T.K) : Op T X (binaryOp .Add) ydZ:=by
 refine ⟨_,zfl,fun ι h H x y u w E Q S rx ry p=>?_⟩
 unfold ydZ at p
 split at p
 ·split at p
  ·rename_i e1 e2 hz
   obtain ⟨a,us,rfl,q1,r1⟩:=yba S rx e1
   obtain ⟨b,ws,rfl,q2,r2⟩:=yba S ry e2
   exact ⟨a,b,us,ws,rfl,rfl,hK ▸ q1,hK ▸ q2,by rw [<- r1.length,<- r2.length]; exact hz,fun l n=>zfo S (r1.append r2) n p⟩
  ·exact p.elim
 ·exact p.elim
end
end Sm
namespace Sm
open PySem PySem.Spec L2
@[simp] def yel : F2:=fun x y h=>match x,y with
 | .str z,.int n=>if n.natAbs < 2 ^ 40 /\ z.length * n.toNat <= 1000000 then .ok (.str (repS z n.toNat)) h else .bad
 | _,_=>.bad
theorem ygP {T : Tb} {X : Cx} : Op T X (binaryOp .Mult) yel:=by
 refine ⟨_,zf9,fun ι h H x y u w E Q S rx ry p=>?_⟩
 unfold yel at p
 split at p
 ·split at p
  ·rename_i hz
   obtain ⟨rfl,_,hc⟩:=ya4 rx
   rw [yaF ry]
   exact ⟨_,_,rfl,rfl,hz.1,hz.2,p.now S (ygN hz.2 hc)⟩
  ·exact p.elim
 ·exact p.elim
end Sm
namespace Sm
open PySem PySem.Spec L2
@[simp] def ydt : FM:=fun x vs h=>match x,vs with
 | .ref n,[.int i]=>match h[n]? with
  | some (.lst xs)=>if 0 <= i /\ i < 2 ^ 40 then (match xs[i.toNat]? with
   | some y=>.ok y (h.set n (.lst (xs.eraseIdx i.toNat)))
   | none=>.bad) else .bad
  | _=>.bad
 | _,_=>.bad
theorem RVs.erase {T : Tb} {ι : Ix} {H : Hp} {xs : List AV} {us : List V} (r : RVs T ι H xs us) (k : Nat) : RVs T ι H (xs.eraseIdx k) (us.eraseIdx k):=by
 rw [List.eraseIdx_eq_take_drop_succ,List.eraseIdx_eq_take_drop_succ]
 exact (r.take k).append (r.drop (k + 1))
theorem zjb {T : Tb} {X : Cx} : ∃ r,MtR X "list.pop" r /\ MtS T ydt r:=by
 refine ⟨_,zhH,fun ι h H x xs u us E Q S rx rs q=>?_⟩
 unfold ydt at q
 split at q
 ·rename_i n i
  split at q
  ·rename_i ys hn
   split at q
   ·rename_i hi
    split at q
    ·rename_i y hy
     cases rx with
     | @ref _ ad hr =>
      cases rs with
      | cons r1 r2 =>
      cases r2
      rw [yaF r1]
      obtain ⟨o,e1,ws,rfl,rw_⟩:=S.obj n _ ad hn hr
      have g:=S.growSet (u:=.lst (ws.eraseIdx i.toNat)) hr
      obtain ⟨v,e2,r2⟩:=rw_.get hy
      have hl:=(List.getElem?_eq_some_iff.mp hy).1
      have hl2:=rw_.length
      have h40 : i < 1099511627776:=hi.2
      refine ⟨ad,ws,i,i.toNat,v,rfl,rfl,e1,by omega,by omega,?_,e2,q ι _ _ g (S.set hr ⟨_,rfl,(rw_.mono g).erase i.toNat⟩) (r2.mono g)⟩
      unfold seqIndex?
      simp only [show ¬ i < 0 by omega,if_false]
      simp; omega
    ·exact q.elim
   ·exact q.elim
  ·exact q.elim
 ·exact q.elim
end Sm
namespace Sm
open PySem PySem.Spec L2
structure ItG (T : Tb) (J : It) (ι : Ix) (H : Hp) (ys : List AV) (L : AH -> Bool) : Prop where
 go : ∀ (i : Nat) (ι' : Ix) (h' : AH) (H' : Hp) (x : AV),Ext ι H ι' H' -> Sim T ι' h' H' -> L h' = true -> ys[i]? = some x -> J.go i H' /\ ∀ u H2,J.yld i H' u H2 -> Grow ι' H' ι' H2 /\ Sim T ι' h' H2 /\ RV T ι' H2 x u
 stop : ∀ (i : Nat) (ι' : Ix) (h' : AH) (H' : Hp),Ext ι H ι' H' -> Sim T ι' h' H' -> L h' = true -> ys.length <= i -> J.stop i H'
section
variable {T : Tb} {E : St -> XK} {X : Cx} {pos : Pos} {a : Expr} {sa : SE} {sts : List Stmt} {s1 : SS}
def ygQ (g : TG) (tb : TS) (D : Ends) (σ : St) (H1 : Hp) (J : It) : Prop:=∃ W : Nat -> Nat -> St -> Hp -> Prop,(∃ m,W 0 m σ H1) /\ ∀ i m σ H,W i m σ H -> (J.stop i H /\ D.nx σ H) \/ (J.go i H /\ ∃ N : St -> Hp -> Prop,(∀ σ' H',N σ' H' -> ∃ m',m' < m /\ W (i + 1) m' σ' H') /\ ∀ x H',J.yld i H x H' -> g x σ H' fun σ' H'' => tb { D with nx:=N,ct:=N,bk:=D.nx } σ' H'')
theorem zg6 {g : TG} {t : Tg} {J : It} {ι1 : Ix} {h1 : AH} {H1 : Hp} {en : En} {σ : St} {D : Ends} {w : Option Nat} {all ys : List AV}
  (hg2 : ∀ {ι : Ix} {h : AH} {H : Hp} {en e : En} {σ : St} {v : AV} {u : V} {Q : St -> Hp -> Prop},Sim T ι h H -> ER T ι H en σ -> RV T ι H v u -> setT t v en = some e -> (∀ σ',ER T ι H e σ' -> Q σ' H) -> g u σ H Q)
  (S1 : Sim T ι1 h1 H1) (er : ER T ι1 H1 en σ) (IR : ItG T J ι1 H1 ys (ybi w all)) (q : PostS T ι1 H1 E (ya7 w all t s1 ys en h1) D) : ygQ g (tS T EN s1) D σ H1 J:=by
 refine ⟨fun i m σ H=>m = ys.length - i /\ i <= ys.length /\ ∃ ι' h' en',Grow ι1 H1 ι' H /\ Sim T ι' h' H /\ ER T ι' H en' σ /\ PostS T ι' H E (ya7 w all t s1 (ys.drop i) en' h') D,
  ⟨ys.length,by simp,Nat.zero_le _,ι1,h1,en,S1.refl,S1,er,q⟩,?_⟩
 rintro i m σ H ⟨rfl,hi,ι',h',en',g',S',er',q'⟩
 by_cases hl : i < ys.length
 ·rw [zbO hl] at q'
  unfold ya7 at q'
  split at q'
  ·rename_i hlive
   obtain ⟨go,yld⟩:=IR.go i ι' h' H ys[i] g'.ext S' hlive (by simp [hl])
   refine .inr ⟨go,fun σ H=>∃ ι' h' en',Grow ι1 H1 ι' H /\ Sim T ι' h' H /\ ER T ι' H en' σ /\ PostS T ι' H E (ya7 w all t s1 (ys.drop (i + 1)) en' h') D,
    fun σ' H' w' => ⟨ys.length - (i + 1),by omega,rfl,hl,w'⟩,fun x H' y=>?_⟩
   obtain ⟨g2,S2,r2⟩:=yld x H' y
   split at q'
   ·rename_i e1 he1
    refine hg2 S2 (er'.mono g2) r2 he1 fun σ' er2=>⟨ι',h',e1,S2,er2,?_⟩
    have q2:=PostS.shift q' g2
    cases e2 : s1 e1 h' with
    | nx e3 h3=>rw [e2] at q2; exact fun ι3 H3 σ3 g3 S3 er3=>⟨ι3,h3,e3,g'.trans (g2.trans g3),S3,er3,q2.shift g3⟩
    | ct e3 h3=>rw [e2] at q2; exact fun ι3 H3 σ3 g3 S3 er3=>⟨ι3,h3,e3,g'.trans (g2.trans g3),S3,er3,q2.shift g3⟩
    | bk e3 h3=>rw [e2] at q2; exact q2
    | rt v h3=>rw [e2] at q2; exact q2
    | ex c e3 h3=>rw [e2] at q2; exact (show False from q2).elim
    | bad=>rw [e2] at q2; exact q2
   ·exact (show False from q').elim
  ·exact (show False from q').elim
 ·have ei : i = ys.length:=by omega
  subst ei
  rw [List.drop_length] at q'
  unfold ya7 at q'
  split at q'
  ·rename_i hlive
   exact .inl ⟨IR.stop _ ι' h' H g'.ext S' hlive (Nat.le_refl _),q' ι' H σ S'.refl S' er'⟩
  ·exact (show False from q').elim
end
end Sm
namespace L2
open PySem PySem.Spec PyProof.Rows
def Itz (K : PySem.W.Frag) (a b : Addr) : It :=
 ⟨fun i H=>∃ xs ys x y,SqL K H a xs /\ SqL K H b ys /\ xs[i]? = some x /\ ys[i]? = some y,
  fun i H v H' => ∃ (T : Addr) (x y : V),v = .ref T /\ H T = none /\ H' = upd H T (.tup [x,y]) /\ (∀ xs,SqL K H a xs -> xs[i]? = some x) /\ ∀ ys,SqL K H b ys -> ys[i]? = some y,
  fun i H=>∃ xs ys,SqL K H a xs /\ SqL K H b ys /\ (xs.length <= i \/ ys.length <= i)⟩
theorem zh2 {P : Program} {w : World} {K : PySem.W.Frag} {es : List Expr} {k : Nat} {tp : Pos} (a b z TI TO i1 i2 : Addr) (ap : ZipApart z TI TO i1 i2 a b) :
  Turn P w K (.Tuple es k tp) (Itz K a b) [z,TO,i1,i2,TI] z (fun i h=>(IsZip h z TI TO .none /\ IsPair h TI (.ref i1) (.ref i2) /\ ∃ u v,IsPair h TO u v) /\ h.IsListIter i1 a i /\ h.IsListIter i2 b i) where
 mem:=by simp
 obj:=fun i h st c hc=>by
  obtain ⟨⟨h1,h2,u,v,h3⟩,⟨o,ho,_,hd⟩,⟨o2,ho2,_,hd2⟩⟩:=st
  have hc' : c = z \/ c = TO \/ c = i1 \/ c = i2 \/ c = TI:=by simpa using hc
  rcases hc' with rfl | rfl | rfl | rfl | rfl
  ·exact ⟨_,h1,fun v q=>by
    have q' : Data.fields _ = Data.cell v:=q
    cases q'⟩
  ·exact ⟨_,h3,fun v q=>by
    have q' : Data.seq _ _ = Data.cell v:=q
    cases q'⟩
  ·exact ⟨o,ho,fun v q=>by rw [hd] at q; cases q⟩
  ·exact ⟨o2,ho2,fun v q=>by rw [hd2] at q; cases q⟩
  ·exact ⟨_,h2,fun v q=>by
    have q' : Data.seq _ _ = Data.cell v:=q
    cases q'⟩
 keep:=fun i h h' st k=>by
  obtain ⟨⟨h1,h2,u,v,h3⟩,hi1,hi2⟩:=st
  exact ⟨⟨k z (by simp) _ h1,k TI (by simp) _ h2,u,v,k TO (by simp) _ h3⟩,hi1.at fun o q=>k i1 (by simp) o q,hi2.at fun o q=>k i2 (by simp) o q⟩
 item:=by
  intro X hP hw hK hc i pins s σ H E I hf st hg
  subst hP hw hK
  obtain ⟨xs,ys,x,y,hq,hq2,hx,hy⟩:=hg
  obtain ⟨its,rv,p,hz⟩:=I.list hq
  obtain ⟨its2,rv2,p2,hz2⟩:=I.list hq2
  obtain ⟨u,hu,ru⟩:=rv.get hx
  obtain ⟨v,hv,rv'⟩:=rv2.get hy
  obtain ⟨⟨h1,h2,u0,v0,h3⟩,hi1,hi2⟩:=st
  refine wpAny_pyNext_zip_item ap h1 h2 h3 hi1 hi2 p.isList p2.isList (x:=u) (y:=v) (by simpa using hu) (by simpa using hv) fun g1 z1 t1 j1 j2 pr sz kp=>?_
  refine ⟨.ref s.heap.objs.size,rfl,wpAny_letOwnedTupleGo_zip z1 fun g2 z2 sb=>?_⟩
  replace sb : Heap.SameBut z g1 g2:=sb
  have zlt : z < s.heap.objs.size:=Heap.lt_size h1
  have TIlt : TI < s.heap.objs.size:=Heap.lt_size h2
  have TOlt : TO < s.heap.objs.size:=Heap.lt_size h3
  have I1 : Inv X pins σ H { s with heap:=g2 }:=I.turnedL (fp:=[z,TO,i1,i2,TI]) (t' := s.toks) (fun c o hb q=>by
   have n1 : c ≠ z:=fun e=>hb (by simp [e])
   have n2 : c ≠ TO:=fun e=>hb (by simp [e])
   have n3 : c ≠ i1:=fun e=>hb (by simp [e])
   have n4 : c ≠ i2:=fun e=>hb (by simp [e])
   exact (sb.2 c n1).trans (kp c o n1 n2 n3 n4 q)) hf
  have hT2 : g2.get? s.heap.objs.size = some { cls:=.type "tuple",data:=.seq #[u,v] }:=(sb.2 _ (Nat.ne_of_gt zlt)).trans pr
  have fp:=I.fpOk (H' := H) (Nat.le_refl s.heap.objs.size) (I.hok.fresh (Nat.le_refl _))
  obtain ⟨f0,f1,f2,f3,f4,f5⟩:=fp
  have I2 : Inv X pins σ (upd H s.heap.objs.size (.tup [x,y])) { s with heap:=g2 } :=
   I1.adopt (T:=s.heap.objs.size) f0 (I.sz) f1 f4 f5 ⟨by show 2 <= sizeLine; decide,[u,v],.cons ru (.cons rv' .nil),⟨_,hT2,rfl,_,rfl⟩⟩
  have TI2 : IsPair g2 TI (.ref i1) (.ref i2):=(sb.2 TI ap.TIz).trans (kp TI _ ap.TIz ap.TITO ap.TIi1 ap.TIi2 h2)
  refine ⟨.ref s.heap.objs.size,_,I2,rfl,⟨s.heap.objs.size,x,y,rfl,f0,rfl,fun ws hw=>by rw [I.list_inj hw hq]; exact hx,fun ws hw=>by rw [I.list_inj hw hq2]; exact hy⟩,⟨⟨z2,TI2,u,v,(sb.2 TO ap.TOz).trans t1⟩,j1.extBut sb.extBut ap.i1z,j2.extBut sb.extBut ap.i2z⟩,fun c hb=>?_⟩
  obtain ⟨g0,_⟩:=hf c hb
  obtain ⟨o,hob,_⟩ : ∃ o,s.heap.get? c = some o /\ True:=by
   have hb' : c = z \/ c = TO \/ c = i1 \/ c = i2 \/ c = TI:=by simpa using hb
   rcases hb' with rfl | rfl | rfl | rfl | rfl
   ·exact ⟨_,h1,trivial⟩
   ·exact ⟨_,h3,trivial⟩
   ·obtain ⟨o,q,_⟩:=hi1
    exact ⟨o,q,trivial⟩
   ·obtain ⟨o,q,_⟩:=hi2
    exact ⟨o,q,trivial⟩
   ·exact ⟨_,h2,trivial⟩
  rw [yay (Nat.ne_of_lt (Heap.lt_size hob))]
  exact g0
 done:=by
  intro X hP hw hK hc i pins s σ H E I hf st hg
  subst hP hw hK
  obtain ⟨xs,ys,hq,hq2,hx⟩:=hg
  obtain ⟨its,rv,p,hz⟩:=I.list hq
  obtain ⟨its2,rv2,p2,hz2⟩:=I.list hq2
  obtain ⟨⟨h1,h2,u0,v0,h3⟩,hi1,hi2⟩:=st
  have hl:=rv.length
  have hl2:=rv2.length
  exact wpAny_pyNext_zip_end (I.ok.hd hc) ap h1 h2 h3 hi1 hi2 p.isList p2.isList (hx.imp (fun e=>by simp; omega) (fun e=>by simp; omega)) fun h' eb=>⟨rfl,I.turnedL (fp:=[z,TO,i1,i2,TI]) (t' := s.toks) (fun c o hb q=>eb c o (fun e=>hb (by simp [e])) (fun e=>hb (by simp [e])) (fun e=>hb (by simp [e])) (fun e=>hb (by simp [e])) q) hf⟩
 self:=fun _ _ _ _ _ st h=>by
  obtain ⟨⟨h1,_⟩,_⟩:=st
  exact wpAny_pyIter_zip h1 h
section
variable {X : Cx}
theorem zei : bootBuiltins "zip" = some (.type "zip"):=by decide +kernel
def yhT (K : PySem.W.Frag) (ta : TA) : TI:=fun σ H R=>ta σ H fun vs H1=>∃ a b,vs = [.ref a,.ref b] /\ (∃ xs,SqL K H1 a xs) /\ (∃ ys,SqL K H1 b ys) /\ R (Itz K a b) H1
end
end L2
namespace L2
open PySem PySem.Spec PyProof.Rows
theorem ygR {X : Cx} {a b : Expr} {ta : TA} {p pos tp : Pos} {es : List Expr} {k : Nat} (hg : Gl X "zip") (hm : X.mg "zip" = none) (ha : PA X [a,b] ta) (hs : starEach [a,b] X.env = [(false,eval a X.env),(false,eval b X.env)]:=by rfl) (hs2 : starEach [b] X.env = [(false,eval b X.env)]:=by rfl) :
  PI X (.Tuple es k tp) (.Call (.Name "zip" p) [a,b] [] pos) (yhT X.K ta):=by
 intro pins s σ H R I h
 refine Call_ (yck I hg hm zei (PyProof.Rows.callWith_type1 (thn (ha pos pins s σ H _ I h) fun us s1 ⟨vs,H1,I1,r1,q1⟩=>?_) (by rw [hs,hs2]) (by rw [hs2]; rfl)))
 obtain ⟨l1,l2,e,⟨xs,hq⟩,⟨ys,hq2⟩,q⟩:=q1
 subst e
 cases r1 with
 | cons r rr =>
  cases rr with
  | cons r' rr =>
   cases rr
   cases r
   cases r'
   obtain ⟨its,rv,pl,hz⟩:=I1.list hq
   obtain ⟨its2,rv2,pl2,hz2⟩:=I1.list hq2
   have o1 : l1 < s1.heap.objs.size:=by obtain ⟨o,ho,_⟩:=pl.isList; exact Heap.lt_size ho
   have o2 : l2 < s1.heap.objs.size:=by obtain ⟨o,ho,_⟩:=pl2.isList; exact Heap.lt_size ho
   refine call_zip_2 pl.isList pl2.isList fun h' z1 z2 z3 z4 z5 hsz hk=>wpAny_pyIter_zip z1 ?_
   have ap : ZipApart (s1.heap.objs.size + 4) (s1.heap.objs.size + 2) (s1.heap.objs.size + 3) s1.heap.objs.size (s1.heap.objs.size + 1) l1 l2:=by
    constructor<;>(unfold Addr at *; omega)
   refine ⟨s1.heap.objs.size + 4,[s1.heap.objs.size + 4,s1.heap.objs.size + 3,s1.heap.objs.size,s1.heap.objs.size + 1,s1.heap.objs.size + 2],_,_,H1,rfl,I1.kept (t' := s1.toks) fun c o e=>hk c o e,zh2 l1 l2 _ _ _ _ _ ap,⟨⟨z1,z2,_,_,z3⟩,z4,z5⟩,fun c hc=>?_,q⟩
   have hc' : c = s1.heap.objs.size + 4 \/ c = s1.heap.objs.size + 3 \/ c = s1.heap.objs.size \/ c = s1.heap.objs.size + 1 \/ c = s1.heap.objs.size + 2:=by simpa using hc
   have hge : s1.heap.objs.size <= c:=by unfold Addr at *; omega
   exact I1.fpOk hge (I1.hok.fresh hge)
end L2
namespace Sm
open PySem PySem.Spec L2
abbrev SIG:=En -> AH -> Out (List AV × Option Nat × List AV)
def ybj : List AV -> List AV -> List AV
 | x :: xs,y :: ys=>.tup [x,y] :: ybj xs ys
 | _,_=>[]
def tIG (T : Tb) (it : SIG) : TI:=fun σ H R=>∃ ι h en,Sim T ι h H /\ ER T ι H en σ /\ match it en h with
 | .ok (xs,w,all) h' => ∀ ι' H' J,Grow ι H ι' H' -> Sim T ι' h' H' -> ItG T J ι' H' xs (ybi w all) -> R J H'
 | _=>False
section
variable {T : Tb} {E : St -> XK} {X : Cx} {pos px p1 p2 : Pos} {kk : Nat} {iter elt : Expr} {ifs : List Expr} {scope : Scope} {x₁ x₂ : Str} {jf : List (Nat × Str)} {it : SIG} {cc : SB} {ce : SE}
end
theorem zdG : ∀ (xs ys : List AV) (i : Nat) (z : AV),(ybj xs ys)[i]? = some z -> ∃ x y,z = .tup [x,y] /\ xs[i]? = some x /\ ys[i]? = some y
 | [],_,i,z,h=>by simp [ybj] at h
 | _ :: _,[],i,z,h=>by simp [ybj] at h
 | x :: xs,y :: ys,0,z,h=>by simp [ybj] at h; exact ⟨x,y,h.symm,rfl,rfl⟩
 | x :: xs,y :: ys,i + 1,z,h=>by simp only [ybj,List.getElem?_cons_succ] at h ⊢; exact zdG xs ys i z h
theorem zdH : ∀ (xs ys : List AV),(ybj xs ys).length = min xs.length ys.length
 | [],_=>by simp [ybj]
 | _ :: _,[]=>by simp [ybj]
 | x :: xs,y :: ys=>by simp only [ybj,List.length_cons,zdH xs ys]; omega
section
variable {T : Tb} {E : St -> XK} {X : Cx} {pos : Pos} {a b : Expr} {sa sb : SE}
end
end Sm
namespace Sm
open PySem PySem.Spec L2
section
variable {T : Tb} {E : St -> XK} {X : Cx} {a : Expr} {es : List Expr} {sa : SE}
end
@[simp] def yem (a b : SE) : SIG:=fun en h=>(a en h).bind fun v h1=>(b en h1).bind fun w h2=>match v,w with
 | .fl xs,.fl ys=>.ok (ybj xs ys,none,[]) h2
 | _,_=>.bad
def ydy (it : SIG) (t : Tg) (b : SS) : SS:=fun en h=>match it en h with
 | .ok (xs,w,all) h1=>ya7 w all t b xs en h1
 | _=>.bad
section
variable {T : Tb} {E : St -> XK} {X : Cx} {pos : Pos} {a b : Expr} {sa sb : SE} {sts : List Stmt} {s1 : SS}
theorem zbv {ι : Ix} {H : Hp} {a b : Addr} {us ws : List V} {xs ys : List AV} {K : PySem.W.Frag} (keep : ∀ (ι' : Ix) (H' : Hp),Ext ι H ι' H' -> SqL K H' a us) (r : RVs T ι H xs us) (keep2 : ∀ (ι' : Ix) (H' : Hp),Ext ι H ι' H' -> SqL K H' b ws) (r2 : RVs T ι H ys ws) : ItG T (Itz K a b) ι H (ybj xs ys) (ybi none []):=by
 refine ⟨fun i ι' h' H' z g S lv hx=>?_,fun i ι' h' H' g S lv hi=>?_⟩
 ·obtain ⟨x,y,rfl,ex,ey⟩:=zdG _ _ _ _ hx
  obtain ⟨u,e1,r1⟩:=(r.ext g).get ex
  obtain ⟨v,e2,rv⟩:=(r2.ext g).get ey
  refine ⟨⟨us,ws,u,v,keep ι' H' g,keep2 ι' H' g,e1,e2⟩,?_⟩
  rintro u2 H2 ⟨t,x2,y2,rfl,hn,rfl,hx2,hy2⟩
  have z1:=hx2 us (keep ι' H' g)
  rw [e1] at z1; cases z1
  have z2:=hy2 ws (keep2 ι' H' g)
  rw [e2] at z2; cases z2
  have g2:=S.growNew (o:=.tup [u,v]) hn
  exact ⟨g2,S.new hn,.tup (S.fresh hn) zar (.cons (r1.mono g2) (.cons (rv.mono g2) .nil))⟩
 ·rw [zdH] at hi
  exact ⟨us,ws,keep ι' H' g,keep2 ι' H' g,by rw [<- r.length,<- r2.length]; omega⟩
theorem zjc {p tp : Pos} {es : List Expr} {k : Nat} (hK : X.K = T.K) (hg : Gl X "zip") (hm : X.mg "zip" = none) (ha : PEA T E X a sa) (hb : PEA T E X b sb) (hs : starEach [a,b] X.env = [(false,eval a X.env),(false,eval b X.env)]:=by rfl) (hs2 : starEach [b] X.env = [(false,eval b X.env)]:=by rfl) :
  PI X (.Tuple es k tp) (.Call (.Name "zip" p) [a,b] [] pos) (tIG T (yem sa sb)) :=
 yds (ygR hg hm (zaa ha (zaa hb yab hs2) (by rw [hs,hs2])) hs hs2) fun σ H R ⟨ι,h,en,S,er,q⟩=>by
  unfold yem at q
  refine ⟨ι,h,en,S,er,?_⟩
  unfold sCons
  cases e : sa en h with
  | bad=>rw [e] at q; exact q
  | ex c h1=>rw [e] at q; exact q.elim
  | ok v h1 =>
   rw [e] at q
   dsimp only [Out.bind] at q ⊢
   cases e' : sb en h1 with
   | bad=>rw [e'] at q; exact q
   | ex c h1=>rw [e'] at q; exact q.elim
   | ok v' h2 =>
    rw [e'] at q
    dsimp only at q
    intro ι1 H1 u g1 S1 r1
    cases r1 with
    | cons r r' =>
     cases r' with
     | cons r2 r3 =>
      cases r3
      cases v with
      | fl xs =>
       cases v' with
       | fl ys =>
        dsimp only at q
        cases r with
        | fl m hr rs =>
         cases r2 with
         | fl m2 hr2 rs2=>exact ⟨_,_,rfl,⟨_,ya9 hK (.inl hr)⟩,⟨_,ya9 hK (.inl hr2)⟩,q ι1 H1 _ g1 S1 (hK ▸ zbv (ydX m hr) rs (ydX m2 hr2) rs2)⟩
         | kfl hr2 rs2=>exact ⟨_,_,rfl,⟨_,ya9 hK (.inl hr)⟩,⟨_,ya9 hK (.inr hr2)⟩,q ι1 H1 _ g1 S1 (hK ▸ zbv (ydX m hr) rs (fun _ _ _=>.inr hr2) rs2)⟩
        | kfl hr rs =>
         cases r2 with
         | fl m2 hr2 rs2=>exact ⟨_,_,rfl,⟨_,ya9 hK (.inr hr)⟩,⟨_,ya9 hK (.inl hr2)⟩,q ι1 H1 _ g1 S1 (hK ▸ zbv (fun _ _ _=>.inr hr) rs (ydX m2 hr2) rs2)⟩
         | kfl hr2 rs2=>exact ⟨_,_,rfl,⟨_,ya9 hK (.inr hr)⟩,⟨_,ya9 hK (.inr hr2)⟩,q ι1 H1 _ g1 S1 (hK ▸ zbv (fun _ _ _=>.inr hr) rs (fun _ _ _=>.inr hr2) rs2)⟩
       | _=>exact q.elim
      | _=>exact q.elim
theorem ygS {tg iter : Expr} {t : Tg} {it : SIG} (hc : X.calm = true) (hi : PI X.nox tg iter (tIG T it)) (hg : PGA T X.nox tg t) (hb : PSsA T EN X.nox sts s1)
  (hs : ∀ x,foldedSetIterable iter X.nox.env x = pure x:=by intro _; rfl) : PSA T E X (.For tg iter sts [] pos) (ydy it t s1):=by
 obtain ⟨g,hg1,hg2⟩:=hg
 refine ybL (yeM (yfh PassesOwn.never hc hi hg1 hb hs)) fun D σ H ⟨ι,h,en,S,er,q⟩=>⟨ι,h,en,S,er,?_⟩
 unfold ydy at q
 cases e : it en h with
 | bad=>rw [e] at q; exact q
 | ex c h1=>rw [e] at q; exact (show False from q).elim
 | ok v h1 =>
  obtain ⟨xs,w,all⟩:=v
  rw [e] at q
  intro ι1 H1 J g1 S1 IR
  exact zg6 hg2 S1 (er.mono g1) IR (PostS.shift q g1)
end
end Sm
namespace L2
open PySem PySem.Spec PyProof.Rows
section
variable {X : Cx}
theorem zg7 {its : List Value} {i j : Int} (rv : Vals [V.int i,V.int j] its) : ∃ t u,its.toArray = intItems #[(i,t),(j,u)]:=by
 cases rv with
 | cons r r' =>
  cases r' with
  | cons r1 r2 =>
   cases r2
   obtain ⟨t,rfl⟩:=r
   obtain ⟨u,rfl⟩:=r1
   exact ⟨t,u,by simp [intItems]⟩
theorem zg8 (hc : X.calm = true) : CallR X (.builtin "max") (fun xs H Q=>∃ (a : Addr) (i j : Int),xs = [.ref a] /\ SqL X.K H a [.int i,.int j] /\ Q (.int (if j > i then j else i)) H):=by
 intro pins s σ H xs us Q I r h
 obtain ⟨l,i,j,rfl,hq,q⟩:=h
 obtain ⟨u,rfl,rx⟩:=yb3 r
 cases rx
 obtain ⟨its,rv,pl,hz⟩:=I.list hq
 obtain ⟨t,u,e⟩:=zg7 rv
 have il:=pl.isList
 rw [e] at il
 refine max_intList (I.ok.hd hc) il (by simp) fun v h' tk hv k=>⟨_,H,I.kept k,?_,q⟩
 by_cases z : j > i
 ·rw [if_pos z]
  have z' : i < j:=z
  simp [intItems,argBest,numAt,z'] at hv
  exact ⟨_,hv.symm⟩
 ·rw [if_neg z]
  have z' : ¬ i < j:=z
  simp [intItems,argBest,numAt,z'] at hv
  exact ⟨_,hv.symm⟩
end
end L2
namespace Sm
open PySem PySem.Spec L2
section
variable {T : Tb} {X : Cx}
end
end Sm
namespace L2
open PySem PySem.Spec PyProof.Rows
section
variable {X : Cx}
theorem zcU (z : Str) : ∀ (cs : List Nat) (its : List Value),its.length = cs.length -> (∀ (j : Nat) (v : Value),its[j]? = some v -> ∃ (c : Nat) (u : Tok),cs[j]? = some c /\ v = Value.str ⟨#[c]⟩ u) -> Vals (cs.map fun c=>V.str ⟨#[c]⟩) its
 | [],[],_,_=>.nil
 | c :: cs,v :: its,hl,h=>by
  obtain ⟨c',u,e,rfl⟩:=h 0 v rfl
  have e' : c = c' := by simpa using e
  subst e'
  exact .cons ⟨u,rfl⟩ (zcU z cs its (by simpa using hl) fun j v hv=>h (j + 1) v (by simpa using hv))
theorem zej (hc : X.calm = true) : CallR X (.type "list") (fun xs H Q=>∃ z : Str,xs = [.str z] /\ z.length <= sizeLine /\ ∀ l,H l = none -> Q (.ref l) (upd H l (.lst (z.cps.toList.map fun c=>V.str ⟨#[c]⟩)))):=by
 intro pins s σ H xs us Q I r h
 obtain ⟨z,rfl,hz,q⟩:=h
 obtain ⟨u,rfl,t,rfl⟩:=yb3 r
 refine call_list_str (I.ok.hd hc) z t (fun h' tk acc' c' kp e it=>?_) hz
 have rv : Vals (z.cps.toList.map fun c=>V.str ⟨#[c]⟩) acc'.toList:=zcU z _ _ (by
  rw [Array.length_toList,Array.length_toList]; exact it.1) fun j v hv=>by
   obtain ⟨c,u,a,b⟩:=it.2 j v (by simpa using hv)
   exact ⟨c,u,by simpa using a,b⟩
 have lz : (z.cps.toList.map fun c=>V.str ⟨#[c]⟩).length <= sizeLine:=by
  rw [List.length_map,Array.length_toList]; exact hz
 exact ⟨.ref s.heap.objs.size,_,I.laid (t' := tk) kp (Nat.le_refl _) (show ObjOk X.prog X.w _ h' _ (.lst (z.cps.toList.map fun c=>V.str ⟨#[c]⟩)) from ⟨lz,acc'.toList,c',rv,by simpa using e⟩),rfl,q _ (I.hok.fresh (Nat.le_refl _))⟩
end
end L2
namespace Sm
open PySem PySem.Spec L2
@[simp] def yeV : Fn:=fun args h=>match args with
 | [.str z]=>.ok (.fl (z.cps.toList.map fun c=>.str ⟨#[c]⟩)) h
 | [.tup xs]=>.ok (.fl xs) h
 | [.fl xs]=>.ok (.fl xs) h
 | [.ref n]=>match h[n]? with
  | some (.lst xs)=>.ok (.fl xs) h
  | _=>.bad
 | _=>.bad
section
variable {T : Tb} {X : Cx}
theorem zek {ι : Ix} {H : Hp} : ∀ (cs : List Nat),(∀ c ∈ cs,c < 0x110000) -> RVs T ι H (cs.map fun c=>AV.str ⟨#[c]⟩) (cs.map fun c=>V.str ⟨#[c]⟩)
 | [],_=>.nil
 | c :: cs,h=>.cons (.str (show (1 : Nat) <= sizeLine by decide) (by
   have:=h c (List.mem_cons_self ..)
   simp [this])) (zek cs fun d hd=>h d (List.mem_cons_of_mem _ hd))
theorem zjd (hK : X.K = T.K) (hc : X.calm = true:=by rfl) : ∃ r,CallR X (.type "list") r /\ ycE T yeV r:=by
 refine ⟨_,(zej hc).or zd9,fun ι h H xs us E Q S r q=>?_⟩
 unfold yeV at q
 split at q
 ·cases r with
  | cons r r' =>
   cases r'
   cases r with
   | str n o =>
    refine .inl ⟨_,rfl,n,fun l nn=>ycJ S (zek _ fun c hcc=>?_) nn q⟩
    have:=Array.all_eq_true_iff_forall_mem.mp o c (by simpa using hcc)
    simpa using this
 ·cases r with
  | cons r r' =>
   cases r'
   obtain ⟨a,us,rfl,sq,rs⟩:=ycI r
   exact .inr ⟨a,us,rfl,.inr (hK ▸ sq),fun l n=>ycJ S rs n q⟩
 ·cases r with
  | cons r r' =>
   cases r'
   obtain ⟨a,us,rfl,sq,rs⟩:=yba S r rfl
   exact .inr ⟨a,us,rfl,.inl (hK ▸ sq),fun l n=>ycJ S rs n q⟩
 ·cases r with
  | cons r r' =>
   cases r'
   split at q
   ·rename_i xs hn
    obtain ⟨a,us,rfl,sq,rs⟩:=yba (xs:=xs) S r (by simp [ya5,hn])
    exact .inr ⟨a,us,rfl,.inl (hK ▸ sq),fun l n=>ycJ S rs n q⟩
   ·exact q.elim
 ·exact q.elim
end
end Sm
namespace L2
open PySem PySem.Spec PyProof.Rows
namespace HT
section
variable {prog : Program} {w : World} {A : Around} {E : Value -> Shared -> Prop} {s : Shared}
end
end HT
section
variable {X : Cx}
end
end L2
namespace Sm
open PySem PySem.Spec L2
section
variable {T : Tb} {E : St -> XK} {X : Cx} {pos : Pos} {a : Expr} {sa : SE}
end
end Sm
namespace L2
open PySem PySem.Spec
theorem Room.m {j k : Nat} {A : Around} (hr : Room k A) (h : Nat.ble j k = true:=by rfl) : Room j A:=hr.mono (Nat.le_of_ble_eq_true h)
end L2
namespace Sm
open PySem PySem.Spec L2
def DK (K : PySem.W.Frag) (x : Str) (st : Stmt) : Prop:=∃ f fd,PySem.W.nsIn K mainGlobals x = some (some (.ref f)) /\ Fun K x x st f fd
def DN (K : PySem.W.Frag) (C : Addr) (m q : Str) (st : Stmt) : Prop:=∃ f fd,Meth K C m f /\ Fun K m q st f fd
def DMm (K : PySem.W.Frag) (cls : Nat -> Option Addr) (c : Nat) (m q : Str) (st : Stmt) (ps : List Str) : Prop:=∃ C f fd,cls c = some C /\ Cls K C /\ Meth K C m f /\ Binds K fd ps [] /\ Fun K m q st f fd
def DI (K : PySem.W.Frag) (cls : Nat -> Option Addr) (mg : Str -> Option Value) (c : Nat) (x q : Str) (st : Stmt) (ps : List Str) : Prop:=∃ C f fd,cls c = some C /\ mg x = some (.ref C) /\ Mk K C f /\ Binds K fd ps [] /\ Fun K "__init__" q st f fd
section
variable {P : Program} {w : World} {K : PySem.W.Frag} {mg : Str -> Option Value} {base h : Heap} {T : Tb} {x m q : Str} {st : Stmt} {f C : Addr} {N ps : List Str} {k c : Nat} {b : SS} {cls : Nat -> Option Addr}
section
variable {oc : Value} {od an : Option Addr} {osl : Array (Option Value)} {kV doc pm cdv ct : Value}
theorem dk (a : PySem.W.nsIn K mainGlobals x = some (some (.ref f))) (l : K.lookup f = some ⟨oc,od,.func (PySem.W.fnOf x x (ycx st) (ybN st) (yag st) .none kV doc pm an cdv ct),osl⟩)
  (c : PySem.W.codeIn K cdv x = true) (k : PySem.W.keepIn K (.ref f) = true) : DK K x st:=⟨f,_,a,yfm l c k⟩
theorem dn (a : PySem.W.findIn K (.ref C) m = some (some (.ref f))) (i : PySem.W.isFn K (.ref f) = true) (l : K.lookup f = some ⟨oc,od,.func (PySem.W.fnOf m q (ycx st) (ybN st) (yag st) .none kV doc pm an cdv ct),osl⟩)
  (c : PySem.W.codeIn K cdv q = true) (k : PySem.W.keepIn K (.ref f) = true) : DN K C m q st:=⟨f,_,⟨a,i,k⟩,yfm l c k⟩
end
abbrev BA (x q : Str) (st : Stmt) (us : List Value) (r : List (Str × Value)) : Prop:=∀ (kV doc pm : Value) (an : Option Addr) (cdv ct : Value),bindArgs (PySem.W.fnOf x q (ycx st) (ybN st) (yag st) .none kV doc pm an cdv ct) ⟨us,[]⟩ = pure r
def BL (x q : Str) (st : Stmt) (ps : List Str) : Prop:=∀ (us : List Value),us.length = ps.length -> BA x q st us (ps.zip us)
theorem bl1 {p1 : Str} (h : ∀ a,BA x q st [a] [(p1,a)]:=by exact fun _ _ _ _ _ _ _=>rfl) : BL x q st [p1]:=fun us e=>by obtain ⟨_,rfl⟩:=el1 e; exact h _
theorem bl2 {p1 p2 : Str} (h : ∀ a b,BA x q st [a,b] [(p1,a),(p2,b)]:=by exact fun _ _ _ _ _ _ _ _=>rfl) : BL x q st [p1,p2]:=fun us e=>by obtain ⟨_,_,rfl⟩:=el2 e; exact h _ _
theorem bl3 {p1 p2 p3 : Str} (h : ∀ a b c,BA x q st [a,b,c] [(p1,a),(p2,b),(p3,c)]:=by exact fun _ _ _ _ _ _ _ _ _=>rfl) : BL x q st [p1,p2,p3]:=fun us e=>by obtain ⟨_,_,_,rfl⟩:=el3 e; exact h _ _ _
theorem bl4 {p1 p2 p3 p4 : Str} (h : ∀ a b c d,BA x q st [a,b,c,d] [(p1,a),(p2,b),(p3,c),(p4,d)]:=by exact fun _ _ _ _ _ _ _ _ _ _=>rfl) : BL x q st [p1,p2,p3,p4]:=fun us e=>by obtain ⟨_,_,_,_,rfl⟩:=el4 e; exact h _ _ _ _
theorem dg (X : K.In h) (G : h.Ns mainGlobals mg) (d : DK K x st) (hb : BL x x st ps) : DG K mg x st ps:=by
 obtain ⟨f,fd,a,F⟩:=d
 exact ⟨f,fd,PySem.W.mg_of X G a,F.kp,F.binds fun _ _ _ _ _ _ us hl=>hb us hl _ _ _ _ _ _,F⟩
theorem dm (hc : cls c = some C) (k : Cls K C) (d : DN K C m q st) (hb : BL m q st ps) : DMm K cls c m q st ps:=by
 obtain ⟨f,fd,M,F⟩:=d
 exact ⟨C,f,fd,hc,k,M,F.binds fun _ _ _ _ _ _ us hl=>hb us hl _ _ _ _ _ _,F⟩
theorem di (hc : cls c = some C) (hx : mg x = some (.ref C)) (mk : PySem.W.makesIn K C = true) (kc : PySem.W.keepIn K (.ref C) = true) (d : DN K C "__init__" q st) (hb : BL "__init__" q st ps) : DI K cls mg c x q st ps:=by
 obtain ⟨f,fd,M,F⟩:=d
 exact ⟨C,f,fd,hc,hx,⟨mk,M.at_,M.fn,kc⟩,F.binds fun _ _ _ _ _ _ us hl=>hb us hl _ _ _ _ _ _,F⟩
theorem dlaw {fa : Addr} {p : Str} (X : K.In h) (G : h.Ns mainGlobals mg) (hfa : mg x = some (.ref fa)) (d : DK K x st) (hb : BL x x st [p]) : ∃ fd : FuncData,(∀ (s : Shared) (v : Value),BindsTo s fd ⟨[v],[]⟩ [(p,v)]) /\ Fun K x x st fa fd:=by
 obtain ⟨f,fd,a,F⟩:=d
 have e:=hfa.symm.trans (PySem.W.mg_of X G a)
 cases e
 refine ⟨fd,fun s v=>?_,F⟩
 obtain ⟨oc,od,kV,doc,pm,an,cdv,ct,osl,rfl,lk,hcd⟩:=F.ex
 exact .of_eq (hb [v] rfl _ _ _ _ _ _)
theorem fsk {sc : Scope} (h1 : sc.kind = .function:=by rfl) (h2 : sc.isCoroutine = false:=by rfl) (h3 : sc.isGenerator = false:=by rfl) (h4 : N.Nodup:=by decide +kernel) (h5 : N.take ps.length = ps:=by rfl)
  (h6 : ∀ x ∈ ps,sc.names.lookup x = some .local \/ sc.names.lookup x = some .cell:=by decide +kernel) (h7 : ∀ y ∈ sc.names,y.2 ≠ .free:=by decide +kernel) : FnScope N ps sc:=⟨h1,h2,h3,h4,h5,h6,h7⟩
abbrev yeI (P : Program) (w : World) (mg : Str -> Option Value) (base : Heap) (T : Tb) (q : Str) (st : Stmt) (f : Addr) (N : List Str) (k : Nat) (b : SS) : Prop :=
 ∀ {cdv : Value} {A : Around} {outer : List Env} {s : Shared} {H : Hp} {E : XK},Room k (A.deeper (PyProof.Rows.envOfC q (yag st) s.heap.objs.size f cdv)) -> CA T (fun _=>E) (cxOf (CXE P w) P w T.K mg base N q (yag st) f cdv A outer s H E) ->
  (A.deeper (PyProof.Rows.envOfC q (yag st) s.heap.objs.size f cdv)).units + 64 < cLine -> N.Nodup -> PSsA T (fun _=>E) (cxOf (CXE P w) P w T.K mg base N q (yag st) f cdv A outer s H E) (ybN st) b
theorem gf (d : DG T.K mg x st ps) (S : FnScope N ps (yag st)) (hb : ∀ {f},yeI P w mg base T x st f N k b) : GF P w T mg base (k + 1) x (mkFn ps.length N.length b):=by
 obtain ⟨f,fd,h1,h2,h3,h4⟩:=d
 exact ⟨f,fd,_,h1,h2,h3,okA h4 rfl S fun cdv A outer s H E hr C=>hb hr C (hu64 hr) S.nd⟩
theorem gm (d : DMm T.K T.cls c m q st ps) (S : FnScope N ps (yag st)) (no : m ∉ T.fields c) (hb : ∀ {f},yeI P w mg base T q st f N k b) : GM P w T mg base (k + 1) c m (mkFn ps.length N.length b):=by
 obtain ⟨C,f,fd,h0,hc,h1,h3,h4⟩:=d
 exact ⟨⟨C,f,fd,_,h0,hc,h1,h3,okA h4 rfl S fun cdv A outer s H E hr C=>hb hr C (hu64 hr) S.nd⟩,no⟩
theorem gk (d : DI T.K T.cls mg c x q st ps) (S : FnScope N ps (yag st)) (hb : ∀ {f},yeI P w mg base T q st f N k b) : GK P w T mg base (k + 1) c x (mkFn ps.length N.length b):=by
 obtain ⟨C,f,fd,h0,h1,h2,h3,h4⟩:=d
 exact ⟨C,f,fd,_,h0,h1,h2,h3,okA h4 rfl S fun cdv A outer s H E hr C=>hb hr C (hu64 hr) S.nd⟩
theorem gl {f : Addr} {fd : FuncData} (h4 : Fun T.K x x st f fd) (S : FnScope N ps (yag st)) (hb : yeI P w mg base T x st f N k b) : FnOk P w T.K mg base (CXE P w) (k + 1) f fd ps (spA T (mkFn ps.length N.length b)) :=
 okA h4 rfl S fun cdv A outer s H E hr C=>hb hr C (hu64 hr) S.nd
def XI (K : PySem.W.Frag) (X : Addr) : Prop:=PySem.W.excIn K X [.type "ValueError",.type "Exception",.type "BaseException",.type "object"] "ValueError.__new__" = true
theorem xi {X : Addr} (h : PySem.W.excIn K X [.type "ValueError",.type "Exception",.type "BaseException",.type "object"] "ValueError.__new__" = true) : XI K X:=h
theorem gx {X : Addr} {n : Nat} {g : Heap} (KB : K.In g) (KX : K.In h) (G : h.Ns mainGlobals mg) (hc : T.exc n = some X) (e : PySem.W.nsIn K mainGlobals x = some (some (.ref X))) (hx : XI K X) : GX T mg g n x:=⟨X,hc,zhX KB (PySem.W.mg_of KX G e) hx⟩
def NA (K : PySem.W.Frag) (x : Str) (v : Option Value) : Prop:=PySem.W.nsIn K mainGlobals x = some v
theorem na {v : Option Value} (h : PySem.W.nsIn K mainGlobals x = some v) : NA K x v:=h
def FA (K : PySem.W.Frag) (C : Addr) (x : Str) : Prop:=PySem.W.findIn K (.ref C) x = some none
theorem fatt (h : PySem.W.findIn K (.ref C) x = some none) : FA K C x:=h
end
end Sm
namespace L2
open PySem PySem.Spec PyProof.Rows
def yb9 (h : Heap) (z TI TO T : Addr) (f : Bool) : Prop:=h.get? z = some { cls:=.type "zip",dict:=none,data:=.fields #[rawInt T,.bool f,.bool false,.ref TI,.ref TO],slots:=#[] }
section
variable {prog : Program} {w : World} {A : Around} {E : Value -> Shared -> Prop} {s : Shared}
theorem zdI {z TI TO T : Addr} {f : Bool} {oT : Obj} {Q : Bool -> Shared -> Prop} (hz : yb9 s.heap z TI TO T f) (hT : s.heap.get? T = some oT)
  (h : ∀ h',yb9 h' z TI TO T true -> Heap.SameBut z s.heap h' -> Q false { s with heap:=h' }) : wpAny (model prog w) A (Builtin.SmallTypes.ownedTupleIsFree (.ref z)) Q E s:=by
 unfold Builtin.SmallTypes.ownedTupleIsFree
 refine wpAny_bind (wpAny_field hz rfl (x:=rawInt T) rfl ?_)
 show wpAny _ _ (loadIfAlive ((T : Int).toNat) >>= _) _ _ _
 rw [Int.toNat_natCast]
 refine wpAny_bind (PySem.W.kdx_alive hT ?_)
 simp only [Option.isNone_some,Bool.false_eq_true,if_false]
 refine wpAny_bind (wpAny_field hz rfl (x:=.bool f) rfl ?_)
 cases f with
 | true =>
  rw [if_neg (show ¬ ((Value.bool true != Value.bool true) = true) from Bool.false_ne_true)]
  exact wpAny_pure (h _ hz (Heap.SameBut.refl _ _))
 | false =>
  rw [if_pos (show (Value.bool false != Value.bool true) = true from rfl)]
  exact wpAny_bind (wpAny_setField_rec hz (by simp) fun h₃ he₃ hs₃=>wpAny_pure (h _ he₃ hs₃))
theorem zel {z TI TO T i1 i2 l1 l2 : Addr} {f : Bool} {oT : Obj} {k1 k2 : Nat} {xs ys : Array Value} {x y : Value} {Q : Value -> Shared -> Prop} (D : ZipApart z TI TO i1 i2 l1 l2)
  (hz : yb9 s.heap z TI TO T f) (hT : s.heap.get? T = some oT) (hTI : IsPair s.heap TI (.ref i1) (.ref i2))
  (h1 : s.heap.IsListIter i1 l1 k1) (h2 : s.heap.IsListIter i2 l2 k2) (hl1 : s.heap.IsList l1 xs) (hl2 : s.heap.IsList l2 ys) (hx : xs[k1]? = some x) (hy : ys[k2]? = some y)
  (hQ : ∀ h',yb9 h' z TI TO T true -> h'.IsListIter i1 l1 (k1 + 1) -> h'.IsListIter i2 l2 (k2 + 1) -> IsPair h' s.heap.objs.size x y -> h'.objs.size = s.heap.objs.size + 1 ->
   (∀ c o,c ≠ z -> c ≠ i1 -> c ≠ i2 -> s.heap.get? c = some o -> h'.get? c = some o) -> Q (.ref s.heap.objs.size) { s with heap:=h' }) :
  wpAny (model prog w) A (Builtin.«zip.__next__» ⟨[.ref z],[]⟩) (fun fin s' => ∃ v,fin = .done (.ret v) /\ Q v s') E s:=by
 show wpAny _ _ (field (.ref z) 2 >>= _) _ _ _
 refine wpAny_bind (wpAny_field hz rfl (x:=.bool false) rfl ?_)
 show wpAny _ _ (field (.ref z) 3 >>= _) _ _ _
 refine wpAny_bind (wpAny_field hz rfl (x:=.ref TI) rfl ?_)
 refine wpAny_bind (wpAny_seqItems hTI rfl ?_)
 show wpAny _ _ (Builtin.SmallTypes.ownedTupleIsFree (.ref z) >>= _) _ _ _
 refine wpAny_bind (zdI hz hT fun h₁ hz₁ hs₁=>?_)
 simp only [Bool.false_eq_true,if_false]
 refine wpAny_bind ?_
 simp only [<- Array.forIn_toList,List.forIn_cons,List.forIn_nil]
 refine wpAny_bind (wpAny_bind (wpAny_holding ?_))
 show wpAny _ _ (Builtin.SmallTypes.nextOf (.ref i1) >>= _) _ _ _
 refine wpAny_bind (wpAny_nextOf_list_item (h1.extBut hs₁.extBut D.i1z) (hl1.extBut hs₁.extBut D.l1z) hx fun h₂ h1₂ hs₂=>wpAny_pure ?_)
 refine wpAny_pure ?_
 dsimp only
 refine wpAny_bind (wpAny_bind (wpAny_holding ?_))
 show wpAny _ _ (Builtin.SmallTypes.nextOf (.ref i2) >>= _) _ _ _
 refine wpAny_bind (wpAny_nextOf_list_item ((h2.extBut hs₁.extBut D.i2z).extBut hs₂.extBut D.i12.symm)
  ((hl2.extBut hs₁.extBut D.l2z).extBut hs₂.extBut D.l2i1) hy fun h₄ h2₄ hs₄=>wpAny_pure ?_)
 refine wpAny_pure (wpAny_pure ?_)
 show wpAny _ _ (newTuple [x,y] >>= _) _ _ _
 refine wpAny_bind (wpAny_newTuple ?_)
 have hsz : h₄.objs.size = s.heap.objs.size:=by rw [hs₄.1,hs₂.1,hs₁.1]
 have up : ∀ c o,h₄.get? c = some o -> (h₄.push { cls:=.type "tuple",data:=.seq #[x,y] }).get? c = some o:=fun c o e=>Heap.get?_push_of_some _ e
 refine wpAny_pure ⟨_,rfl,?_⟩
 show Q (.ref h₄.objs.size) _
 have hp : IsPair (h₄.push { cls:=.type "tuple",data:=.seq #[x,y] }) h₄.objs.size x y:=Heap.get?_push_size _ rfl
 rw [hsz] at hp ⊢
 refine hQ _ (up _ _ (hs₄.extBut _ _ D.i2z.symm (hs₂.extBut _ _ D.i1z.symm hz₁))) ((h1₂.extBut hs₄.extBut D.i12).at fun o e=>up _ o e) (h2₄.at fun o e=>up _ o e) hp (by rw [Heap.size_push,hsz]) fun c o c1 c3 c4 e=>up c o (hs₄.extBut _ _ c4 (hs₂.extBut _ _ c3 (hs₁.extBut _ _ c1 e)))
theorem zeT {z TI TO T i1 i2 l1 l2 : Addr} {f : Bool} {oT : Obj} {k1 k2 : Nat} {xs ys : Array Value} {Q : Fin -> Shared -> Prop} (hh : A.handled = none) (D : ZipApart z TI TO i1 i2 l1 l2)
  (hz : yb9 s.heap z TI TO T f) (hT : s.heap.get? T = some oT) (hTI : IsPair s.heap TI (.ref i1) (.ref i2))
  (h1 : s.heap.IsListIter i1 l1 k1) (h2 : s.heap.IsListIter i2 l2 k2) (hl1 : s.heap.IsList l1 xs) (hl2 : s.heap.IsList l2 ys) (hend : xs[k1]? = none \/ ys[k2]? = none)
  (hE : ∀ h' e,(∀ c o,c ≠ z -> c ≠ i1 -> c ≠ i2 -> s.heap.get? c = some o -> h'.get? c = some o) -> (∃ o,h'.get? e = some o /\ o.cls = .type "StopIteration") -> E (.ref e) { s with heap:=h' }) :
  wpAny (model prog w) A (Builtin.«zip.__next__» ⟨[.ref z],[]⟩) Q E s:=by
 show wpAny _ _ (field (.ref z) 2 >>= _) _ _ _
 refine wpAny_bind (wpAny_field hz rfl (x:=.bool false) rfl ?_)
 show wpAny _ _ (field (.ref z) 3 >>= _) _ _ _
 refine wpAny_bind (wpAny_field hz rfl (x:=.ref TI) rfl ?_)
 refine wpAny_bind (wpAny_seqItems hTI rfl ?_)
 show wpAny _ _ (Builtin.SmallTypes.ownedTupleIsFree (.ref z) >>= _) _ _ _
 refine wpAny_bind (zdI hz hT fun h₁ hz₁ hs₁=>?_)
 simp only [Bool.false_eq_true,if_false]
 refine wpAny_bind ?_
 simp only [<- Array.forIn_toList,List.forIn_cons,List.forIn_nil]
 refine wpAny_bind (wpAny_bind (wpAny_holding ?_))
 show wpAny _ _ (Builtin.SmallTypes.nextOf (.ref i1) >>= _) _ _ _
 cases hx : xs[k1]? with
 | none =>
  exact wpAny_bind (wpAny_nextOf_list_end hh (h1.extBut hs₁.extBut D.i1z) (hl1.extBut hs₁.extBut D.l1z) hx fun h₂ e hs₂ he=>hE h₂ e (fun c o c1 c3 _ x=>hs₂ _ _ c3 (hs₁.extBut _ _ c1 x)) he)
 | some x =>
  have hy : ys[k2]? = none:=by rcases hend with h | h; rw [hx] at h; cases h; exact h
  refine wpAny_bind (wpAny_nextOf_list_item (h1.extBut hs₁.extBut D.i1z) (hl1.extBut hs₁.extBut D.l1z) hx fun h₂ h1₂ hs₂=>wpAny_pure ?_)
  refine wpAny_pure ?_
  dsimp only
  refine wpAny_bind (wpAny_bind (wpAny_holding ?_))
  show wpAny _ _ (Builtin.SmallTypes.nextOf (.ref i2) >>= _) _ _ _
  exact wpAny_bind (wpAny_nextOf_list_end hh ((h2.extBut hs₁.extBut D.i2z).extBut hs₂.extBut D.i12.symm)
   ((hl2.extBut hs₁.extBut D.l2z).extBut hs₂.extBut D.l2i1) hy fun h₄ e hs₄ he=>hE h₄ e (fun c o c1 c3 c4 x=>hs₄ _ _ c4 (hs₂.extBut _ _ c3 (hs₁.extBut _ _ c1 x))) he)
theorem zdX {z TI TO T i1 i2 l1 l2 : Addr} {f : Bool} {oT : Obj} {k1 k2 : Nat} {xs ys : Array Value} {x y : Value} {Q : Option Value -> Shared -> Prop} (D : ZipApart z TI TO i1 i2 l1 l2)
  (hz : yb9 s.heap z TI TO T f) (hT : s.heap.get? T = some oT) (hTI : IsPair s.heap TI (.ref i1) (.ref i2))
  (h1 : s.heap.IsListIter i1 l1 k1) (h2 : s.heap.IsListIter i2 l2 k2) (hl1 : s.heap.IsList l1 xs) (hl2 : s.heap.IsList l2 ys) (hx : xs[k1]? = some x) (hy : ys[k2]? = some y)
  (hQ : ∀ h',yb9 h' z TI TO T true -> h'.IsListIter i1 l1 (k1 + 1) -> h'.IsListIter i2 l2 (k2 + 1) -> IsPair h' s.heap.objs.size x y -> h'.objs.size = s.heap.objs.size + 1 ->
   (∀ c o,c ≠ z -> c ≠ i1 -> c ≠ i2 -> s.heap.get? c = some o -> h'.get? c = some o) -> Q (some (.ref s.heap.objs.size)) { s with heap:=h' }) :
  wpAny (model prog w) A (pyNext (.ref z)) Q E s:=by
 have hT' : s.TypeIs (.ref z) "zip" := ⟨_,hz,rfl⟩
 unfold pyNext
 exact wpAny_bind (wpAny_attempt (wpAny_callSpecial?_slot (name:=Str.ofString "__next__") hT' F.slot_zip_next
  (wpAny_call_entry F.slot_zip_next hT' F.entry_zip_next
   (zel D hz hT hTI h1 h2 hl1 hl2 hx hy fun h' a1 a3 a4 a5 a6 a7=>wpAny_pure (hQ h' a1 a3 a4 a5 a6 a7)) (F.args_zip_next_1 _))))
theorem zem {z TI TO T i1 i2 l1 l2 : Addr} {f : Bool} {oT : Obj} {k1 k2 : Nat} {xs ys : Array Value} {Q : Option Value -> Shared -> Prop} (hh : A.handled = none) (D : ZipApart z TI TO i1 i2 l1 l2)
  (hz : yb9 s.heap z TI TO T f) (hT : s.heap.get? T = some oT) (hTI : IsPair s.heap TI (.ref i1) (.ref i2))
  (h1 : s.heap.IsListIter i1 l1 k1) (h2 : s.heap.IsListIter i2 l2 k2) (hl1 : s.heap.IsList l1 xs) (hl2 : s.heap.IsList l2 ys) (hend : xs[k1]? = none \/ ys[k2]? = none)
  (hQ : ∀ h',(∀ c o,c ≠ z -> c ≠ i1 -> c ≠ i2 -> s.heap.get? c = some o -> h'.get? c = some o) -> Q none { s with heap:=h' }) : wpAny (model prog w) A (pyNext (.ref z)) Q E s:=by
 have hT' : s.TypeIs (.ref z) "zip" := ⟨_,hz,rfl⟩
 unfold pyNext
 refine wpAny_bind (wpAny_attempt (wpAny_callSpecial?_slot (name:=Str.ofString "__next__") hT' F.slot_zip_next
  (wpAny_call_entry F.slot_zip_next hT' F.entry_zip_next (zeT hh D hz hT hTI h1 h2 hl1 hl2 hend fun h' e hk he=>?_) (F.args_zip_next_1 _))))
 obtain ⟨o,ho,hc⟩:=he
 refine wpAny_bind (wpAny_isInstance (T := "StopIteration") (b:=true) ⟨o,ho,hc⟩ isSubtype_stop ?_)
 exact wpAny_pure (hQ _ hk)
end
section
variable {prog : Program} {w : World} {A : Around} {E : Value -> Shared -> Prop} {s : Shared} {S z TI TO i1 i2 l1 l2 B : Addr} {xs ys : List Value}
def ydO (xs ys : List Value) (B : Addr) (h : Heap) (as : List Addr) : Prop:=as.Nodup /\ ∀ (j : Nat) (a : Addr),as[j]? = some a -> B <= a /\ a < h.objs.size /\ ∃ x y,xs[j]? = some x /\ ys[j]? = some y /\ IsPair h a x y
def yd0 (S z TO i1 i2 : Addr) (h h' : Heap) : Prop:=∀ b o,b ≠ S -> b ≠ z -> b ≠ TO -> b ≠ i1 -> b ≠ i2 -> h.get? b = some o -> h'.get? b = some o
structure ZLow (S z TI TO i1 i2 l1 l2 B : Addr) : Prop where
 ap : ZipApart z TI TO i1 i2 l1 l2
 s1 : S ≠ z
 s2 : S ≠ TO
 s3 : S ≠ i1
 s4 : S ≠ i2
 s5 : S ≠ l1
 s6 : S ≠ l2
 s7 : S ≠ TI
 b0 : S < B
 b1 : z < B
 b2 : TO < B
 b3 : i1 < B
 b4 : i2 < B
theorem zh3 {R : Result -> Shared -> Prop} (hh : A.handled = none) (L : ZLow S z TI TO i1 i2 l1 l2 B) (hn : xs.length <= sizeLine) (res : Value) {h₁ : Heap}
  (hl1 : h₁.IsList l1 xs.toArray) (hl2 : h₁.IsList l2 ys.toArray) (hTI : IsPair h₁ TI (.ref i1) (.ref i2))
  (hR : ∀ h' tk acc c as,yd0 S z TO i1 i2 h₁ h' -> h'.get? S = some { cls:=.type "list",dict:=none,data:=.seq acc c,slots:=#[] } -> as.length = min xs.length ys.length -> ydO xs ys B h' as -> acc.toList = as.map Value.ref -> R (.ok (.ret res)) { s with heap:=h',toks:=tk }) :
  ∀ (k i : Nat) (h : Heap) (tk c : Nat) (acc : Array Value) (as : List Addr),min xs.length ys.length - i = k -> i <= min xs.length ys.length -> yd0 S z TO i1 i2 h₁ h ->
   ((IsZip h z TI TO .none /\ ∃ a b,IsPair h TO a b) \/ ∃ T f oT,yb9 h z TI TO T f /\ h.get? T = some oT /\ B <= T) -> h.IsListIter i1 l1 i -> h.IsListIter i2 l2 i ->
   h.get? S = some { cls:=.type "list",dict:=none,data:=.seq acc c,slots:=#[] } -> acc.toList = as.map Value.ref -> as.length = i -> ydO xs ys B h as -> B <= h.objs.size ->
   codeAny (model prog w) A (.builtin "list.extend.loop" ⟨[.ref S,.ref z,res],[]⟩) R { s with heap:=h,toks:=tk }:=by
 have D:=L.ap
 have far : ∀ {b : Addr},B <= b -> b ≠ S /\ b ≠ z /\ b ≠ TO /\ b ≠ i1 /\ b ≠ i2:=fun hb=>⟨Nat.ne_of_gt (Nat.lt_of_lt_of_le L.b0 hb),Nat.ne_of_gt (Nat.lt_of_lt_of_le L.b1 hb),Nat.ne_of_gt (Nat.lt_of_lt_of_le L.b2 hb),Nat.ne_of_gt (Nat.lt_of_lt_of_le L.b3 hb),Nat.ne_of_gt (Nat.lt_of_lt_of_le L.b4 hb)⟩
 have lists : ∀ {h : Heap},yd0 S z TO i1 i2 h₁ h -> h.IsList l1 xs.toArray /\ h.IsList l2 ys.toArray /\ IsPair h TI (.ref i1) (.ref i2):=fun {h} K =>
  ⟨let ⟨o,ho,r⟩:=hl1; ⟨o,K l1 o L.s5.symm D.l1z D.l1TO D.l1i1 D.l1i2 ho,r⟩,let ⟨o,ho,r⟩:=hl2; ⟨o,K l2 o L.s6.symm D.l2z D.l2TO D.l2i1 D.l2i2 ho,r⟩,K TI _ L.s7.symm D.TIz D.TITO D.TIi1 D.TIi2 hTI⟩
 intro k
 induction k with
 | zero =>
  intro i h tk c acc as hk hi K hst hi1 hi2 hS hacc hal hG hB
  obtain ⟨q1,q2,q3⟩:=lists K
  have hend : xs.toArray[i]? = none \/ ys.toArray[i]? = none:=by
   rcases Nat.le_total xs.length ys.length with e | e
   ·exact .inl (by simp; omega)
   ·exact .inr (by simp; omega)
  refine codeAny_builtin PySem.F.entry_extend_loop ?_
  rw [Around.under_plainId PySem.F.plain_extend_loop _]
  show wpAny _ A.in1 (pyNext (.ref z) >>= _) _ _ _
  have fin : ∀ h',(∀ c o,c ≠ z -> c ≠ TO -> c ≠ i1 -> c ≠ i2 -> h.get? c = some o -> h'.get? c = some o) -> R (.ok (.ret res)) { s with heap:=h',toks:=tk }:=fun h' kp=>by
   refine hR h' tk acc c as (fun b o e0 e1 e2 e3 e4 e=>kp b o e1 e2 e3 e4 (K b o e0 e1 e2 e3 e4 e)) (kp S _ L.s1 L.s2 L.s3 L.s4 hS) (by omega) ⟨hG.1,fun j a hj=>?_⟩ hacc
   obtain ⟨b1,b2,x,y,e1,e2,e3⟩:=hG.2 j a hj
   obtain ⟨f0,f1,f2,f3,f4⟩:=far b1
   have e4:=kp a _ f1 f2 f3 f4 e3
   exact ⟨b1,Heap.lt_size e4,x,y,e1,e2,e4⟩
  rcases hst with ⟨hz,a,b,hTO⟩ | ⟨T,f,oT,hz,hT,hB'⟩
  ·exact wpAny_bind (wpAny_pyNext_zip_end (s:={ s with heap:=h,toks:=tk }) (A:=A.in1) hh D hz q3 hTO hi1 hi2 q1 q2 hend fun h' kp=>wpAny_pure (fin h' kp))
  ·exact wpAny_bind (zem (s:={ s with heap:=h,toks:=tk }) (A:=A.in1) hh D hz hT q3 hi1 hi2 q1 q2 hend fun h' kp=>wpAny_pure (fin h' fun c o e1 e2 e3 e4 e=>kp c o e1 e3 e4 e))
 | succ k ih =>
  intro i h tk c acc as hk hi K hst hi1 hi2 hS hacc hal hG hB
  obtain ⟨q1,q2,q3⟩:=lists K
  have hlt : i < min xs.length ys.length:=by omega
  have hx : xs.toArray[i]? = some (xs[i]'(by omega)):=by rw [List.getElem?_toArray]; exact List.getElem?_eq_getElem _
  have hy : ys.toArray[i]? = some (ys[i]'(by omega)):=by rw [List.getElem?_toArray]; exact List.getElem?_eq_getElem _
  have hsz : acc.size = i:=by rw [<- Array.length_toList,hacc,List.length_map,hal]
  refine codeAny_builtin PySem.F.entry_extend_loop ?_
  rw [Around.under_plainId PySem.F.plain_extend_loop _]
  show wpAny _ A.in1 (pyNext (.ref z) >>= _) _ _ _
  have go : ∀ h',(∃ T f oT,yb9 h' z TI TO T f /\ h'.get? T = some oT /\ B <= T) -> h'.IsListIter i1 l1 (i + 1) -> h'.IsListIter i2 l2 (i + 1) -> IsPair h' h.objs.size (xs[i]'(by omega)) (ys[i]'(by omega)) -> h'.objs.size = h.objs.size + 1 -> (∀ c o,c ≠ z -> c ≠ TO -> c ≠ i1 -> c ≠ i2 -> h.get? c = some o -> h'.get? c = some o) ->
    wpAny (model prog w) A.in1 (updateSeq S (·.push (Value.ref h.objs.size)) >>= fun _=>again (.builtin "list.extend.loop" ⟨[.ref S,.ref z,res],[]⟩)) (fun fin s' => match fin with | .done f=>R (.ok f) s' | .again c' => c'.quiet = true /\ codeAny (model prog w) A c' R s') (fun e s' => R (.error e) s') { s with heap:=h',toks:=tk }:=by
   intro h' ⟨T,f,oT,hz,hT,hB'⟩ j1 j2 pr sz kp
   have hS' := kp S _ L.s1 L.s2 L.s3 L.s4 hS
   have up : ∀ b o,b ≠ S -> h'.get? b = some o -> (h'.update S (Obj.mapSeq (·.push (Value.ref h.objs.size)))).get? b = some o:=fun b o hb e=>(Heap.get?_update_other _ _ (Ne.symm hb)).trans e
   have zz : (h'.update S (Obj.mapSeq (·.push (Value.ref h.objs.size)))).objs.size = h.objs.size + 1:=by rw [(Heap.SameBut.update ..).1,sz]
   refine wpAny_bind (wpAny_updateSeq hS' rfl (wpAny_pure ⟨plainId_quiet PySem.F.plain_extend_loop _,ih (i + 1) _ tk _ (acc.push (Value.ref h.objs.size)) (as++[h.objs.size]) (by omega) hlt (fun b o e0 e1 e2 e3 e4 e=>up b o e0 (kp b o e1 e2 e3 e4 (K b o e0 e1 e2 e3 e4 e)))
    (.inr ⟨T,f,oT,up _ _ L.s1.symm hz,up _ _ (far hB').1 hT,hB'⟩) (j1.at fun o e=>up _ o L.s3.symm e) (j2.at fun o e=>up _ o L.s4.symm e) (Heap.get?_update_self _ hS' rfl) (by rw [Array.toList_push,hacc,List.map_append]; rfl) (by rw [List.length_append,hal]; rfl) ⟨?_,fun j a hj=>?_⟩ (by rw [zz]; exact Nat.le_succ_of_le hB)⟩)
    (by rw [hsz]; omega) (by show (acc.push (Value.ref h.objs.size)).size <= sizeLine + 1; rw [Array.size_push,hsz]; omega))
   ·refine List.nodup_append.mpr ⟨hG.1,List.nodup_cons.mpr ⟨List.not_mem_nil,List.nodup_nil⟩,fun a ha b hb e=>?_⟩
    rw [List.mem_singleton.mp hb] at e
    obtain ⟨j,hj⟩:=List.mem_iff_getElem?.mp ha
    exact absurd (hG.2 j a hj).2.1 (by rw [e]; exact Nat.lt_irrefl _)
   ·rw [zz]
    rcases Nat.lt_trichotomy j as.length with h1 | h1 | h1
    ·rw [List.getElem?_append_left h1] at hj
     obtain ⟨b1,b2,x,y,e1,e2,e3⟩:=hG.2 j a hj
     obtain ⟨f0,f1,f2,f3,f4⟩:=far b1
     exact ⟨b1,Nat.lt_succ_of_lt b2,x,y,e1,e2,up a _ f0 (kp a _ f1 f2 f3 f4 e3)⟩
    ·subst h1
     have hb : h.objs.size = a:=by simpa using hj
     subst hb
     exact ⟨hB,Nat.lt_succ_self _,_,_,by rw [hal]; exact List.getElem?_eq_getElem _,by rw [hal]; exact List.getElem?_eq_getElem _,up _ _ (far hB).1 pr⟩
    ·have hnone : (as++[h.objs.size])[j]? = none:=List.getElem?_eq_none (by rw [List.length_append,List.length_singleton]; omega)
     rw [hnone] at hj; cases hj
  rcases hst with ⟨hz,a,b,hTO⟩ | ⟨T,f,oT,hz,hT,hB'⟩
  ·exact wpAny_bind (wpAny_pyNext_zip_item (s:={ s with heap:=h,toks:=tk }) (A:=A.in1) D hz q3 hTO hi1 hi2 q1 q2 hx hy fun h' z1 t1 j1 j2 pr sz kp=>go h' ⟨_,false,_,z1,pr,hB⟩ j1 j2 pr sz kp)
  ·exact wpAny_bind (zdX (s:={ s with heap:=h,toks:=tk }) (A:=A.in1) D hz hT q3 hi1 hi2 q1 q2 hx hy fun h' z1 j1 j2 pr sz kp=>go h' ⟨T,true,oT,z1,kp T oT (far hB').2.1 (far hB').2.2.2.1 (far hB').2.2.2.2 hT,hB'⟩ j1 j2 pr sz fun c o e1 e2 e3 e4 e=>kp c o e1 e3 e4 e)
theorem zgd : typeLookup (.type "zip") "__len__" = pure none:=by rw [typeLookup_type,builtinLookup_eq_fast]; kernel_rfl
theorem zeU : typeLookup (.type "zip") "__length_hint__" = pure none:=by rw [typeLookup_type,builtinLookup_eq_fast]; kernel_rfl
theorem zge {R : Result -> Shared -> Prop} (hh : A.handled = none) (L : ZLow S z TI TO i1 i2 l1 l2 B) (hn : xs.length <= sizeLine) (res : Value) {c₀ : Nat}
  (hl1 : s.heap.IsList l1 xs.toArray) (hl2 : s.heap.IsList l2 ys.toArray) (hTI : IsPair s.heap TI (.ref i1) (.ref i2)) (hz : IsZip s.heap z TI TO .none) {a b : Value} (hTO : IsPair s.heap TO a b) (j1 : s.heap.IsListIter i1 l1 0) (j2 : s.heap.IsListIter i2 l2 0)
  (hS : s.heap.get? S = some { cls:=.type "list",data:=.seq #[] c₀ }) (hB : B <= s.heap.objs.size)
  (hR : ∀ h' tk acc c as,yd0 S z TO i1 i2 s.heap h' -> h'.get? S = some { cls:=.type "list",dict:=none,data:=.seq acc c,slots:=#[] } -> as.length = min xs.length ys.length -> ydO xs ys B h' as -> acc.toList = as.map Value.ref -> R (.ok (.ret res)) { s with heap:=h',toks:=tk }) :
  wpAny (model prog w) A.in1 (Builtin.List.listExtendWith (.ref S) (.ref z) res)
   (fun fin s' => match fin with | .done f=>R (.ok f) s' | .again c' => c'.quiet = true /\ codeAny (model prog w) A c' R s') (fun e s' => R (.error e) s') s:=by
 have hT : s.TypeIs (.ref z) "zip" := ⟨_,hz,rfl⟩
 unfold Builtin.List.listExtendWith
 refine wpAny_bind (wpAny_typeOf hT ?_)
 have h1 : Builtin.List.listSameRef (.ref S) (.ref z) = false:=by simp [Builtin.List.listSameRef,L.s1]
 have h2 : (Value.type "zip" == Value.type "list") = false:=by decide
 have h3 : (Value.type "zip" == Value.type "tuple") = false:=by decide
 simp only [h1,h2,h3,Bool.or_false,Bool.false_eq_true,if_false]
 refine wpAny_bind (wpAny_pyIter_zip hz ?_)
 refine wpAny_bind (wpAny_holding ?_)
 unfold Builtin.List.listLengthHint
 refine wpAny_bind (wpAny_specialOf hT zgd ?_)
 show wpAny _ A.in1 (specialOf (Value.ref z) (Str.ofString "__length_hint__") >>= _) _ _ _
 refine wpAny_bind (wpAny_specialOf hT zeU ?_)
 refine wpAny_pure ?_
 show wpAny _ A.in1 (rule "list.extend.makes-room" >>= fun _=>Builtin.List.listTouch (.ref S) >>= fun _ =>
  again (.builtin "list.extend.loop" ⟨[.ref S,.ref z,res],[]⟩)) _ _ _
 refine wpAny_bind (wpAny_rule ?_)
 refine wpAny_bind ?_
 show wpAny _ A.in1 (updateSeq S (·.push .none) >>= fun _=>updateSeq S (·.pop)) _ _ _
 refine wpAny_bind (wpAny_updateSeq hS rfl ?_)
 have hS₂:=Heap.get?_update_self (Obj.mapSeq (·.push Value.none)) hS rfl
 refine wpAny_updateSeq (hz:=by seq_fits) hS₂ rfl ?_
 have hS₃:=Heap.get?_update_self (Obj.mapSeq (·.pop)) hS₂ rfl
 have oth : ∀ b o,b ≠ S -> s.heap.get? b = some o -> ((s.heap.update S (Obj.mapSeq (·.push Value.none))).update S (Obj.mapSeq (·.pop))).get? b = some o :=
  fun b o hb e=>(Heap.get?_update_other _ _ (Ne.symm hb)).trans ((Heap.get?_update_other _ _ (Ne.symm hb)).trans e)
 have sz : ((s.heap.update S (Obj.mapSeq (·.push Value.none))).update S (Obj.mapSeq (·.pop))).objs.size = s.heap.objs.size:=by rw [(Heap.SameBut.update ..).1,(Heap.SameBut.update ..).1]
 refine wpAny_pure ⟨plainId_quiet PySem.F.plain_extend_loop _,zh3 (s:=s) (h₁:=s.heap) hh L hn res hl1 hl2 hTI hR _ 0 _ s.toks _ #[] [] (Nat.sub_zero _) (Nat.zero_le _) (fun b o e0 _ _ _ _ e=>oth b o e0 e)
  (.inl ⟨oth _ _ L.s1.symm hz,a,b,oth _ _ L.s2.symm hTO⟩) (j1.at fun o e=>oth _ o L.s3.symm e) (j2.at fun o e=>oth _ o L.s4.symm e) hS₃ rfl rfl ⟨List.nodup_nil,fun j a hj=>by simp at hj⟩ (by rw [sz]; exact hB)⟩
theorem zh4 {R : Result -> Shared -> Prop} (hh : A.handled = none) (L : ZLow S z TI TO i1 i2 l1 l2 B) (hn : xs.length <= sizeLine)
  (hl1 : s.heap.IsList l1 xs.toArray) (hl2 : s.heap.IsList l2 ys.toArray) (hTI : IsPair s.heap TI (.ref i1) (.ref i2)) (hz : IsZip s.heap z TI TO .none) {a b : Value} (hTO : IsPair s.heap TO a b) (j1 : s.heap.IsListIter i1 l1 0) (j2 : s.heap.IsListIter i2 l2 0)
  (hS : s.heap.get? S = some { cls:=.type "list",data:=.seq #[] }) (hB : B <= s.heap.objs.size)
  (hR : ∀ h' tk acc c as,yd0 S z TO i1 i2 s.heap h' -> h'.get? S = some { cls:=.type "list",dict:=none,data:=.seq acc c,slots:=#[] } -> as.length = min xs.length ys.length -> ydO xs ys B h' as -> acc.toList = as.map Value.ref -> R (.ok (.ret .none)) { s with heap:=h',toks:=tk }) :
  wpAny (model prog w) A.in1 (Builtin.«list.__init__» ⟨[.ref S,.ref z],[]⟩)
   (fun fin s' => match fin with | .done f=>R (.ok f) s' | .again c' => c'.quiet = true /\ codeAny (model prog w) A c' R s') (fun e s' => R (.error e) s') s:=by
 show wpAny _ _ (do let old <- Builtin.List.listItems (.ref S); Builtin.List.listUpdate (.ref S) (fun _=>#[]); letGo old.toList.reverse; Builtin.List.listExtendWith (.ref S) (.ref z) .none) _ _ s
 refine wpAny_bind ?_
 unfold Builtin.List.listItems
 refine wpAny_bind (wpAny_seqItems hS rfl (wpAny_pure ?_))
 show wpAny _ _ (updateSeq S (fun _=>#[]) >>= fun _=>letGo (#[] : Array Value).toList.reverse >>= fun _=>Builtin.List.listExtendWith (.ref S) (.ref z) .none) _ _ s
 refine wpAny_bind (wpAny_updateSeq hS rfl ?_)
 have hS₂:=Heap.get?_update_self (Obj.mapSeq (fun _=>(#[] : Array Value))) hS rfl
 have oth : ∀ b o,b ≠ S -> s.heap.get? b = some o -> (s.heap.update S (Obj.mapSeq (fun _=>(#[] : Array Value)))).get? b = some o :=
  fun b o hb e=>(Heap.get?_update_other _ _ (Ne.symm hb)).trans e
 refine wpAny_bind (wpAny_letGo ?_)
 have sz : (s.heap.update S (Obj.mapSeq (fun _=>(#[] : Array Value)))).objs.size = s.heap.objs.size:=by rw [(Heap.SameBut.update ..).1]
 refine zge (s:={ s with heap:=s.heap.update S (Obj.mapSeq (fun _=>(#[] : Array Value))) }) hh L hn .none (let ⟨o,ho,r⟩:=hl1; ⟨o,oth _ o L.s5.symm ho,r⟩) (let ⟨o,ho,r⟩:=hl2; ⟨o,oth _ o L.s6.symm ho,r⟩) (oth _ _ L.s7.symm hTI) (oth _ _ L.s1.symm hz) (oth _ _ L.s2.symm hTO) (j1.at fun o e=>oth _ o L.s3.symm e) (j2.at fun o e=>oth _ o L.s4.symm e) hS₂ (by show B <= (s.heap.update S _).objs.size; rw [sz]; exact hB) fun h' tk acc c as hk hS' hl hG hacc=>?_
 exact hR h' tk acc c as (fun b o e0 e1 e2 e3 e4 e=>hk b o e0 e1 e2 e3 e4 (oth b o e0 e)) hS' hl hG hacc
theorem zdY {Q : Value -> Shared -> Prop} (hh : A.handled = none) (ap : ZipApart z TI TO i1 i2 l1 l2) (hn : xs.length <= sizeLine)
  (hl1 : s.heap.IsList l1 xs.toArray) (hl2 : s.heap.IsList l2 ys.toArray) (hTI : IsPair s.heap TI (.ref i1) (.ref i2)) (hz : IsZip s.heap z TI TO .none) {a b : Value} (hTO : IsPair s.heap TO a b) (j1 : s.heap.IsListIter i1 l1 0) (j2 : s.heap.IsListIter i2 l2 0)
  (hQ : ∀ h' tk acc c as,yd0 s.heap.objs.size z TO i1 i2 s.heap h' -> h'.get? s.heap.objs.size = some { cls:=.type "list",dict:=none,data:=.seq acc c,slots:=#[] } -> as.length = min xs.length ys.length -> ydO xs ys (s.heap.objs.size + 1) h' as -> acc.toList = as.map Value.ref -> Q (.ref s.heap.objs.size) { s with heap:=h',toks:=tk }) :
  wpAny (model prog w) A (call (.type "list") [.ref z]) Q E s:=by
 refine callType_codes (Q₁:=fun obj s₁=>obj = .ref s.heap.objs.size /\ s₁ = { s with heap:=s.heap.push { cls:=.type "list",data:=.seq #[] } }) PySem.F.called_list (PySem.F.typeCall_list_1 _) PySem.F.entry_list_init
  (code_list_new _ ⟨rfl,rfl⟩) fun obj s₁ h₁=>?_
 obtain ⟨rfl,rfl⟩:=h₁
 have hS : (s.heap.push { cls:=.type "list",data:=.seq #[] }).get? s.heap.objs.size = some { cls:=.type "list",data:=.seq #[] }:=Heap.get?_push_size _ rfl
 have p1 : z < s.heap.objs.size:=Heap.lt_size hz
 have p2 : TO < s.heap.objs.size:=Heap.lt_size hTO
 have p3 : i1 < s.heap.objs.size:=let ⟨o,ho,_⟩:=j1; Heap.lt_size ho
 have p4 : i2 < s.heap.objs.size:=let ⟨o,ho,_⟩:=j2; Heap.lt_size ho
 have p5 : l1 < s.heap.objs.size:=let ⟨o,ho,_⟩:=hl1; Heap.lt_size ho
 have p6 : l2 < s.heap.objs.size:=let ⟨o,ho,_⟩:=hl2; Heap.lt_size ho
 have p7 : TI < s.heap.objs.size:=Heap.lt_size hTI
 have L : ZLow s.heap.objs.size z TI TO i1 i2 l1 l2 (s.heap.objs.size + 1):=⟨ap,Nat.ne_of_gt p1,Nat.ne_of_gt p2,Nat.ne_of_gt p3,Nat.ne_of_gt p4,Nat.ne_of_gt p5,Nat.ne_of_gt p6,Nat.ne_of_gt p7,Nat.lt_succ_self _,Nat.lt_succ_of_lt p1,Nat.lt_succ_of_lt p2,Nat.lt_succ_of_lt p3,Nat.lt_succ_of_lt p4⟩
 have up : ∀ b o,s.heap.get? b = some o -> (s.heap.push { cls:=.type "list",data:=.seq #[] }).get? b = some o:=fun b o e=>Heap.get?_push_of_some _ e
 refine ⟨⟨_,hS,rfl⟩,PySem.F.args_list_init_2 _ _,zh4 (s:={ s with heap:=s.heap.push { cls:=.type "list",data:=.seq #[] } }) (A:=A.in1) hh L hn (hl1.push _) (hl2.push _) (up _ _ hTI) (up _ _ hz) (up _ _ hTO) (j1.at fun o e=>up _ o e) (j2.at fun o e=>up _ o e) hS (by show _ <= (s.heap.push _).objs.size; rw [Heap.size_push]; exact Nat.le_refl _) fun h' tk acc c as hk hS' hl hG hacc=>?_⟩
 exact ⟨rfl,hQ h' tk acc c as (fun b o e0 e1 e2 e3 e4 e=>hk b o e0 e1 e2 e3 e4 (up b o e)) hS' hl hG hacc⟩
end
end L2
namespace L2
open PySem PySem.Spec PyProof.Rows
def layT : Hp -> List Addr -> List V -> List V -> Hp
 | H,a :: as,x :: xs,y :: ys=>layT (upd H a (.tup [x,y])) as xs ys
 | H,_,_,_=>H
theorem zcz {c : Addr} : ∀ (as : List Addr) (H : Hp) (xs ys : List V),c ∉ as -> layT H as xs ys c = H c
 | [],_,_,_,_=>by unfold layT; rfl
 | a :: as,H,[],_,_=>by unfold layT; rfl
 | a :: as,H,_ :: _,[],_=>by unfold layT; rfl
 | a :: as,H,x :: xs,y :: ys,h=>by
  unfold layT
  rw [zcz as _ xs ys (fun z=>h (List.mem_cons_of_mem _ z)),yay (show c ≠ a from fun z=>h (by rw [z]; exact List.mem_cons_self))]
section
variable {X : Cx} {pins : List (Addr × Obj)} {σ : St} {s : Shared}
theorem FpOk.upd {H : Hp} {a b : Addr} {o : HO} (f : FpOk X pins H b) (ne : b ≠ a) : FpOk X pins (upd H a o) b:=⟨by rw [yay ne]; exact f.1,f.2⟩
theorem Inv.layT : ∀ (as : List Addr) (H : Hp) (xs ys : List V) (us vs : List Value),Inv X pins σ H s -> Vals xs us -> Vals ys vs -> as.Nodup -> (∀ c ∈ as,FpOk X pins H c /\ X.s₀.heap.objs.size <= c) ->
  (∀ (j : Nat) (a : Addr),as[j]? = some a -> ∃ x y,us[j]? = some x /\ vs[j]? = some y /\ IsPair s.heap a x y) -> Inv X pins σ (layT H as xs ys) s
 | [],H,xs,ys,_,_,I,_,_,_,_,_=>by unfold L2.layT; exact I
 | a :: as,H,xs,ys,us,vs,I,r,r2,nd,hf,hp=>by
  obtain ⟨u,v,e1,e2,e3⟩:=hp 0 a rfl
  cases r with
  | nil=>cases e1
  | cons r rr =>
   cases r2 with
   | nil=>cases e2
   | cons r2 rr2 =>
    cases e1; cases e2
    unfold L2.layT
    obtain ⟨⟨f0,f1,f2,f3,f4,f5⟩,hge⟩:=hf a List.mem_cons_self
    have I2:=I.adopt (T:=a) (ob:=.tup [_,_]) f0 hge f1 f4 f5 ⟨by show 2 <= sizeLine; decide,[_,_],.cons r (.cons r2 .nil),⟨_,e3,rfl,_,rfl⟩⟩
    refine Inv.layT as _ _ _ _ _ I2 rr rr2 (List.nodup_cons.mp nd).2 (fun c hc=>?_) (fun j b hj=>hp (j + 1) b hj)
    obtain ⟨f,g⟩:=hf c (List.mem_cons_of_mem _ hc)
    exact ⟨f.upd (fun z=>(List.nodup_cons.mp nd).1 (z ▸ hc)),g⟩
theorem zdJ : ∀ as : List Addr,Vals (as.map V.ref) (as.map Value.ref)
 | []=>.nil
 | _ :: as=>.cons rfl (zdJ as)
theorem zgf {a b : Expr} {ta : TA} {p pos p' pos' : Pos} (hcalm : X.calm = true) (hg : Gl X "zip") (hm : X.mg "zip" = none) (hgl : Gl X "list") (hml : X.mg "list" = none) (ha : PA X [a,b] ta) (hs : starEach [a,b] X.env = [(false,eval a X.env),(false,eval b X.env)]:=by rfl) (hs2 : starEach [b] X.env = [(false,eval b X.env)]:=by rfl)
  (hs' : starEach [.Call (.Name "zip" p) [a,b] [] pos] X.env = [(false,eval (.Call (.Name "zip" p) [a,b] [] pos) X.env)]:=by rfl) :
  PE X (.Call (.Name "list" p') [.Call (.Name "zip" p) [a,b] [] pos] [] pos') (fun σ H Q=>ta σ H fun vs H1=>∃ l1 l2 xs ys,vs = [.ref l1,.ref l2] /\ SqL X.K H1 l1 xs /\ SqL X.K H1 l2 ys /\
   ∀ as S,as.length = min xs.length ys.length -> (S :: as).Nodup -> (∀ c ∈ S :: as,H1 c = none) -> Q (.ref S) (upd (layT H1 as xs ys) S (.lst (as.map V.ref)))):=by
 intro pins s σ H Q I h
 refine Call_ (yck I hgl hml (by decide +kernel : bootBuiltins "list" = some (.type "list")) (PyProof.Rows.callWith_type1 ?_ hs' rfl))
 rw [hs']
 show wpAny _ _ (spliced ((false,eval (.Call (.Name "zip" p) [a,b] [] pos) X.env) :: backTo pos' (starEach [] X.env))) _ _ s
 refine Calls.spliced_cons ?_
 refine Call_ (yck I hg hm zei (PyProof.Rows.callWith_type1 (thn (ha pos pins s σ H _ I h) fun us s1 ⟨vs,H1,I1,r1,q1⟩=>?_) (by rw [hs,hs2]) (by rw [hs2]; rfl)))
 obtain ⟨l1,l2,xs,ys,rfl,hq,hq2,q⟩:=q1
 cases r1 with
 | cons r rr =>
  cases rr with
  | cons r' rr =>
   cases rr
   cases r
   cases r'
   obtain ⟨its,rv,pl,hz⟩:=I1.list hq
   obtain ⟨its2,rv2,pl2,hz2⟩:=I1.list hq2
   have o1 : l1 < s1.heap.objs.size:=by obtain ⟨o,ho,_⟩:=pl.isList; exact Heap.lt_size ho
   have o2 : l2 < s1.heap.objs.size:=by obtain ⟨o,ho,_⟩:=pl2.isList; exact Heap.lt_size ho
   refine call_zip_2 pl.isList pl2.isList fun h' z1 z2 z3 z4 z5 hsz hk=>Calls.spliced_nil ?_
   have ap : ZipApart (s1.heap.objs.size + 4) (s1.heap.objs.size + 2) (s1.heap.objs.size + 3) s1.heap.objs.size (s1.heap.objs.size + 1) l1 l2:=by
    constructor<;>(unfold Addr at *; omega)
   have hl1:=rv.length
   have hl2:=rv2.length
   refine zdY (s:={ s1 with heap:=h' }) (I1.ok.hd hcalm) ap (xs:=its) (ys:=its2) (by rw [<- hl1]; exact hz) (let ⟨o,ho,r⟩:=pl.isList; ⟨o,hk _ o ho,r⟩) (let ⟨o,ho,r⟩:=pl2.isList; ⟨o,hk _ o ho,r⟩) z2 z1 z3 z4 z5 fun h2 tk acc c as kp hS hlen hG hacc=>?_
   dsimp only at kp hS hG ⊢
   rw [hsz] at kp hS hG ⊢
   have up : ∀ b u,s1.heap.get? b = some u -> h2.get? b = some u:=fun b u e=>by
    have lb:=Heap.lt_size e
    exact kp b u (by unfold Addr at *; omega) (by unfold Addr at *; omega) (by unfold Addr at *; omega) (by unfold Addr at *; omega) (by unfold Addr at *; omega) (hk b u e)
   have I2 : Inv X pins σ H1 { s1 with heap:=h2,toks:=tk }:=I1.kept up
   have ge : ∀ c ∈ as,s1.heap.objs.size + 5 + 1 <= c:=fun c hc=>by
    obtain ⟨j,hj⟩:=List.mem_iff_getElem?.mp hc
    exact (hG.2 j c hj).1
   have fp : ∀ c,s1.heap.objs.size <= c -> FpOk X pins H1 c /\ X.s₀.heap.objs.size <= c:=fun c hc=>⟨I1.fpOk hc (I1.hok.fresh hc),Nat.le_trans I1.sz hc⟩
   have ge' : ∀ c ∈ as,s1.heap.objs.size <= c:=fun c hc=>Nat.le_trans (by omega) (ge c hc)
   have I3:=Inv.layT as H1 xs ys its its2 I2 rv rv2 hG.1 (fun c hc=>fp c (ge' c hc)) fun j b hj=>(hG.2 j b hj).2.2
   have nS : (s1.heap.objs.size + 5) ∉ as:=fun z=>absurd (ge _ z) (by omega)
   obtain ⟨⟨f0,f1,f2,f3,f4,f5⟩,hge⟩:=fp (s1.heap.objs.size + 5) (by unfold Addr at *; omega)
   have I4:=I3.adopt (T:=s1.heap.objs.size + 5) (ob:=.lst (as.map V.ref)) (by rw [zcz _ _ _ _ nS]; exact f0) hge f1 f4 f5 ⟨by rw [List.length_map,hlen,<- hl1]; omega,acc.toList,c,by rw [hacc]; exact zdJ as,by rw [Array.toArray_toList]; exact hS⟩
   refine ⟨.ref _,_,I4,rfl,q as _ (by rw [hlen,hl1,hl2]) (List.nodup_cons.mpr ⟨nS,hG.1⟩) fun c hc=>?_⟩
   rcases List.mem_cons.mp hc with rfl | hc
   ·exact f0
   ·exact (fp c (ge' c hc)).1.1
end
end L2
namespace Sm
open PySem PySem.Spec L2
@[simp] def ycY (a b : SE) : SE:=fun en h=>(a en h).bind fun v h1=>(b en h1).bind fun w h2=>match v,w with
 | .fl xs,.fl ys=>.ok (.fl (ybj xs ys)) h2
 | _,_=>.bad
section
variable {T : Tb} {E : St -> XK} {X : Cx} {a b : Expr} {sa sb : SE}
theorem zen {ι : Ix} {h : AH} : ∀ (as : List Addr) (H : Hp) (xs ys : List AV) (us ws : List V),Sim T ι h H -> RVs T ι H xs us -> RVs T ι H ys ws -> as.Nodup -> (∀ c ∈ as,H c = none) -> as.length = min us.length ws.length ->
  Grow ι H ι (layT H as us ws) /\ Sim T ι h (layT H as us ws) /\ RVs T ι (layT H as us ws) (ybj xs ys) (as.map V.ref)
 | [],H,xs,ys,us,ws,S,r,r2,nd,fr,hl=>by
  have e : layT H [] us ws = H:=by unfold layT; rfl
  rw [e]
  refine ⟨S.refl,S,?_⟩
  have : ybj xs ys = []:=by
   have l1:=r.length
   have l2:=r2.length
   cases xs with
   | nil=>rfl
   | cons x xs =>
    cases ys with
    | nil=>rfl
    | cons y ys=>simp at l1 l2 hl; omega
  rw [this]
  exact .nil
 | c :: as,H,xs,ys,us,ws,S,r,r2,nd,fr,hl=>by
  cases r with
  | nil=>simp at hl
  | @cons x u xs us r rr =>
   cases r2 with
   | nil=>simp at hl
   | @cons y v ys ws r2 rr2 =>
    unfold layT
    have n:=fr c List.mem_cons_self
    have g:=S.growNew (p:=c) (o:=.tup [u,v]) n
    obtain ⟨g2,S2,rs⟩:=zen as _ _ _ _ _ (S.new n) (rr.mono g) (rr2.mono g) (List.nodup_cons.mp nd).2 (fun d hd=>by rw [yay (show d ≠ c from fun z=>(List.nodup_cons.mp nd).1 (by rw [<- z]; exact hd))]; exact fr d (List.mem_cons_of_mem _ hd)) (by simp at hl ⊢; omega)
    exact ⟨g.trans g2,S2,.cons ((RV.tup (S.fresh n) zar (.cons (r.mono g) (.cons (r2.mono g) .nil))).mono g2) rs⟩
theorem zg9 {p p' pos pos' : Pos} (hK : X.K = T.K) (hcalm : X.calm = true) (hg : Gl X "zip") (hm : X.mg "zip" = none) (hgl : Gl X "list") (hml : X.mg "list" = none) (ha : PEA T E X a sa) (hb : PEA T E X b sb) (hs : starEach [a,b] X.env = [(false,eval a X.env),(false,eval b X.env)]:=by rfl) (hs2 : starEach [b] X.env = [(false,eval b X.env)]:=by rfl)
  (hs' : starEach [.Call (.Name "zip" p) [a,b] [] pos] X.env = [(false,eval (.Call (.Name "zip" p) [a,b] [] pos) X.env)]:=by rfl) :
  PEA T E X (.Call (.Name "list" p') [.Call (.Name "zip" p) [a,b] [] pos] [] pos') (ycY sa sb) :=
 yaP (zgf hcalm hg hm hgl hml (zaa ha (zaa hb yab hs2) (by rw [hs,hs2])) hs hs2 hs') fun σ H Q ⟨ι,h,en,S,er,q⟩=>by
  unfold ycY at q
  refine ⟨ι,h,en,S,er,?_⟩
  unfold sCons
  cases e : sa en h with
  | bad=>rw [e] at q; exact q
  | ex c h1=>rw [e] at q; exact q
  | ok v h1 =>
   rw [e] at q
   dsimp only [Out.bind] at q ⊢
   cases e' : sb en h1 with
   | bad=>rw [e'] at q; exact q
   | ex c h1=>rw [e'] at q; exact q
   | ok v' h2 =>
    rw [e'] at q
    dsimp only at q
    intro ι1 H1 u g1 S1 r1
    cases r1 with
    | cons r r' =>
     cases r' with
     | cons r2 r3 =>
      cases r3
      cases v with
      | fl xs =>
       cases v' with
       | fl ys =>
        dsimp only at q
        have fin : ∀ (us ws : List V),RVs T ι1 H1 xs us -> RVs T ι1 H1 ys ws -> ∀ (as : List Addr) (S : Addr),as.length = min us.length ws.length -> (S :: as).Nodup -> (∀ c ∈ S :: as,H1 c = none) -> Q (.ref S) (upd (layT H1 as us ws) S (.lst (as.map V.ref))):=fun us ws rs rs2 as Sa hl nd fr=>by
         obtain ⟨g2,S2,rs3⟩:=zen as H1 xs ys us ws S1 rs rs2 (List.nodup_cons.mp nd).2 (fun c hc=>fr c (List.mem_cons_of_mem _ hc)) hl
         have n : layT H1 as us ws Sa = none:=by rw [zcz _ _ _ _ (List.nodup_cons.mp nd).1]; exact fr Sa List.mem_cons_self
         exact q ι1 _ _ ((g1.trans g2).trans (S2.growNew n)) (S2.new n) (.fl (S2.fresh n) (.inl zar) (rs3.mono (S2.growNew n)))
        cases r with
        | fl m hr rs =>
         cases r2 with
         | fl m2 hr2 rs2=>exact ⟨_,_,_,_,rfl,ya9 hK (.inl hr),ya9 hK (.inl hr2),fin _ _ rs rs2⟩
         | kfl hr2 rs2=>exact ⟨_,_,_,_,rfl,ya9 hK (.inl hr),ya9 hK (.inr hr2),fin _ _ rs rs2⟩
        | kfl hr rs =>
         cases r2 with
         | fl m2 hr2 rs2=>exact ⟨_,_,_,_,rfl,ya9 hK (.inr hr),ya9 hK (.inl hr2),fin _ _ rs rs2⟩
         | kfl hr2 rs2=>exact ⟨_,_,_,_,rfl,ya9 hK (.inr hr),ya9 hK (.inr hr2),fin _ _ rs rs2⟩
       | _=>exact q.elim
      | _=>exact q.elim
end
end Sm
namespace L2
open PySem PySem.Spec PyProof.Rows
section
variable {X : Cx}
theorem zh5 {its : List Value} {i : Int} (rv : Vals [V.int i] its) : ∃ t,its.toArray = intItems #[(i,t)]:=by
 cases rv with
 | cons r r' =>
  cases r'
  obtain ⟨t,rfl⟩:=r
  exact ⟨t,by simp [intItems]⟩
theorem zha (hc : X.calm = true) : CallR X (.builtin "max") (fun xs H Q=>∃ (a : Addr) (i : Int) (o : Option Int),xs = [.ref a] /\ SqL X.K H a (.int i :: o.toList.map V.int) /\ Q (.int (match o with | some j=>if j > i then j else i | none=>i)) H):=by
 intro pins s σ H xs us Q I r h
 obtain ⟨l,i,o,e,hq,q⟩:=h
 cases o with
 | some j=>exact zg8 hc pins s σ H xs us Q I r ⟨l,i,j,e,hq,q⟩
 | none =>
  subst e
  obtain ⟨u,rfl,rx⟩:=yb3 r
  cases rx
  obtain ⟨its,rv,pl,hz⟩:=I.list hq
  obtain ⟨t,e⟩:=zh5 rv
  have il:=pl.isList
  rw [e] at il
  refine max_intList (I.ok.hd hc) il (by simp) fun v h' tk hv k=>⟨_,H,I.kept k,?_,q⟩
  simp [intItems,argBest,numAt] at hv
  exact ⟨_,hv.symm⟩
end
end L2
namespace Sm
open PySem PySem.Spec L2
@[simp] def yd1 : Fn:=fun args h=>match args with
 | [.fl [.int i,.int j]]=>.ok (.int (if j > i then j else i)) h
 | [.fl [.int i]]=>.ok (.int i) h
 | _=>.bad
section
variable {T : Tb} {X : Cx}
theorem ygT (hK : X.K = T.K) (hc : X.calm = true:=by rfl) : ∃ r,CallR X (.builtin "max") r /\ ycE T yd1 r:=by
 refine ⟨_,zha hc,fun ι h H xs us E Q S r q=>?_⟩
 unfold yd1 at q
 split at q
 ·rename_i i j
  cases r with
  | cons r r' =>
   cases r'
   obtain ⟨a,us,rfl,sq,rs⟩:=yba S r rfl
   rw [zdf rs (bs:=[i,j]) rfl] at sq
   exact ⟨a,i,some j,rfl,hK ▸ sq,q.now S (.int _)⟩
 ·rename_i i
  cases r with
  | cons r r' =>
   cases r'
   obtain ⟨a,us,rfl,sq,rs⟩:=yba S r rfl
   rw [zdf rs (bs:=[i]) rfl] at sq
   exact ⟨a,i,none,rfl,hK ▸ sq,q.now S (.int _)⟩
 ·exact q.elim
end
end Sm
namespace Sk
open PySem PySem.Spec L2 Sm
abbrev yf1 : Nat:=0
abbrev yif : Nat:=1
abbrev yhU : Nat:=2
abbrev yfK : Nat:=3
abbrev ye9 : Nat:=4
abbrev yfa : Nat:=5
abbrev yhV : Nat:=6
def ybW : Fn:=mkFn 1 1
  (sSeq (yb4 0 0 (sVar 0) (ybG sNil))
  (sSeq (yb4 0 1 (sVar 0) (yez true))
  (sSeq (yb4 0 2 (sVar 0) (ybG (sCons (sLit (.int 0)) sNil)))
  (sSeq (yb4 0 3 (sVar 0) (ybG (sCons (sLit (.int 0)) sNil)))
  (sSeq (yb4 0 4 (sVar 0) (ybG (sCons (sLit (.int 0)) sNil)))
  (sSeq (yb4 0 5 (sVar 0) (ybG (sCons (sOp1 fNeg (sLit (.int 1))) sNil)))
  (sSeq (yb4 0 6 (sVar 0) (ybG (sCons (sLit (.int 0)) sNil)))
  (yb4 0 7 (sVar 0) (ybG (sCons (sLit (.int 0)) sNil))))))))))
def ybl : Fn:=mkFn 1 1
  (sRet (yaf fLen (sCons (Sm.sFld 0 0 (sVar 0)) sNil)))
def ycF : Fn:=mkFn 2 3
  (sSeq (sSet 2 (sOp2 fMod (sOp2 fMul (sOp2 fAdd (sOp2 fAdd (sOp2 fMod (sVar 0) (sLit (.int 1000000007))) (sOp2 fMul (sLit (.int 7919)) (sVar 1))) (sLit (.int 101))) (sLit (.int 48271))) (sLit (.int 2147483647))))
  (sRet (sOp2 fMod (sOp2 fMul (sOp2 fMod (sOp2 fMul (sVar 2) (sVar 2)) (sLit (.int 2147483629))) (sLit (.int 69621))) (sLit (.int 2147483647)))))
def ybO : SS :=
  (sSet 2 (sOp2 fAdd (sOp2 fMul (sVar 2) (sLit (.int 2147483647))) (yaf ycF (sCons (sOp2 fAdd (sVar 0) (sOp2 fMul (sLit (.int 1009)) (sVar 1))) (sCons (sVar 3) sNil)))))
def ybX : Fn:=mkFn 2 4
  (sSeq (sSet 0 (sOp2 fMod (sVar 0) (sOp2 fMul (sOp2 fPow (sLit (.int 10)) (sLit (.int 60))) (sOp2 fPow (sLit (.int 10)) (sLit (.int 60))))))
  (sSeq (sIf (yaj (sOp2 fGe (sVar 0) (sOp2 fPow (sLit (.int 10)) (sLit (.int 18))))) (sRet (ybG (sCons (sVar 0) sNil))) yas)
  (sSeq (sSet 2 (sLit (.int 0)))
  (sSeq (sFor (ycy (sLit (.int 12))) (.nm 3) ybO)
  (sRet (ybG (sCons (sVar 2) sNil)))))))
def yax : Fn:=mkFn 2 3
  (sSeq (sSet 2 (sOp2 fMod (sOp2 fIx (sVar 0) (sLit (.int 0))) (sVar 1)))
  (sSeq (ydM (sVar 0) (sLit (.int 0)) (sOp2 fDiv (sOp2 fIx (sVar 0) (sLit (.int 0))) (sVar 1)))
  (sRet (sVar 2))))
def ycG : Fn:=mkFn 1 2
  (sSeq (sSet 1 (sLit (.str "abcdefghijklmnopqrstuvwxyzABCDEFGHIJKLMNOPQRSTUVWXYZ0123456789 !#$&'()*+,-./:;<=>?\x40[]^_{|}~")))
  (sRet (sOp2 fIx (sLst (sCons (sLit (.str "ab")) (sCons (sOp2 fAdd (sLit (.str "ab")) (sLit (.str "\n"))) (sCons (sOp2 fAdd (sOp2 fAdd (sOp2 fAdd (sOp2 fAdd (sVar 1) (sLit (.str "\n"))) (sLit (.str "\\"))) (sLit (.str "\""))) (sLit (.str "`"))) (sCons (sLit (.str "a")) sNil))))) (sVar 0))))
def ybn : SS :=
  (sSet 3 (sOp2 fAdd (sVar 3) (sOp2 fIx (sVar 2) (yaf yax (sCons (sVar 0) (sCons (yaf fLen (sCons (sVar 2) sNil)) sNil))))))
def yca : Fn:=mkFn 2 5
  (sSeq (sSet 2 (yaf ycG (sCons (yaf yax (sCons (sVar 0) (sCons (sLit (.int 4)) sNil))) sNil)))
  (sSeq (sSet 3 (sLit (.str "")))
  (sSeq (sFor (ycy (yaf yax (sCons (sVar 0) (sCons (sOp2 fAdd (sVar 1) (sLit (.int 1))) sNil)))) (.nm 4) ybn)
  (sRet (sVar 3)))))
def ybu : Fn:=mkFn 2 6
  (sSeq (sSet 2 (yaf yax (sCons (sVar 1) (sCons (sLit (.int 7)) sNil))))
  (sSeq (sIf (sOr (yaj (sOp2 fLt (yaf fLen (sCons (sVar 0) sNil)) (sLit (.int 2)))) (yaj (sOp2 fEq (sVar 2) (sLit (.int 0))))) (sRet (sTup (sCons (sLit (.str "built")) (sCons (sLst sNil) (sCons (yaf yca (sCons (sVar 1) (sCons (sOp2 fIx (sLst (sCons (sLit (.int 3)) (sCons (sLit (.int 9)) (sCons (sLit (.int 30)) sNil)))) (yaf yax (sCons (sVar 1) (sCons (sLit (.int 3)) sNil)))) sNil))) (sCons (sLit (.int 0)) sNil)))))) yas)
  (sSeq (sSet 3 (sLst (sCons (sOp2 fIx (sVar 0) (yaf yax (sCons (sVar 1) (sCons (yaf fLen (sCons (sVar 0) sNil)) sNil)))) (sCons (sOp2 fIx (sVar 0) (yaf yax (sCons (sVar 1) (sCons (yaf fLen (sCons (sVar 0) sNil)) sNil)))) sNil))))
  (sSeq (sSet 4 (yaf fLen (sCons (sOp2 fIx (sOp2 fIx (sVar 3) (sLit (.int 0))) (sLit (.int 1))) sNil)))
  (sSeq (sSet 5 (yaf yax (sCons (sVar 1) (sCons (sOp2 fAdd (sVar 4) (sLit (.int 1))) sNil))))
  (sSeq (sIf (yaj (sOp2 fLt (sVar 2) (sLit (.int 6)))) (sRet (sTup (sCons (sOp2 fIx (sLst (sCons (sLit (.str "joined")) (sCons (sLit (.str "cut")) (sCons (sLit (.str "put")) (sCons (sLit (.str "taken")) (sCons (sLit (.str "kept")) sNil)))))) (sOp2 fSub (sVar 2) (sLit (.int 1)))) (sCons (sVar 3) (sCons (sVar 5) (sCons (sOp2 fAdd (sVar 5) (yaf yax (sCons (sVar 1) (sCons (sOp2 fAdd (sOp2 fSub (sVar 4) (sVar 5)) (sLit (.int 1))) sNil)))) sNil)))))) yas)
  (sRet (sTup (sCons (sLit (.str "repeated")) (sCons (sVar 3) (sCons (yaf yax (sCons (sVar 1) (sCons (sLit (.int 6)) sNil))) (sCons (sLit (.int 0)) sNil))))))))))))
def ybe : Fn:=mkFn 1 7
  (sSeq (yeB (.tup [1,2,3,4]) (sVar 0))
  (sSeq (sIf (yaj (sOp2 fEq (sVar 1) (sLit (.str "built")))) (sRet (sLst (sCons (sVar 3) sNil))) yas)
  (sSeq (sSet 5 (sOp2 fIx (sOp2 fIx (sVar 2) (sLit (.int 0))) (sLit (.int 1))))
  (sSeq (sSet 6 (sOp2 fIx (sOp2 fIx (sVar 2) (sLit (.int 1))) (sLit (.int 1))))
  (sSeq (sIf (yaj (sOp2 fEq (sVar 1) (sLit (.str "joined")))) (sRet (sLst (sCons (sOp2 fAdd (sVar 5) (sVar 6)) sNil))) yas)
  (sSeq (sIf (yaj (sOp2 fEq (sVar 1) (sLit (.str "cut")))) (sRet (sLst (sCons (sCut (sVar 5) none (some (sVar 3))) (sCons (sCut (sVar 5) (some (sVar 3)) none) sNil)))) yas)
  (sSeq (sIf (yaj (sOp2 fEq (sVar 1) (sLit (.str "put")))) (sRet (sLst (sCons (sOp2 fAdd (sOp2 fAdd (sCut (sVar 5) none (some (sVar 3))) (sVar 6)) (sCut (sVar 5) (some (sVar 3)) none)) sNil))) yas)
  (sSeq (sIf (yaj (sOp2 fEq (sVar 1) (sLit (.str "taken")))) (sRet (sLst (sCons (sOp2 fAdd (sCut (sVar 5) none (some (sVar 3))) (sCut (sVar 5) (some (sVar 4)) none)) sNil))) yas)
  (sSeq (sIf (yaj (sOp2 fEq (sVar 1) (sLit (.str "kept")))) (sRet (sLst (sCons (sCut (sVar 5) (some (sVar 3)) (some (sVar 4))) sNil))) yas)
  (sRet (sLst (sCons (sOp2 yel (sVar 5) (sVar 3)) sNil))))))))))))
def ycP : Fn:=mkFn 1 1
  (sRet (yeA (sIsB "int" (sVar 0)) (yfO (sIsB "bool" (sVar 0)))))
def ybH : Fn:=mkFn 2 2
  (sRet (yeA (yaf ycP (sCons (sVar 1) sNil)) (yb8 fLe fLe (sLit (.int 1)) (sVar 1) (yaf fLen (sCons (Sm.sFld 0 0 (sVar 0)) sNil)))))
def yaZ : Fn:=mkFn 2 2
  (sIf (sNot (yc6 (yak 0 ybH (sVar 0) (sCons (sVar 1) sNil)))) (ybM 2 (sCons (sLit (.str "no piece of the shelf has this number")) sNil)) yas)
def yaU : Fn:=mkFn 2 2
  (sIf (yaj (sOp2 fNe (sVar 1) (sLit (.int 0)))) (yaM (yak 0 yaZ (sVar 0) (sCons (sVar 1) sNil))) yas)
def yaz : Fn:=mkFn 2 2
  (sSeq (yaM (yak 0 yaU (sVar 0) (sCons (sVar 1) sNil)))
  (sRet (sOp2 fIx (Sm.sFld 0 5 (sVar 0)) (sVar 1))))
def yaQ : Fn:=mkFn 2 7
  (sSeq (yeB (.tup [2,3,4,5]) (sVar 1))
  (sSeq (sIf (sOr (yaj (sOp2 fEq (sVar 2) (sLit (.str "built")))) (yaj (sOp2 fEq (sVar 2) (sLit (.str "repeated"))))) (sRet (sOp1 fNeg (sLit (.int 1)))) yas)
  (sSeq (sSet 6 (yak 0 yaz (sVar 0) (sCons (sOp2 fIx (sOp2 fIx (sVar 3) (sLit (.int 0))) (sLit (.int 0))) sNil)))
  (sSeq (sIf (sOr (yaj (sOp2 fEq (sVar 2) (sLit (.str "joined")))) (yaj (sOp2 fEq (sVar 2) (sLit (.str "put"))))) (sSet 6 (yaf yce (sCons (sVar 6) (sCons (yak 0 yaz (sVar 0) (sCons (sOp2 fIx (sOp2 fIx (sVar 3) (sLit (.int 1))) (sLit (.int 0))) sNil)) sNil)))) yas)
  (sSeq (sIf (yaj (sOp2 fEq (sVar 2) (sLit (.str "joined")))) (sRet (sOp2 fMul (sLit (.int 16)) (sOp2 fAdd (sVar 6) (sLit (.int 1))))) yas)
  (sRet (sOp2 fMul (sOp2 fIx (sLst (sCons (sLit (.int 64)) (sCons (sLit (.int 200)) sNil))) (yaf fInt (sCons (sOp2 fNe (sVar 2) (sLit (.str "cut"))) sNil))) (sOp2 fAdd (sVar 6) (sLit (.int 1))))))))))
def yaC : Fn:=mkFn 2 2
  (sSeq (yaM (yak 0 yaU (sVar 0) (sCons (sVar 1) sNil)))
  (sRet (sOp2 fIx (Sm.sFld 0 2 (sVar 0)) (sVar 1))))
def ybw : Fn:=mkFn 1 1
  (sIf (yaj (sOp2 fGt (sVar 0) (sLit (.int 1000000000000000000)))) (ybM 5 (sCons (sLit (.str "the text would have more than 10 ** 18 signs")) sNil)) yas)
def ybt : Fn:=mkFn 2 2
  (sSeq (yaM (yak 0 yaU (sVar 0) (sCons (sVar 1) sNil)))
  (sRet (sOp2 fIx (Sm.sFld 0 7 (sVar 0)) (sVar 1))))
def ybm : Fn:=mkFn 2 2
  (sSeq (yaM (yak 0 yaU (sVar 0) (sCons (sVar 1) sNil)))
  (sRet (sOp2 fIx (Sm.sFld 0 6 (sVar 0)) (sVar 1))))
def ycH : Fn:=mkFn 3 3
  (sRet (sOp2 fGt (sOp2 fAdd (yak 0 yaC (sVar 0) (sCons (yak 0 ybt (sVar 0) (sCons (sVar 1) sNil)) sNil)) (yak 0 yaC (sVar 0) (sCons (yak 0 ybm (sVar 0) (sCons (sVar 2) sNil)) sNil))) (sLit (.int 8))))
def yaA : Fn:=mkFn 2 2
  (sSeq (yaM (yak 0 yaZ (sVar 0) (sCons (sVar 1) sNil)))
  (sRet (sOp2 fIx (Sm.sFld 0 0 (sVar 0)) (sOp2 fSub (sVar 1) (sLit (.int 1))))))
def yaV : Fn:=mkFn 3 4
  (sSeq (yaM (yak 0 yaZ (sVar 0) (sCons (sVar 1) sNil)))
  (sSeq (yaM (yak 0 yaZ (sVar 0) (sCons (sVar 2) sNil)))
  (sSeq (sSet 3 (sOp2 fAdd (sOp2 fIx (Sm.sFld 0 2 (sVar 0)) (sOp2 fIx (Sm.sFld 0 7 (sVar 0)) (sVar 1))) (sOp2 fIx (Sm.sFld 0 2 (sVar 0)) (sOp2 fIx (Sm.sFld 0 6 (sVar 0)) (sVar 2)))))
  (sSeq (sIf (yaj (sOp2 fLe (sVar 3) (sLit (.int 8)))) (ybM 3 (sCons (sLit (.str "the leaves where the parts meet have no more than eight signs together")) sNil)) yas)
  (sSeq (sIf (yaj (sOp2 fGt (yaf fAbs (sCons (sOp2 fSub (sOp2 fIx (Sm.sFld 0 5 (sVar 0)) (sVar 1)) (sOp2 fIx (Sm.sFld 0 5 (sVar 0)) (sVar 2))) sNil)) (sLit (.int 1)))) (ybM 4 (sCons (sLit (.str "the heights of the parts differ by more than one")) sNil)) yas)
  (sIf (yaj (sOp2 fGt (sOp2 fAdd (sOp2 fIx (Sm.sFld 0 2 (sVar 0)) (sVar 1)) (sOp2 fIx (Sm.sFld 0 2 (sVar 0)) (sVar 2))) (sLit (.int 1000000000000000000)))) (ybM 5 (sCons (sLit (.str "the fork would have more than 10 ** 18 signs")) sNil)) yas))))))
def ycb : Fn:=mkFn 2 3
  (sSeq (yaM (sBM yaI yaR (Sm.sFld 0 0 (sVar 0)) (sCons (sVar 1) sNil)))
  (sSeq (sSet 2 (yaf fLen (sCons (Sm.sFld 0 0 (sVar 0)) sNil)))
  (sSeq (ydM (Sm.sFld 0 1 (sVar 0)) (sVar 1) (sVar 2))
  (sRet (sVar 2)))))
def ybx : Fn:=mkFn 2 4
  (sSeq (yaM (yak 0 ycb (sVar 0) (sCons (sVar 1) sNil)))
  (sSeq (sSet 2 (sOp2 fIx (sVar 1) (sLit (.int 1))))
  (sSeq (sSet 3 (sOp2 fIx (sVar 1) (sLit (.int 2))))
  (sSeq (yaM (sBM yaI yaR (Sm.sFld 0 2 (sVar 0)) (sCons (sOp2 fAdd (sOp2 fIx (Sm.sFld 0 2 (sVar 0)) (sVar 2)) (sOp2 fIx (Sm.sFld 0 2 (sVar 0)) (sVar 3))) sNil)))
  (sSeq (yaM (sBM yaI yaR (Sm.sFld 0 3 (sVar 0)) (sCons (sOp2 fAdd (sOp2 fIx (Sm.sFld 0 3 (sVar 0)) (sVar 2)) (sOp2 fIx (Sm.sFld 0 3 (sVar 0)) (sVar 3))) sNil)))
  (sSeq (yaM (sBM yaI yaR (Sm.sFld 0 4 (sVar 0)) (sCons (sOp2 fAdd (sOp2 fIx (Sm.sFld 0 4 (sVar 0)) (sVar 2)) (sOp2 fIx (Sm.sFld 0 4 (sVar 0)) (sVar 3))) sNil)))
  (sSeq (yaM (sBM yaI yaR (Sm.sFld 0 5 (sVar 0)) (sCons (sOp2 fAdd (yaf yce (sCons (sOp2 fIx (Sm.sFld 0 5 (sVar 0)) (sVar 2)) (sCons (sOp2 fIx (Sm.sFld 0 5 (sVar 0)) (sVar 3)) sNil))) (sLit (.int 1))) sNil)))
  (sSeq (yaM (sBM yaI yaR (Sm.sFld 0 6 (sVar 0)) (sCons (sOp2 fIx (Sm.sFld 0 6 (sVar 0)) (sVar 2)) sNil)))
  (yaM (sBM yaI yaR (Sm.sFld 0 7 (sVar 0)) (sCons (sOp2 fIx (Sm.sFld 0 7 (sVar 0)) (sVar 3)) sNil)))))))))))
def yae : Fn:=mkFn 3 4
  (sSeq (yaM (yak 0 yaV (sVar 0) (sCons (sVar 1) (sCons (sVar 2) sNil))))
  (sSeq (sSet 3 (sTup (sCons (sLit (.str "fork")) (sCons (sVar 1) (sCons (sVar 2) sNil)))))
  (sSeq (sIf (yaj (sOp2 yeO (sVar 3) (Sm.sFld 0 1 (sVar 0)))) (yaM (yak 0 ybx (sVar 0) (sCons (sVar 3) sNil))) yas)
  (sRet (sOp2 fIx (Sm.sFld 0 1 (sVar 0)) (sVar 3))))))
def ydb (G : Fn) : Fn:=mkFn 3 4
  (sSeq (sSet 3 (yak 0 yaA (sVar 0) (sCons (sVar 1) sNil)))
  (sSeq (sIf (yaj (sOp2 fEq (sOp2 fIx (sVar 3) (sLit (.int 0))) (sLit (.str "leaf")))) (sRet (sVar 2)) yas)
  (sRet (yak 0 yae (sVar 0) (sCons (sOp2 fIx (sVar 3) (sLit (.int 1))) (sCons (yaf G (sCons (sVar 0) (sCons (sOp2 fIx (sVar 3) (sLit (.int 2))) (sCons (sVar 2) sNil)))) sNil))))))
def ya2 : Nat -> Fn
 | 0=>mkFn 3 4 (fun _ _=>.bad)
 | d + 1=>ydb (ya2 d)
def yaL : Fn:=mkFn 3 7
  (sSeq (sIf (yaj (sOp2 fLt (sOp2 fSub (yak 0 yaz (sVar 0) (sCons (sVar 2) sNil)) (yak 0 yaz (sVar 0) (sCons (sVar 1) sNil))) (sLit (.int 2)))) (sRet (yak 0 yae (sVar 0) (sCons (sVar 1) (sCons (sVar 2) sNil)))) yas)
  (sSeq (sSet 3 (yak 0 yaA (sVar 0) (sCons (sVar 2) sNil)))
  (sSeq (sSet 4 (sOp2 fIx (sVar 3) (sLit (.int 1))))
  (sSeq (sSet 5 (sOp2 fIx (sVar 3) (sLit (.int 2))))
  (sSeq (sIf (yaj (sOp2 fLe (yak 0 yaz (sVar 0) (sCons (sVar 4) sNil)) (yak 0 yaz (sVar 0) (sCons (sVar 5) sNil)))) (sRet (yak 0 yae (sVar 0) (sCons (yak 0 yae (sVar 0) (sCons (sVar 1) (sCons (sVar 4) sNil))) (sCons (sVar 5) sNil)))) yas)
  (sSeq (sSet 6 (yak 0 yaA (sVar 0) (sCons (sVar 4) sNil)))
  (sRet (yak 0 yae (sVar 0) (sCons (yak 0 yae (sVar 0) (sCons (sVar 1) (sCons (sOp2 fIx (sVar 6) (sLit (.int 1))) sNil))) (sCons (yak 0 yae (sVar 0) (sCons (sOp2 fIx (sVar 6) (sLit (.int 2))) (sCons (sVar 5) sNil))) sNil))))))))))
def ybT (G : Fn) : Fn:=mkFn 2 4
  (sSeq (sSet 2 (yak 0 yaA (sVar 0) (sCons (sVar 1) sNil)))
  (sSeq (sIf (yaj (sOp2 fEq (sOp2 fIx (sVar 2) (sLit (.int 0))) (sLit (.str "leaf")))) (sRet (sLit (.int 0))) yas)
  (sSeq (sSet 3 (yaf G (sCons (sVar 0) (sCons (sOp2 fIx (sVar 2) (sLit (.int 1))) sNil))))
  (sSeq (sIf (yaj (sOp2 fEq (sVar 3) (sLit (.int 0)))) (sRet (sOp2 fIx (sVar 2) (sLit (.int 2)))) yas)
  (sRet (yaf yaL (sCons (sVar 0) (sCons (sVar 3) (sCons (sOp2 fIx (sVar 2) (sLit (.int 2))) sNil)))))))))
def yaE : Nat -> Fn
 | 0=>mkFn 2 4 (fun _ _=>.bad)
 | d + 1=>ybT (yaE d)
def yaS : Fn:=mkFn 3 7
  (sSeq (sIf (yaj (sOp2 fLt (sOp2 fSub (yak 0 yaz (sVar 0) (sCons (sVar 1) sNil)) (yak 0 yaz (sVar 0) (sCons (sVar 2) sNil))) (sLit (.int 2)))) (sRet (yak 0 yae (sVar 0) (sCons (sVar 1) (sCons (sVar 2) sNil)))) yas)
  (sSeq (sSet 3 (yak 0 yaA (sVar 0) (sCons (sVar 1) sNil)))
  (sSeq (sSet 4 (sOp2 fIx (sVar 3) (sLit (.int 1))))
  (sSeq (sSet 5 (sOp2 fIx (sVar 3) (sLit (.int 2))))
  (sSeq (sIf (yaj (sOp2 fLe (yak 0 yaz (sVar 0) (sCons (sVar 5) sNil)) (yak 0 yaz (sVar 0) (sCons (sVar 4) sNil)))) (sRet (yak 0 yae (sVar 0) (sCons (sVar 4) (sCons (yak 0 yae (sVar 0) (sCons (sVar 5) (sCons (sVar 2) sNil))) sNil)))) yas)
  (sSeq (sSet 6 (yak 0 yaA (sVar 0) (sCons (sVar 5) sNil)))
  (sRet (yak 0 yae (sVar 0) (sCons (yak 0 yae (sVar 0) (sCons (sVar 4) (sCons (sOp2 fIx (sVar 6) (sLit (.int 1))) sNil))) (sCons (yak 0 yae (sVar 0) (sCons (sOp2 fIx (sVar 6) (sLit (.int 2))) (sCons (sVar 2) sNil))) sNil))))))))))
def ydz (G : Fn) : Fn:=mkFn 3 5
  (sSeq (sSet 3 (sOp2 fSub (yak 0 yaz (sVar 0) (sCons (sVar 1) sNil)) (yak 0 yaz (sVar 0) (sCons (sVar 2) sNil))))
  (sSeq (sIf (yaj (sOp2 fGt (sVar 3) (sLit (.int 1)))) (sSeq (sSet 4 (yak 0 yaA (sVar 0) (sCons (sVar 1) sNil)))
  (sRet (yaf yaL (sCons (sVar 0) (sCons (sOp2 fIx (sVar 4) (sLit (.int 1))) (sCons (yaf G (sCons (sVar 0) (sCons (sOp2 fIx (sVar 4) (sLit (.int 2))) (sCons (sVar 2) sNil)))) sNil)))))) yas)
  (sSeq (sIf (yaj (sOp2 fLt (sVar 3) (sOp1 fNeg (sLit (.int 1))))) (sSeq (sSet 4 (yak 0 yaA (sVar 0) (sCons (sVar 2) sNil)))
  (sRet (yaf yaS (sCons (sVar 0) (sCons (yaf G (sCons (sVar 0) (sCons (sVar 1) (sCons (sOp2 fIx (sVar 4) (sLit (.int 1))) sNil)))) (sCons (sOp2 fIx (sVar 4) (sLit (.int 2))) sNil)))))) yas)
  (sRet (yak 0 yae (sVar 0) (sCons (sVar 1) (sCons (sVar 2) sNil)))))))
def ya1 : Nat -> Fn
 | 0=>mkFn 3 5 (fun _ _=>.bad)
 | d + 1=>ydz (ya1 d)
def ybC : Fn:=mkFn 1 1
  (sRet (sOrV (sOp2 fEq (sVar 0) (sLit (.str "\n"))) (yb8 fLe fLe (sLit (.str " ")) (sVar 0) (sLit (.str "~")))))
def ycp : Fn:=mkFn 1 1
  (sSeq (sIf (sNot (yc6 (sIsB "str" (sVar 0)))) (sRet (sLit (.bl false))) yas)
  (sRet (yaf fAll (sCons (ybA [] (iVal (sVar 0)) sYes (yaf ybC (sCons (sVar 0) sNil))) sNil))))
def ycQ : Fn:=mkFn 1 1
  (sRet (yeA (yaf ycp (sCons (sVar 0) sNil)) (yb8 fLe fLe (sLit (.int 1)) (yaf fLen (sCons (sVar 0) sNil)) (sLit (.int 8)))))
def yc8 : Fn:=mkFn 1 1
  (sRet (sBM yeD yeu (sVar 0) (sCons (sLit (.str "\n")) sNil)))
def yby : Fn:=mkFn 2 4
  (sSeq (sSet 2 (yak 0 ycb (sVar 0) (sCons (sVar 1) sNil)))
  (sSeq (sSet 3 (sOp2 fIx (sVar 1) (sLit (.int 1))))
  (sSeq (yaM (sBM yaI yaR (Sm.sFld 0 2 (sVar 0)) (sCons (yaf fLen (sCons (sVar 3) sNil)) sNil)))
  (sSeq (yaM (sBM yaI yaR (Sm.sFld 0 3 (sVar 0)) (sCons (yaf yc8 (sCons (sVar 3) sNil)) sNil)))
  (sSeq (yaM (sBM yaI yaR (Sm.sFld 0 4 (sVar 0)) (sCons (sLit (.int 1)) sNil)))
  (sSeq (yaM (sBM yaI yaR (Sm.sFld 0 5 (sVar 0)) (sCons (sLit (.int 0)) sNil)))
  (sSeq (yaM (sBM yaI yaR (Sm.sFld 0 6 (sVar 0)) (sCons (sVar 2) sNil)))
  (yaM (sBM yaI yaR (Sm.sFld 0 7 (sVar 0)) (sCons (sVar 2) sNil))))))))))
def yav : Fn:=mkFn 2 3
  (sSeq (sIf (sNot (yc6 (yaf ycQ (sCons (sVar 1) sNil)))) (ybM 1 (sCons (sLit (.str "a leaf is a plain text of one to eight signs")) sNil)) yas)
  (sSeq (sSet 2 (sTup (sCons (sLit (.str "leaf")) (sCons (sVar 1) sNil))))
  (sSeq (sIf (yaj (sOp2 yeO (sVar 2) (Sm.sFld 0 1 (sVar 0)))) (yaM (yak 0 yby (sVar 0) (sCons (sVar 2) sNil))) yas)
  (sRet (sOp2 fIx (Sm.sFld 0 1 (sVar 0)) (sVar 2))))))
def ybY : Fn:=mkFn 3 6
  (sSeq (sSet 3 (sOp2 fAdd (sOp2 fIx (yak 0 yaA (sVar 0) (sCons (yak 0 ybt (sVar 0) (sCons (sVar 1) sNil)) sNil)) (sLit (.int 1))) (sOp2 fIx (yak 0 yaA (sVar 0) (sCons (yak 0 ybm (sVar 0) (sCons (sVar 2) sNil)) sNil)) (sLit (.int 1)))))
  (sSeq (sSet 4 (yaf (ya2 90) (sCons (sVar 0) (sCons (sVar 1) (sCons (yak 0 yav (sVar 0) (sCons (sVar 3) sNil)) sNil)))))
  (sSeq (sSet 5 (yaf (yaE 90) (sCons (sVar 0) (sCons (sVar 2) sNil))))
  (sSeq (sIf (yaj (sOp2 fEq (sVar 5) (sLit (.int 0)))) (sRet (sVar 4)) yas)
  (sRet (yaf (ya1 90) (sCons (sVar 0) (sCons (sVar 4) (sCons (sVar 5) sNil)))))))))
def yaq : Fn:=mkFn 3 3
  (sSeq (yaM (yaf ybw (sCons (sOp2 fAdd (yak 0 yaC (sVar 0) (sCons (sVar 1) sNil)) (yak 0 yaC (sVar 0) (sCons (sVar 2) sNil))) sNil)))
  (sSeq (sIf (yaj (sOp2 fEq (sVar 1) (sLit (.int 0)))) (sRet (sVar 2)) yas)
  (sSeq (sIf (yaj (sOp2 fEq (sVar 2) (sLit (.int 0)))) (sRet (sVar 1)) yas)
  (sSeq (sIf (yc6 (yaf ycH (sCons (sVar 0) (sCons (sVar 1) (sCons (sVar 2) sNil))))) (sRet (yaf (ya1 90) (sCons (sVar 0) (sCons (sVar 1) (sCons (sVar 2) sNil))))) yas)
  (sRet (yaf ybY (sCons (sVar 0) (sCons (sVar 1) (sCons (sVar 2) sNil)))))))))
def yc9 (G : Fn) : Fn:=mkFn 3 5
  (sSeq (sIf (yaj (sOp2 fEq (sVar 2) (sLit (.int 0)))) (sRet (sLit (.int 0))) yas)
  (sSeq (sSet 3 (yaf G (sCons (sVar 0) (sCons (sVar 1) (sCons (sOp2 fDiv (sVar 2) (sLit (.int 2))) sNil)))))
  (sSeq (sSet 4 (yaf yaq (sCons (sVar 0) (sCons (sVar 3) (sCons (sVar 3) sNil)))))
  (sSeq (sIf (yaj (sOp2 fEq (sOp2 fMod (sVar 2) (sLit (.int 2))) (sLit (.int 0)))) (sRet (sVar 4)) yas)
  (sRet (yaf yaq (sCons (sVar 0) (sCons (sVar 4) (sCons (sVar 1) sNil)))))))))
def yaW : Nat -> Fn
 | 0=>mkFn 3 5 (fun _ _=>.bad)
 | d + 1=>yc9 (yaW d)
def ybD : Fn:=mkFn 3 4
  (sSeq (sSet 3 (yak 0 yaC (sVar 0) (sCons (sVar 1) sNil)))
  (sSeq (sIf (yaj (sOp2 fLt (sVar 2) (sLit (.int 0)))) (ybM 6 (sCons (sLit (.str "a text is repeated 0 times at least")) sNil)) yas)
  (sSeq (yaM (yaf ybw (sCons (sOp2 fMul (sVar 3) (sVar 2)) sNil)))
  (sSeq (sIf (yaj (sOp2 fEq (sVar 1) (sLit (.int 0)))) (sRet (sLit (.int 0))) yas)
  (sRet (yaf (yaW 64) (sCons (sVar 0) (sCons (sVar 1) (sCons (sVar 2) sNil)))))))))
def yd6 (G : Fn) : Fn:=mkFn 2 3
  (sSeq (sIf (yaj (sOp2 fEq (yaf fLen (sCons (sVar 1) sNil)) (sLit (.int 1)))) (sRet (sOp2 fIx (sVar 1) (sLit (.int 0)))) yas)
  (sSeq (sSet 2 (sOp2 fDiv (yaf fLen (sCons (sVar 1) sNil)) (sLit (.int 2))))
  (sRet (yak 0 yae (sVar 0) (sCons (yaf G (sCons (sVar 0) (sCons (sCut (sVar 1) none (some (sVar 2))) sNil))) (sCons (yaf G (sCons (sVar 0) (sCons (sCut (sVar 1) (some (sVar 2)) none) sNil))) sNil))))))
def ybo : Nat -> Fn
 | 0=>mkFn 2 3 (fun _ _=>.bad)
 | d + 1=>yd6 (ybo d)
def ych : Fn:=mkFn 2 3
  (sSeq (sIf (sNot (yc6 (yaf ycp (sCons (sVar 1) sNil)))) (ybM 1 (sCons (sLit (.str "a text is built of a plain text")) sNil)) yas)
  (sSeq (sIf (yaj (sOp2 fGt (yaf fLen (sCons (sVar 1) sNil)) (sLit (.int 10000)))) (ybM 5 (sCons (sLit (.str "a text is built of ten thousand signs at most")) sNil)) yas)
  (sSeq (sIf (yaj (sOp2 fEq (sVar 1) (sLit (.str "")))) (sRet (sLit (.int 0))) yas)
  (sSeq (sSet 2 (ybA [0,1] (ycV (sLit (.int 0)) (yaf fLen (sCons (sVar 1) sNil)) (sLit (.int 8))) sYes (yak 0 yav (sVar 1) (sCons (sCut (sVar 2) (some (sVar 0)) (some (sOp2 fAdd (sVar 0) (sLit (.int 8))))) sNil))))
  (sRet (yaf (ybo 20) (sCons (sVar 0) (sCons (sVar 2) sNil))))))))
def ycc : Fn:=mkFn 3 4
  (sSeq (sSet 3 (yak 0 yaC (sVar 0) (sCons (sVar 1) sNil)))
  (sIf (sNot (yaj (yb8 fLe fLe (sLit (.int 0)) (sVar 2) (sVar 3)))) (ybM 6 (sCons (sLit (.str "the text has no such place, and does not end there")) sNil)) yas))
def ybJ (G : Fn) : Fn:=mkFn 3 5
  (sSeq (sIf (yaj (sOp2 fEq (sVar 2) (sLit (.int 0)))) (sRet (sLit (.int 0))) yas)
  (sSeq (sIf (yaj (sOp2 fEq (sVar 2) (yak 0 yaC (sVar 0) (sCons (sVar 1) sNil)))) (sRet (sVar 1)) yas)
  (sSeq (sSet 3 (yak 0 yaA (sVar 0) (sCons (sVar 1) sNil)))
  (sSeq (sIf (yaj (sOp2 fEq (sOp2 fIx (sVar 3) (sLit (.int 0))) (sLit (.str "leaf")))) (sRet (yak 0 yav (sVar 0) (sCons (sCut (sOp2 fIx (sVar 3) (sLit (.int 1))) none (some (sVar 2))) sNil))) yas)
  (sSeq (sSet 4 (yak 0 yaC (sVar 0) (sCons (sOp2 fIx (sVar 3) (sLit (.int 1))) sNil)))
  (sSeq (sIf (yaj (sOp2 fLe (sVar 2) (sVar 4))) (sRet (yaf G (sCons (sVar 0) (sCons (sOp2 fIx (sVar 3) (sLit (.int 1))) (sCons (sVar 2) sNil))))) yas)
  (sRet (yaf yaq (sCons (sVar 0) (sCons (sOp2 fIx (sVar 3) (sLit (.int 1))) (sCons (yaf G (sCons (sVar 0) (sCons (sOp2 fIx (sVar 3) (sLit (.int 2))) (sCons (sOp2 fSub (sVar 2) (sVar 4)) sNil)))) sNil)))))))))))
def yat : Nat -> Fn
 | 0=>mkFn 3 5 (fun _ _=>.bad)
 | d + 1=>ybJ (yat d)
def ybZ (G : Fn) : Fn:=mkFn 3 5
  (sSeq (sIf (yaj (sOp2 fEq (sVar 2) (sLit (.int 0)))) (sRet (sVar 1)) yas)
  (sSeq (sIf (yaj (sOp2 fEq (sVar 2) (yak 0 yaC (sVar 0) (sCons (sVar 1) sNil)))) (sRet (sLit (.int 0))) yas)
  (sSeq (sSet 3 (yak 0 yaA (sVar 0) (sCons (sVar 1) sNil)))
  (sSeq (sIf (yaj (sOp2 fEq (sOp2 fIx (sVar 3) (sLit (.int 0))) (sLit (.str "leaf")))) (sRet (yak 0 yav (sVar 0) (sCons (sCut (sOp2 fIx (sVar 3) (sLit (.int 1))) (some (sVar 2)) none) sNil))) yas)
  (sSeq (sSet 4 (yak 0 yaC (sVar 0) (sCons (sOp2 fIx (sVar 3) (sLit (.int 1))) sNil)))
  (sSeq (sIf (yaj (sOp2 fGe (sVar 2) (sVar 4))) (sRet (yaf G (sCons (sVar 0) (sCons (sOp2 fIx (sVar 3) (sLit (.int 2))) (sCons (sOp2 fSub (sVar 2) (sVar 4)) sNil))))) yas)
  (sRet (yaf yaq (sCons (sVar 0) (sCons (yaf G (sCons (sVar 0) (sCons (sOp2 fIx (sVar 3) (sLit (.int 1))) (sCons (sVar 2) sNil)))) (sCons (sOp2 fIx (sVar 3) (sLit (.int 2))) sNil)))))))))))
def yau : Nat -> Fn
 | 0=>mkFn 3 5 (fun _ _=>.bad)
 | d + 1=>ybZ (yau d)
def ybp : Fn:=mkFn 3 3
  (sSeq (yaM (yaf ycc (sCons (sVar 0) (sCons (sVar 1) (sCons (sVar 2) sNil)))))
  (sRet (sTup (sCons (yaf (yat 90) (sCons (sVar 0) (sCons (sVar 1) (sCons (sVar 2) sNil)))) (sCons (yaf (yau 90) (sCons (sVar 0) (sCons (sVar 1) (sCons (sVar 2) sNil)))) sNil)))))
def ybz : Fn:=mkFn 4 6
  (sSeq (sSet 4 (sOp2 fAdd (yak 0 yaC (sVar 0) (sCons (sVar 1) sNil)) (yak 0 yaC (sVar 0) (sCons (sVar 3) sNil))))
  (sSeq (yaM (yaf ycc (sCons (sVar 0) (sCons (sVar 1) (sCons (sVar 2) sNil)))))
  (sSeq (yaM (yaf ybw (sCons (sVar 4) sNil)))
  (sSeq (sSet 5 (yaf yaq (sCons (sVar 0) (sCons (yaf (yat 90) (sCons (sVar 0) (sCons (sVar 1) (sCons (sVar 2) sNil)))) (sCons (sVar 3) sNil)))))
  (sRet (yaf yaq (sCons (sVar 0) (sCons (sVar 5) (sCons (yaf (yau 90) (sCons (sVar 0) (sCons (sVar 1) (sCons (sVar 2) sNil)))) sNil)))))))))
def ybE : Fn:=mkFn 4 5
  (sSeq (sSet 4 (yak 0 yaC (sVar 0) (sCons (sVar 1) sNil)))
  (sIf (sNot (yaj (yev fLe fLe fLe (sLit (.int 0)) (sVar 2) (sVar 3) (sVar 4)))) (ybM 6 (sCons (sLit (.str "the text has no such stretch")) sNil)) yas))
def ybk : Fn:=mkFn 4 4
  (sSeq (yaM (yaf ybE (sCons (sVar 0) (sCons (sVar 1) (sCons (sVar 2) (sCons (sVar 3) sNil))))))
  (sRet (yaf yaq (sCons (sVar 0) (sCons (yaf (yat 90) (sCons (sVar 0) (sCons (sVar 1) (sCons (sVar 2) sNil)))) (sCons (yaf (yau 90) (sCons (sVar 0) (sCons (sVar 1) (sCons (sVar 3) sNil)))) sNil))))))
def ybv : Fn:=mkFn 4 4
  (sSeq (yaM (yaf ybE (sCons (sVar 0) (sCons (sVar 1) (sCons (sVar 2) (sCons (sVar 3) sNil))))))
  (sRet (yaf (yau 90) (sCons (sVar 0) (sCons (yaf (yat 90) (sCons (sVar 0) (sCons (sVar 1) (sCons (sVar 3) sNil)))) (sCons (sVar 2) sNil))))))
def yaB : Fn:=mkFn 2 8
  (sSeq (yeB (.tup [2,3,4,5]) (sVar 1))
  (sSeq (sIf (yaj (sOp2 fEq (sVar 2) (sLit (.str "built")))) (sRet (sLst (sCons (yaf ych (sCons (sVar 0) (sCons (sVar 4) sNil))) sNil))) yas)
  (sSeq (sSet 6 (sOp2 fIx (sOp2 fIx (sVar 3) (sLit (.int 0))) (sLit (.int 0))))
  (sSeq (sSet 7 (sOp2 fIx (sOp2 fIx (sVar 3) (sLit (.int 1))) (sLit (.int 0))))
  (sSeq (sIf (yaj (sOp2 fEq (sVar 2) (sLit (.str "joined")))) (sRet (sLst (sCons (yaf yaq (sCons (sVar 0) (sCons (sVar 6) (sCons (sVar 7) sNil)))) sNil))) yas)
  (sSeq (sIf (yaj (sOp2 fEq (sVar 2) (sLit (.str "cut")))) (sRet (yaf yeV (sCons (yaf ybp (sCons (sVar 0) (sCons (sVar 6) (sCons (sVar 4) sNil)))) sNil))) yas)
  (sSeq (sIf (yaj (sOp2 fEq (sVar 2) (sLit (.str "put")))) (sRet (sLst (sCons (yaf ybz (sCons (sVar 0) (sCons (sVar 6) (sCons (sVar 4) (sCons (sVar 7) sNil))))) sNil))) yas)
  (sSeq (sIf (yaj (sOp2 fEq (sVar 2) (sLit (.str "taken")))) (sRet (sLst (sCons (yaf ybk (sCons (sVar 0) (sCons (sVar 6) (sCons (sVar 4) (sCons (sVar 5) sNil))))) sNil))) yas)
  (sSeq (sIf (yaj (sOp2 fEq (sVar 2) (sLit (.str "kept")))) (sRet (sLst (sCons (yaf ybv (sCons (sVar 0) (sCons (sVar 6) (sCons (sVar 4) (sCons (sVar 5) sNil))))) sNil))) yas)
  (sRet (sLst (sCons (yaf ybD (sCons (sVar 0) (sCons (sVar 6) (sCons (sVar 4) sNil)))) sNil))))))))))))
def yaT : SS :=
  (sSeq (sSet 4 (sBM0 yaI mPop (sVar 3)))
  (sIf (yaj (sOp2 fNe (sVar 4) (sLit (.int 0)))) (sSeq (sSet 5 (yak 0 yaA (sVar 0) (sCons (sVar 4) sNil)))
  (sIf (yaj (sOp2 fEq (sOp2 fIx (sVar 5) (sLit (.int 0))) (sLit (.str "leaf")))) (yaM (sBM yaI yaR (sVar 2) (sCons (sOp2 fIx (sVar 5) (sLit (.int 1))) sNil))) (yaM (sBM yaI ydY (sVar 3) (sCons (ybG (sCons (sOp2 fIx (sVar 5) (sLit (.int 2))) (sCons (sOp2 fIx (sVar 5) (sLit (.int 1))) sNil))) sNil))))) yas))
def ybc : Fn:=mkFn 2 6
  (sSeq (sSet 2 (ybG sNil))
  (sSeq (sSet 3 (ybG (sCons (sVar 1) sNil)))
  (sSeq (ybs (yaj (sOp2 fNe (sVar 3) (sLst sNil))) yaT yco)
  (sRet (sBM yeD yc7 (sLit (.str "")) (sCons (sVar 2) sNil))))))
def ycR (G : Fn) : Fn:=mkFn 3 7
  (sSeq (sIf (yaj (sOp2 fIn (sVar 1) (sVar 2))) (sRet (sOp2 fIx (sVar 2) (sVar 1))) yas)
  (sSeq (sSet 3 (yak 0 yaA (sVar 0) (sCons (sVar 1) sNil)))
  (sSeq (sSet 4 (sTup sNil))
  (sSeq (sIf (sAnd (yaj (sOp2 fEq (sOp2 fIx (sVar 3) (sLit (.int 0))) (sLit (.str "leaf")))) (sAnd (yc6 (sIsB "str" (sOp2 fIx (sVar 3) (sLit (.int 1))))) (yaj (yb8 fLt fLt (sLit (.int 0)) (yaf fLen (sCons (sOp2 fIx (sVar 3) (sLit (.int 1))) sNil)) (sLit (.int 9)))))) (sSet 4 (sTup (sCons (sLit (.int 0)) (sCons (yaf fLen (sCons (sOp2 fIx (sVar 3) (sLit (.int 1))) sNil)) (sCons (yaf fLen (sCons (sOp2 fIx (sVar 3) (sLit (.int 1))) sNil)) (sCons (yaf fLen (sCons (sOp2 fIx (sVar 3) (sLit (.int 1))) sNil)) (sCons (sLit (.int 1)) sNil))))))) yas)
  (sSeq (sIf (sAnd (yaj (sOp2 fEq (sOp2 fIx (sVar 3) (sLit (.int 0))) (sLit (.str "fork")))) (sAnd (yaj (yb8 fLt fLt (sLit (.int 0)) (sOp2 fIx (sVar 3) (sLit (.int 1))) (sVar 1))) (yaj (yb8 fLt fLt (sLit (.int 0)) (sOp2 fIx (sVar 3) (sLit (.int 2))) (sVar 1))))) (sSeq (sSet 5 (yaf G (sCons (sVar 0) (sCons (sOp2 fIx (sVar 3) (sLit (.int 1))) (sCons (sVar 2) sNil)))))
  (sSeq (sSet 6 (yaf G (sCons (sVar 0) (sCons (sOp2 fIx (sVar 3) (sLit (.int 2))) (sCons (sVar 2) sNil)))))
  (sIf (sAnd (yaj (sOp2 fNe (sVar 5) (sTup sNil))) (sAnd (yaj (sOp2 fNe (sVar 6) (sTup sNil))) (sAnd (yaj (sOp2 fLt (yaf fAbs (sCons (sOp2 fSub (sOp2 fIx (sVar 5) (sLit (.int 0))) (sOp2 fIx (sVar 6) (sLit (.int 0)))) sNil)) (sLit (.int 2)))) (yaj (sOp2 fGt (sOp2 fAdd (sOp2 fIx (sVar 5) (sLit (.int 3))) (sOp2 fIx (sVar 6) (sLit (.int 2)))) (sLit (.int 8))))))) (sSet 4 (sTup (sCons (sOp2 fAdd (sLit (.int 1)) (yaf yce (sCons (sOp2 fIx (sVar 5) (sLit (.int 0))) (sCons (sOp2 fIx (sVar 6) (sLit (.int 0))) sNil)))) (sCons (sOp2 fAdd (sOp2 fIx (sVar 5) (sLit (.int 1))) (sOp2 fIx (sVar 6) (sLit (.int 1)))) (sCons (sOp2 fIx (sVar 5) (sLit (.int 2))) (sCons (sOp2 fIx (sVar 6) (sLit (.int 3))) (sCons (sOp2 fAdd (sOp2 fIx (sVar 5) (sLit (.int 4))) (sOp2 fIx (sVar 6) (sLit (.int 4)))) sNil))))))) yas))) yas)
  (sSeq (ydM (sVar 2) (sVar 1) (sVar 4))
  (sRet (sVar 4))))))))
def yaY : Nat -> Fn
 | 0=>mkFn 3 7 (fun _ _=>.bad)
 | d + 1=>ycR (yaY d)
def ybP : Fn:=mkFn 2 2
  (sRet (sOrV (sOp2 fEq (sVar 1) (sLit (.int 0))) (sOp2 fNe (yaf (yaY 20) (sCons (sVar 0) (sCons (sVar 1) (sCons (yez false) sNil)))) (sTup sNil))))
def ybq : SS :=
  (sIf (sOr (yaj (sOp2 fNe (yaf ybc (sCons (sVar 0) (sCons (sVar 6) sNil))) (sVar 7))) (sNot (yc6 (yaf ybP (sCons (sVar 0) (sCons (sVar 6) sNil)))))) (sRet (sLst sNil)) yas)
def ycd : Fn:=mkFn 3 8
  (sSeq (sSet 3 (yak 0 ybl (sVar 0) sNil))
  (sSeq (sSet 4 (yaf yaQ (sCons (sVar 0) (sCons (sVar 1) sNil))))
  (sSeq (sSet 5 (yaf yaB (sCons (sVar 0) (sCons (sVar 1) sNil))))
  (sSeq (sIf (sAnd (yaj (sOp2 fGe (sVar 4) (sLit (.int 0)))) (yaj (sOp2 fGt (sOp2 fSub (yak 0 ybl (sVar 0) sNil) (sVar 3)) (sVar 4)))) (sRet (sLst sNil)) yas)
  (sSeq (ydy (yem (sVar 5) (sVar 2)) (.tup [6,7]) ybq)
  (sRet (sVar 5)))))))
def ycz : SS :=
  (yaM (sBM yaI ydt (sVar 2) (sCons (yaf yax (sCons (sVar 6) (sCons (yaf fLen (sCons (sVar 2) sNil)) sNil))) sNil)))
def yci : SS :=
  (sSeq (sSet 6 (yaf ybX (sCons (sVar 5) (sCons (sVar 4) sNil))))
  (sSeq (sSet 7 (yaf ybu (sCons (sVar 2) (sCons (sVar 6) sNil))))
  (sSeq (sSet 8 (yaf ybe (sCons (sVar 7) sNil)))
  (sIf (yaj (sOp2 fLe (yaf yd1 (sCons (ybA [] (iVal (sVar 8)) sYes (yaf fLen (sCons (sVar 0) sNil))) sNil)) (sLit (.int 1500)))) (sSeq (sSet 9 (yaf ycd (sCons (sVar 1) (sCons (sVar 7) (sCons (sVar 8) sNil)))))
  (sSeq (sIf (yaj (sOp2 fEq (sVar 9) (sLst sNil))) (sRet (sLit (.bl false))) yas)
  (sSeq (yaM (sBM yaI yaR (sVar 3) (sCons (sTup (sCons (sVar 7) (sCons (sVar 9) (sCons (sVar 8) sNil)))) sNil)))
  (sSeq (sSet 2 (sOp2 ydZ (sVar 2) (ycY (sVar 9) (sVar 8))))
  (ybs (yaj (sOp2 fGt (yaf fLen (sCons (sVar 2) sNil)) (sLit (.int 8)))) ycz yco))))) yas))))
def ycj : SS :=
  (sIf (sOr (yaj (sOp2 fNe (yaf yaB (sCons (sVar 1) (sCons (sVar 7) sNil))) (sVar 9))) (yaj (sOp2 fNe (ybA [1] (iVal (sVar 9)) sYes (yaf ybc (sCons (sVar 1) (sCons (sVar 0) sNil)))) (sVar 8)))) (sRet (sLit (.bl false))) yas)
def yfb : Fn:=mkFn 1 11
  (sSeq (sSet 1 (yeC 0 8 ybW sNil))
  (sSeq (sSet 2 (sLst sNil))
  (sSeq (sSet 3 (ybG sNil))
  (sSeq (sFor (Sm.iEnum (sOp2 fAdd (sVar 0) (sLst (sCons (sLit (.int 0)) (sCons (sLit (.int 1)) (sCons (sLit (.int 2)) sNil)))))) (.tup [4,5]) yci)
  (sSeq (sSet 10 (yak 0 ybl (sVar 1) sNil))
  (sSeq (sFor (yeg (sVar 3)) (.tup [7,9,8]) ycj)
  (sRet (sOp2 fEq (yak 0 ybl (sVar 1) sNil) (sVar 10)))))))))
end Sk
set_option exponentiation.threshold 2000
namespace Sk
open PySem PySem.Spec L2 Sm
theorem zfC {w : Option Nat} {all : List AV} {t : Tg} {b : SS} (P : Nat -> En -> AH -> Prop) : ∀ (xs : List AV) (i : Nat) (en : En) (h : AH),P i en h ->
  (∀ i en h,P i en h -> ybi w all h = true) ->
  (∀ (j : Nat) (x : AV) (en : En) (h : AH),xs[j]? = some x -> P (i + j) en h -> ∃ e1 e2 h2,setT t x en = some e1 /\ (b e1 h = .nx e2 h2 \/ b e1 h = .ct e2 h2) /\ P (i + j + 1) e2 h2) ->
  ∃ e' h',ya7 w all t b xs en h = .nx e' h' /\ P (i + xs.length) e' h'
 | [],i,en,h,p,lv,_=>⟨en,h,by unfold ya7; rw [if_pos (lv _ _ _ p)],p⟩
 | x :: xs,i,en,h,p,lv,s=>by
  obtain ⟨e1,e2,h2,q1,q2,q3⟩:=s 0 x en h rfl p
  obtain ⟨e',h',r1,r2⟩:=zfC P xs (i + 1) e2 h2 q3 lv fun j y en h e q=>by
   have:=s (j + 1) y en h (by simpa using e) (by rw [show i + (j + 1) = i + 1 + j by lia]; exact q)
   rw [show i + (j + 1) + 1 = i + 1 + j + 1 by lia] at this
   exact this
  refine ⟨e',h',?_,by rw [List.length_cons,show i + (xs.length + 1) = i + 1 + xs.length by lia]; exact r2⟩
  unfold ya7
  rw [if_pos (lv _ _ _ p)]
  simp only [q1]
  rcases q2 with q2 | q2
  ·rw [q2]; exact r1
  ·rw [q2]; exact r1
theorem zdK {c : SB} {b : SS} (P : Nat -> En -> AH -> Prop) (Q : En -> AH -> Prop) : ∀ (fuel n : Nat) (en : En) (h : AH),P n en h -> n < fuel ->
  (∀ n en h,P n en h -> (∃ h1,c en h = .ok false h1 /\ Q en h1) \/ (∃ n' h1 e2 h2,n' < n /\ c en h = .ok true h1 /\ (b en h1 = .nx e2 h2 \/ b en h1 = .ct e2 h2) /\ P n' e2 h2)) ->
  ∃ e' h',ybs c b fuel en h = .nx e' h' /\ Q e' h'
 | 0,n,en,h,_,l,_=>absurd l (Nat.not_lt_zero _)
 | fuel + 1,n,en,h,p,l,s=>by
  rcases s n en h p with ⟨h1,q1,q2⟩ | ⟨n',h1,e2,h2,q0,q1,q2,q3⟩
  ·refine ⟨en,h1,?_,q2⟩
   unfold ybs; rw [q1]
  ·obtain ⟨e',h',r1,r2⟩:=zdK P Q fuel n' e2 h2 q3 (by lia) s
   refine ⟨e',h',?_,r2⟩
   unfold ybs; rw [q1]
   rcases q2 with q2 | q2
   ·simp only [q2]; exact r1
   ·simp only [q2]; exact r1
@[simp] def thn (o : OutS) (Q : En -> AH -> Prop) : Prop:=match o with
 | .nx e h=>Q e h
 | .ct e h=>Q e h
 | _=>False
theorem yfz {o : OutS} {Q : En -> AH -> Prop} (t : thn o Q) : ∃ e h,(o = .nx e h \/ o = .ct e h) /\ Q e h:=by
 cases o with
 | nx e h=>exact ⟨e,h,.inl rfl,t⟩
 | ct e h=>exact ⟨e,h,.inr rfl,t⟩
 | _=>exact t.elim
@[simp] def ygU (o : Option En) (Q : En -> Prop) : Prop:=match o with
 | some e=>Q e
 | none=>False
theorem yeJ {w : Option Nat} {all : List AV} {t : Tg} {b : SS} {xs : List AV} {en : En} {h : AH} (P : Nat -> En -> AH -> Prop) (p0 : P 0 en h) (lv : ∀ i en h,P i en h -> ybi w all h = true)
  (st : ∀ (j : Nat) (x : AV) (en : En) (h : AH),xs[j]? = some x -> P j en h -> ygU (setT t x en) fun e1=>thn (b e1 h) (P (j + 1))) :
  ∃ e' h',ya7 w all t b xs en h = .nx e' h' /\ P xs.length e' h' := by
 have:=zfC (w:=w) (all:=all) (t:=t) (b:=b) P xs 0 en h p0 lv fun j x en h hx hp=>by
  have q:=st j x en h hx (by simpa using hp)
  cases z : setT t x en with
  | none=>rw [z] at q; exact q.elim
  | some e1 =>
   rw [z] at q
   obtain ⟨e,h2,a,c⟩:=yfz q
   exact ⟨e1,e,h2,rfl,a,by simpa using c⟩
 simpa using this
theorem zdg {c : SB} {b : SS} {fuel n : Nat} {en : En} {h : AH} (P : Nat -> En -> AH -> Prop) (Q : En -> AH -> Prop) (p0 : P n en h) (hn : n < fuel)
  (st : ∀ n en h,P n en h -> match c en h with
   | .ok true h1=>thn (b en h1) fun e2 h2=>∃ n',n' < n /\ P n' e2 h2
   | .ok false h1=>Q en h1
   | _=>False) :
  ∃ e' h',ybs c b fuel en h = .nx e' h' /\ Q e' h' := by
 refine zdK P Q fuel n en h p0 hn fun n en h p=>?_
 have q:=st n en h p
 cases z : c en h with
 | ok x h1 =>
  rw [z] at q
  cases x with
  | true =>
   obtain ⟨e,h2,a,n',l,c⟩:=yfz q
   exact .inr ⟨n',h1,e,h2,l,rfl,a,c⟩
  | false=>exact .inl ⟨h1,rfl,q⟩
 | ex _ _=>rw [z] at q; exact q.elim
 | bad=>rw [z] at q; exact q.elim
@[simp] def yhW (o : Out AV) (Q : AV -> AH -> Prop) : Prop:=match o with
 | .ok v h=>Q v h
 | _=>False
theorem zfD {js : List Nat} {en : En} {all : List AV} {e : SE} (P : Nat -> List AV -> AH -> Prop) : ∀ (xs ys : List AV) (i : Nat) (h : AH),P i ys h ->
  (∀ j x ys h,xs[j]? = some x -> P (i + j) ys h -> ∃ v h2,e (some x :: js.map fun j=>(en[j]?).join) h = .ok v h2 /\ P (i + j + 1) (ys++[v]) h2) -> ys.length + xs.length <= sizeLine ->
  ∃ zs h',yaX js en none all sYes e xs ys h = .ok zs h' /\ P (i + xs.length) zs h'
 | [],ys,i,h,p,_,_=>⟨ys,h,by simp [yaX],p⟩
 | x :: xs,ys,i,h,p,s,hl=>by
  obtain ⟨v,h2,q1,q2⟩:=s 0 x ys h rfl p
  obtain ⟨zs,h',r1,r2⟩:=zfD P xs (ys++[v]) (i + 1) h2 q2 (fun j y ys h hy hp=>by
   have:=s (j + 1) y ys h (by simpa using hy) (by rw [show i + (j + 1) = i + 1 + j by lia]; exact hp)
   rw [show i + (j + 1) + 1 = i + 1 + j + 1 by lia] at this
   exact this) (by simp at hl ⊢; lia)
  refine ⟨zs,h',?_,by rw [List.length_cons,show i + (xs.length + 1) = i + 1 + xs.length by lia]; exact r2⟩
  unfold yaX
  rw [if_pos ⟨rfl,by simp at hl; lia⟩]
  simp only [sYes]
  rw [q1]
  exact r1
theorem yfA {js : List Nat} {en : En} {all : List AV} {e : SE} {xs : List AV} {h : AH} (P : Nat -> List AV -> AH -> Prop) (p0 : P 0 [] h)
  (st : ∀ j x ys h,xs[j]? = some x -> P j ys h -> yhW (e (some x :: js.map fun j=>(en[j]?).join) h) fun v h2=>P (j + 1) (ys++[v]) h2) (hl : xs.length <= sizeLine) :
  ∃ zs h',yaX js en none all sYes e xs [] h = .ok zs h' /\ P xs.length zs h' := by
 have:=zfD (js:=js) (en:=en) (all:=all) (e:=e) P xs [] 0 h p0 (fun j x ys h hx p=>by
  have q:=st j x ys h hx (by simpa using p)
  cases z : e (some x :: js.map fun j=>(en[j]?).join) h with
  | ok v h2=>rw [z] at q; exact ⟨v,h2,rfl,by simpa using q⟩
  | ex _ _=>rw [z] at q; exact q.elim
  | bad=>rw [z] at q; exact q.elim) (by simpa using hl)
 simpa using this
theorem zdL : ∀ (n : Nat) (lo : Int) (i : Nat),(ya8 lo n)[i]? = if i < n then some (.int (lo + i)) else none
 | 0,lo,i=>by simp [ya8]
 | n + 1,lo,0=>by simp [ya8]
 | n + 1,lo,i + 1=>by
  unfold ya8
  rw [List.getElem?_cons_succ,zdL n (lo + 1) i]
  by_cases q : i < n
  ·rw [if_pos q,if_pos (by lia)]; congr 2; lia
  ·rw [if_neg q,if_neg (by lia)]
theorem zbw : ∀ (n : Nat) (lo : Int),(ya8 lo n).length = n
 | 0,_=>rfl
 | n + 1,lo=>by unfold ya8; rw [List.length_cons,zbw n]
theorem zdM {a : SE} {en : En} {h h1 : AH} {n : Nat} (e : a en h = .ok (.int n) h1) (hn : n <= 10000000) : ycy a en h = .ok (ya8 0 n,none) h1:=by
 have h1' : (n : Int).natAbs < 2 ^ 62:=by lia
 simp only [ycy,e,Out.bind]
 rw [if_pos h1']; rfl
theorem yen {it : SI} {t : Tg} {b : SS} {en : En} {h h1 : AH} {xs : List AV} {w : Option Nat} (e : it en h = .ok (xs,w) h1) : sFor it t b en h = ya7 w xs t b xs en h1:=by simp only [sFor,e]
theorem yeW {i j : Int} {h : AH} (hi : i.natAbs < 2 ^ 64) : fMul (.int i) (.int j) h = .ok (.int (i * j)) h:=if_pos (.inl (.inl hi))
theorem ygV {i j : Int} {h : AH} (hj : j.natAbs < 2 ^ 64) : fMul (.int i) (.int j) h = .ok (.int (i * j)) h:=if_pos (.inl (.inr hj))
theorem zeo {α : Type} {f : α -> AV} {l : List α} {j : Nat} {q : α} (e : l[j]? = some q) : atI (l.map f) (j : Int) = some (f q):=zc6 (by simp [e])
end Sk
set_option exponentiation.threshold 5000
namespace Sk
open PySem PySem.Spec L2 Sm
def ydu (c : Nat) : Bool:=decide (c = 10) || (decide (32 <= c) && decide (c <= 126))
theorem lt1 (a b : Nat) : ([a] < [b]) ↔ a < b:=by
 simp [List.cons_lt_cons_iff]
theorem yfB : (Str.ofString "\n") = ⟨#[10]⟩:=by decide +kernel
theorem ygW : (Str.ofString " ") = ⟨#[32]⟩:=by decide +kernel
theorem ygX : (Str.ofString "~") = ⟨#[126]⟩:=by decide +kernel
theorem ygY (c : Nat) (h : AH) : ybC [.str ⟨#[c]⟩] h = .ok (.bl (ydu c)) h:=by
 simp [ybC,yfB,ygW,ygX,lt1,ydu]
 by_cases h1 : c = 10
 ·simp [h1]
 ·by_cases h2 : c < 32
  ·have : ¬ 32 <= c:=by lia
   simp [h1,h2,this]
  ·have h3 : 32 <= c:=by lia
   by_cases h4 : c <= 126
   ·have : ¬ 126 < c:=by lia
    simp [h1,h2,h3,h4,this]
   ·have : 126 < c:=by lia
    simp [h1,h2,h3,h4,this]
theorem zep {α : Type} {js : List Nat} {en : En} {all : List AV} {e : SE} {g f : α -> AV} {h : AH} : ∀ (cs : List α) (ys : List AV),(∀ c ∈ cs,e (some (g c) :: js.map fun j=>(en[j]?).join) h = .ok (f c) h) -> ys.length + cs.length <= sizeLine -> yaX js en none all sYes e (cs.map g) ys h = .ok (ys++cs.map f) h
 | [],ys,_,_=>by simp [yaX]
 | x :: xs,ys,he,hl=>by
  have hl' : ys.length < sizeLine:=by simp at hl; lia
  rw [List.map_cons]
  unfold yaX
  rw [if_pos ⟨rfl,hl'⟩]
  simp only [sYes]
  rw [he x (by simp)]
  dsimp only
  rw [zep xs (ys++[f x]) (fun y hy=>he y (by simp [hy])) (by simp at hl ⊢; lia)]
  simp
theorem zdN (f : Nat -> Bool) : ∀ cs : List Nat,ydp (cs.map fun c=>.bl (f c)) = some (cs.map f)
 | []=>rfl
 | c :: cs=>by simp [zdN f cs]
def yaD (x : Str) : Bool:=x.cps.toList.all ydu
theorem zdh (x : Str) (h : AH) (hl : x.length <= sizeLine) : ycp [.str x] h = .ok (.bl (yaD x)) h:=by
 have e:=zep (js:=[]) (en:=[some (.str x)]) (all:=x.cps.toList.map fun c=>AV.str ⟨#[c]⟩) (e:=yaf ybC (sCons (sVar 0) sNil)) (g:=fun c=>AV.str ⟨#[c]⟩) (f:=fun c=>AV.bl (ydu c)) (h:=h) x.cps.toList [] (by
  intro c hc
  simp [ygY]) (by simp; exact hl)
 simp only [List.nil_append] at e
 simp [ycp]
 rw [e]
 simp [zdN,yaD]
def ybf (x : Str) : Bool:=yaD x && (decide (1 <= x.length) && decide (x.length <= 8))
theorem zfE (x : Str) (h : AH) (hl : x.length <= sizeLine) : ycQ [.str x] h = .ok (.bl (ybf x)) h:=by
 simp [ycQ,zdh x h hl,ybf]
 by_cases h1 : yaD x = true
 ·by_cases h2 : 1 <= x.length
  ·have : (1 : Int) <= x.length:=by lia
   by_cases h3 : x.length <= 8
   ·have : (x.length : Int) <= 8:=by lia
    simp [*]
   ·have : ¬ (x.length : Int) <= 8:=by lia
    simp [*]
  ·have : ¬ (1 : Int) <= x.length:=by lia
   simp [*]
 ·simp [h1]
def ycS (x : Str) : Nat:=(Builtin.Str.occurrences x ⟨#[10]⟩ 0 x.length (x.length + 1)).length
theorem ygZ (x : Str) (h : AH) : yc8 [.str x] h = .ok (.int (ycS x)) h:=by
 simp [yc8,yfB,ycS]
theorem zje (i : Int) (h : AH) : ycP [.int i] h = .ok (.bl true) h:=by
 simp [ycP]
inductive Pc where
 | leaf (x : Str)
 | fork (a b : Nat)
 deriving DecidableEq
def Pc.av : Pc -> AV
 | .leaf x=>.tup [.str "leaf",.str x]
 | .fork a b=>.tup [.str "fork",.int a,.int b]
theorem Pc.av_inj : ∀ {p q : Pc},p.av = q.av -> p = q
 | .leaf x,.leaf y,e=>by simp [Pc.av] at e; rw [e]
 | .leaf x,.fork a b,e=>by simp [Pc.av] at e
 | .fork a b,.leaf x,e=>by simp [Pc.av] at e
 | .fork a b,.fork c d,e=>by simp [Pc.av] at e; rw [Int.ofNat.inj e.1,Int.ofNat.inj e.2]
structure Ms where
 sg : Nat
 en : Nat
 lv : Nat
 ht : Int
 fl : Nat
 ll : Nat
def ms0 : Ms:=⟨0,0,0,-1,0,0⟩
def ycq (ms : List Ms) : Pc -> Ms
 | .leaf x=>⟨x.length,ycS x,1,0,ms.length,ms.length⟩
 | .fork a b=>⟨(ms.getD a ms0).sg + (ms.getD b ms0).sg,(ms.getD a ms0).en + (ms.getD b ms0).en,(ms.getD a ms0).lv + (ms.getD b ms0).lv,max (ms.getD a ms0).ht (ms.getD b ms0).ht + 1,(ms.getD a ms0).fl,(ms.getD b ms0).ll⟩
def meas (ps : List Pc) : List Ms:=ps.foldl (fun ms q=>ms++[ycq ms q]) [ms0]
theorem zbQ (ps : List Pc) (q : Pc) : meas (ps++[q]) = meas ps++[ycq (meas ps) q]:=by simp [meas]
theorem zas : ∀ ps : List Pc,(meas ps).length = ps.length + 1:=by
 have all : ∀ (ps : List Pc) (ms : List Ms),(ps.foldl (fun ms q=>ms++[ycq ms q]) ms).length = ms.length + ps.length:=by
  intro ps
  induction ps with
  | nil=>intro ms; rfl
  | cons q r ih=>intro ms; rw [List.foldl_cons,ih]; simp; lia
 intro ps
 rw [meas,all]; simp; lia
def ybh (k : Nat) : List Pc -> List (AV × AV)
 | []=>[]
 | q :: r=>(q.av,.int k) :: ybh (k + 1) r
def tab (ps : List Pc) : List (AV × AV):=ybh 1 ps
theorem zaU (q : Pc) : ∀ (ps : List Pc) (k : Nat),ybh k (ps++[q]) = ybh k ps++[(q.av,.int ((k + ps.length : Nat) : Int))]
 | [],k=>by simp [ybh]
 | p :: r,k=>by
  simp only [List.cons_append,ybh,zaU q r (k + 1)]
  rw [show k + 1 + r.length = k + (p :: r).length by simp; lia]
theorem zfF : ∀ (ps : List Pc) (k : Nat),(ybh k ps).length = ps.length
 | [],_=>rfl
 | p :: r,k=>by simp [ybh,zfF r]
theorem zbx {q : Pc} : ∀ {ps : List Pc} {k : Nat},q ∉ ps -> valA (ybh k ps) q.av = none
 | [],k,_=>rfl
 | p :: r,k,h=>by
  have h1 : ¬ p.av = q.av:=fun e=>h (by rw [Pc.av_inj e]; simp)
  have h2:=zbx (q:=q) (ps:=r) (k:=k + 1) fun z=>h (by simp [z])
  unfold valA at h2 ⊢
  simp only [ybh,List.find?_cons,decide_eq_false h1]
  exact h2
theorem zcA {q : Pc} : ∀ {ps : List Pc} {k i : Nat},ps.Nodup -> ps[i]? = some q -> valA (ybh k ps) q.av = some (.int ((k + i : Nat) : Int))
 | [],k,i,_,e=>by simp at e
 | p :: r,k,0,n,e=>by simp at e; subst e; simp [valA,ybh]
 | p :: r,k,i + 1,n,e=>by
  simp at e
  have h1 : ¬ p.av = q.av:=fun z=>(List.nodup_cons.mp n).1 (by rw [Pc.av_inj z]; exact List.mem_of_getElem? e)
  have h2:=zcA (q:=q) (k:=k + 1) (List.nodup_cons.mp n).2 e
  unfold valA at h2 ⊢
  simp only [ybh,List.find?_cons,decide_eq_false h1]
  rw [h2]
  congr 3
  lia
theorem zjf {q : Pc} {ps : List Pc} (h : q ∉ ps) : putA (tab ps) q.av (.int ((ps.length + 1 : Nat) : Int)) = tab (ps++[q]):=by
 unfold putA
 rw [za8,tab,zbx h,tab,zaU]
 simp [Nat.add_comm]
structure ShelfAt (h : AH) (p : Nat) (ps : List Pc) : Prop where
 ob : h[p]? = some (.ins 0 [some (.ref (p + 1)),some (.ref (p + 2)),some (.ref (p + 3)),some (.ref (p + 4)),some (.ref (p + 5)),some (.ref (p + 6)),some (.ref (p + 7)),some (.ref (p + 8))])
 h1 : h[p + 1]? = some (.lst (ps.map Pc.av))
 h2 : h[p + 2]? = some (.dct true (tab ps))
 h3 : h[p + 3]? = some (.lst ((meas ps).map fun m=>.int m.sg))
 h4 : h[p + 4]? = some (.lst ((meas ps).map fun m=>.int m.en))
 h5 : h[p + 5]? = some (.lst ((meas ps).map fun m=>.int m.lv))
 h6 : h[p + 6]? = some (.lst ((meas ps).map fun m=>.int m.ht))
 h7 : h[p + 7]? = some (.lst ((meas ps).map fun m=>.int m.fl))
 h8 : h[p + 8]? = some (.lst ((meas ps).map fun m=>.int m.ll))
def ybU (h : AH) (p : Nat) (ps : List Pc) : AH :=
 (((((((h.set (p + 1) (.lst (ps.map Pc.av))).set (p + 2) (.dct true (tab ps))).set (p + 3) (.lst ((meas ps).map fun m=>.int m.sg))).set (p + 4) (.lst ((meas ps).map fun m=>.int m.en))).set (p + 5) (.lst ((meas ps).map fun m=>.int m.lv))).set
  (p + 6) (.lst ((meas ps).map fun m=>.int m.ht))).set (p + 7) (.lst ((meas ps).map fun m=>.int m.fl))).set (p + 8) (.lst ((meas ps).map fun m=>.int m.ll))
theorem ya3 {h : AH} {i : Nat} {o : AO} (e : h[i]? = some o) : i < h.length:=(List.getElem?_eq_some_iff.mp e).1
theorem zdO (h : AH) (p : Nat) (ps : List Pc) : (ybU h p ps).length = h.length:=by simp [ybU]
theorem zeq {h : AH} {p q : Nat} {ps : List Pc} (hq : q <= p \/ p + 8 < q) : (ybU h p ps)[q]? = h[q]? := by
 unfold ybU
 repeat rw [List.getElem?_set_ne (by lia)]
theorem zby {h : AH} {p : Nat} {ps ps' : List Pc} (S : ShelfAt h p ps) : ShelfAt (ybU h p ps') p ps' := by
 have b:=ya3 S.h8
 have l1 : p + 1 < h.length:=Nat.lt_of_le_of_lt (Nat.add_le_add_left (by decide) p) b
 have l2 : p + 2 < h.length:=Nat.lt_of_le_of_lt (Nat.add_le_add_left (by decide) p) b
 have l3 : p + 3 < h.length:=Nat.lt_of_le_of_lt (Nat.add_le_add_left (by decide) p) b
 have l4 : p + 4 < h.length:=Nat.lt_of_le_of_lt (Nat.add_le_add_left (by decide) p) b
 have l5 : p + 5 < h.length:=Nat.lt_of_le_of_lt (Nat.add_le_add_left (by decide) p) b
 have l6 : p + 6 < h.length:=Nat.lt_of_le_of_lt (Nat.add_le_add_left (by decide) p) b
 have l7 : p + 7 < h.length:=Nat.lt_of_le_of_lt (Nat.add_le_add_left (by decide) p) b
 have ob:=S.ob
 constructor<;>simp [ybU,List.getElem?_set,l1,l2,l3,l4,l5,l6,l7,b,ob,-List.getElem?_eq_getElem]
theorem yeo {h : AH} {p : Nat} {ps : List Pc} (S : ShelfAt h p ps) : ybl [.ref p] h = .ok (.int ps.length) h:=by
 simp [ybl,S.ob,S.h1]
theorem yhX {h : AH} {p : Nat} {ps : List Pc} {i : Int} (S : ShelfAt h p ps) : ybH [.ref p,.int i] h = .ok (.bl (decide (1 <= i /\ i <= ps.length))) h:=by
 simp [ybH,zje,S.ob,S.h1]
 by_cases h1 : 1 <= i<;>simp [h1]
theorem zbz {h : AH} {p : Nat} {ps : List Pc} {i : Int} (S : ShelfAt h p ps) (hi : 1 <= i /\ i <= ps.length) : yaZ [.ref p,.int i] h = .ok .non h:=by
 simp [yaZ,yhX S,S.ob,hi.1,hi.2]
theorem zal {α : Type} {f : α -> AV} {l : List α} {j : Nat} {q : α} (e : l[j]? = some q) : atI (l.map f) (j : Int) = some (f q):=zc6 (by simp [e])
theorem zjg {h : AH} {p : Nat} {ps : List Pc} {j : Nat} {q : Pc} (S : ShelfAt h p ps) (e : ps[j]? = some q) : yaA [.ref p,.int ((j : Int) + 1)] h = .ok q.av h:=by
 have hj:=(List.getElem?_eq_some_iff.mp e).1
 have h1:=zbz S (i:=(j : Int) + 1) ⟨by lia,by lia⟩
 simp [yaA,h1,S.ob,S.h1,zal e]
theorem yfT {h : AH} {p : Nat} {ps : List Pc} {q : Pc} (S : ShelfAt h p ps) (hq : q ∉ ps) (hl : ps.length < 16000000) :
  ycb [.ref p,q.av] h = .ok (.int ((ps.length + 1 : Nat) : Int)) ((h.set (p + 1) (.lst ((ps++[q]).map Pc.av))).set (p + 2) (.dct true (tab (ps++[q])))):=by
 have b:=ya3 S.h8
 have hs : ps.length < sizeLine:=Nat.lt_trans hl (by decide)
 have ht : (tab ps).length < sizeLine:=by rw [tab,zfF]; exact hs
 have hk : ybR true q.av = true:=by cases q<;>simp [Pc.av]
 have e1 : (h.set (p + 1) (.lst (ps.map Pc.av++[q.av])))[p]? = h[p]? := List.getElem?_set_ne (by lia)
 have e2 : (h.set (p + 1) (.lst (ps.map Pc.av++[q.av])))[p + 1]? = some (.lst (ps.map Pc.av++[q.av])):=List.getElem?_set_self (by lia)
 have e3 : (h.set (p + 1) (.lst (ps.map Pc.av++[q.av])))[p + 2]? = h[p + 2]? := List.getElem?_set_ne (by lia)
 have tp:=zjf hq
 simp [ycb,S.ob,S.h1,hs,e1,e2,e3,S.h2,hk,ht,-ybR]
 rw [show ((ps.length : Int) + 1) = ((ps.length + 1 : Nat) : Int) by simp,tp]
theorem zhb {h : AH} {p : Nat} {ps : List Pc} {x : Str} (S : ShelfAt h p ps) (hq : Pc.leaf x ∉ ps) (hl : ps.length < 16000000) :
  yby [.ref p,(Pc.leaf x).av] h = .ok .non (ybU h p (ps++[.leaf x])):=by
 have b:=ya3 S.h8
 have hs : ps.length + 1 < sizeLine:=Nat.lt_of_lt_of_le (Nat.succ_lt_succ hl) (by decide)
 have hm : (meas ps).length < sizeLine:=by rw [zas]; exact hs
 have e:=yfT S hq hl
 have b2 : ((meas ps).length : Int) = (ps.length : Int) + 1:=by rw [zas]; simp
 have e2 : fIx (Pc.leaf x).av (.int 1) = fun h=>Out.ok (.str x) h:=by funext h; rfl
 have l1 : p + 1 < h.length:=by lia
 have l2 : p + 2 < h.length:=by lia
 have l3 : p + 3 < h.length:=by lia
 have l4 : p + 4 < h.length:=by lia
 have l5 : p + 5 < h.length:=by lia
 have l6 : p + 6 < h.length:=by lia
 have l7 : p + 7 < h.length:=by lia
 simp [yby,e,S.ob,S.h3,S.h4,S.h5,S.h6,S.h7,S.h8,hm,ygZ,List.getElem?_set,zbQ,ycq,ybU,e2,zas,hs,-fIx,-List.getElem?_eq_getElem]
theorem zfG {α : Type} {l : List α} {i : Nat} {d x : α} (e : l[i]? = some x) : l.getD i d = x:=by simp [List.getD,e]
theorem zhc {h : AH} {p : Nat} {ps : List Pc} {a b : Nat} {ma mb : Ms} (S : ShelfAt h p ps) (hq : Pc.fork a b ∉ ps) (hl : ps.length < 16000000) (ha : (meas ps)[a]? = some ma) (hb : (meas ps)[b]? = some mb) :
  ybx [.ref p,(Pc.fork a b).av] h = .ok .non (ybU h p (ps++[.fork a b])):=by
 have bb:=ya3 S.h8
 have hs : ps.length + 1 < sizeLine:=Nat.lt_of_lt_of_le (Nat.succ_lt_succ hl) (by decide)
 have hm : (meas ps).length < sizeLine:=by rw [zas]; exact hs
 have e:=yfT S hq hl
 have e2 : fIx (Pc.fork a b).av (.int 1) = fun h=>Out.ok (.int a) h:=by funext h; rfl
 have e3 : fIx (Pc.fork a b).av (.int 2) = fun h=>Out.ok (.int b) h:=by funext h; rfl
 have l1 : p + 1 < h.length:=by lia
 have l2 : p + 2 < h.length:=by lia
 have l3 : p + 3 < h.length:=by lia
 have l4 : p + 4 < h.length:=by lia
 have l5 : p + 5 < h.length:=by lia
 have l6 : p + 6 < h.length:=by lia
 have l7 : p + 7 < h.length:=by lia
 have fx : ∀ (n : Nat) (g : Ms -> AV) (h' : AH),h'[n]? = some (.lst ((meas ps).map g)) -> fIx (.ref n) (.int a) h' = .ok (g ma) h' /\ fIx (.ref n) (.int b) h' = .ok (g mb) h' := fun n g h' e=>by
  simp [fIx,e,zal ha,zal hb]
 have f3:=fun (h' : AH) (e : h'[p + 3]? = some (.lst ((meas ps).map fun m=>.int m.sg)))=>fx _ _ h' e
 have f4:=fun (h' : AH) (e : h'[p + 4]? = some (.lst ((meas ps).map fun m=>.int m.en)))=>fx _ _ h' e
 have f5:=fun (h' : AH) (e : h'[p + 5]? = some (.lst ((meas ps).map fun m=>.int m.lv)))=>fx _ _ h' e
 have f6:=fun (h' : AH) (e : h'[p + 6]? = some (.lst ((meas ps).map fun m=>.int m.ht)))=>fx _ _ h' e
 have f7:=fun (h' : AH) (e : h'[p + 7]? = some (.lst ((meas ps).map fun m=>.int m.fl)))=>fx _ _ h' e
 have f8:=fun (h' : AH) (e : h'[p + 8]? = some (.lst ((meas ps).map fun m=>.int m.ll)))=>fx _ _ h' e
 have hmax : ∀ i j : Int,(if j > i then j else i) = max i j:=fun i j=>by split<;>lia
 simp [ybx,e,S.ob,S.h3,S.h4,S.h5,S.h6,S.h7,S.h8,hm,List.getElem?_set,zbQ,ycq,ybU,e2,e3,zas,hs,zal ha,zal hb,zfG ha,zfG hb,-fIx,-List.getElem?_eq_getElem,-List.getD_eq_getElem?_getD,f3,f4,f5,f6,f7,f8,hmax]
theorem za6 {h : AH} {p : Nat} {ps : List Pc} {x : Str} {i : Nat} (S : ShelfAt h p ps) (nd : ps.Nodup) (hx : ybf x = true) (hl : x.length <= sizeLine) (e : ps[i]? = some (.leaf x)) : yav [.ref p,.str x] h = .ok (.int ((i + 1 : Nat) : Int)) h:=by
 have t:=zcA (k:=1) nd e
 have t' : valA (tab ps) (.tup [.str "leaf",.str x]) = some (.int ((i + 1 : Nat) : Int)):=by rw [Nat.add_comm]; exact t
 simp [yav,zfE x h hl,hx,S.ob,S.h2,t']
theorem zgg {h : AH} {p : Nat} {ps : List Pc} {x : Str} (S : ShelfAt h p ps) (hx : ybf x = true) (hl : x.length <= sizeLine) (hq : Pc.leaf x ∉ ps) (hz : ps.length < 16000000) : yav [.ref p,.str x] h = .ok (.int ((ps.length + 1 : Nat) : Int)) (ybU h p (ps++[.leaf x])):=by
 have t : valA (tab ps) (.tup [.str "leaf",.str x]) = none:=zbx (q:=.leaf x) (k:=1) hq
 have S2:=zby (ps' := ps++[.leaf x]) S
 have e:=zhb S hq hz
 have t2 : valA (tab (ps++[.leaf x])) (.tup [.str "leaf",.str x]) = some (.int ((ps.length + 1 : Nat) : Int)):=by
  unfold tab
  rw [zaU]
  unfold valA at t ⊢
  rw [List.find?_append]
  have t3 : (ybh 1 ps).find? (fun p=>decide (p.1 = .tup [.str "leaf",.str x])) = none:=by simpa [tab] using t
  rw [t3]
  simp [Pc.av,Nat.add_comm]
 have e' : yby [.ref p,.tup [.str "leaf",.str x]] h = .ok .non (ybU h p (ps++[.leaf x])):=e
 simp [yav,zfE x h hl,hx,S.ob,S.h2,t,e',S2.ob,S2.h2,t2]
theorem zh6 {h : AH} {p : Nat} {ps : List Pc} {a b : Nat} {ma mb la fb : Ms} (S : ShelfAt h p ps) (ha : (meas ps)[a]? = some ma) (hb : (meas ps)[b]? = some mb) (pa : 1 <= a) (pb : 1 <= b) (hla : (meas ps)[ma.ll]? = some la) (hfb : (meas ps)[mb.fl]? = some fb) :
  yaV [.ref p,.int a,.int b] h = if la.sg + fb.sg <= 8 then .ex yfK h else if 1 < (ma.ht - mb.ht).natAbs then .ex ye9 h else if 1000000000000000000 < ma.sg + mb.sg then .ex yfa h else .ok .non h:=by
 have la_:=(List.getElem?_eq_some_iff.mp ha).1
 have lb_:=(List.getElem?_eq_some_iff.mp hb).1
 rw [zas] at la_ lb_
 have c1:=zbz S (i:=(a : Int)) ⟨by lia,by lia⟩
 have c2:=zbz S (i:=(b : Int)) ⟨by lia,by lia⟩
 by_cases d1 : la.sg + fb.sg <= 8
 ·have d1' : ((la.sg : Int) + fb.sg) <= 8:=by lia
  simp [yaV,c1,c2,S.ob,S.h3,S.h5,S.h6,S.h7,S.h8,zal ha,zal hb,zal hla,zal hfb,d1,d1']
 ·have d1' : ¬ ((la.sg : Int) + fb.sg) <= 8:=by lia
  by_cases d2 : 1 < (ma.ht - mb.ht).natAbs
  ·have d2' : (1 : Int) < (if ma.ht - mb.ht < 0 then -(ma.ht - mb.ht) else ma.ht - mb.ht):=by split<;>lia
   simp [yaV,c1,c2,S.ob,S.h3,S.h5,S.h6,S.h7,S.h8,zal ha,zal hb,zal hla,zal hfb,d1,d1',d2,d2',-Int.neg_sub]
  ·have d2' : ¬ (1 : Int) < (if ma.ht - mb.ht < 0 then -(ma.ht - mb.ht) else ma.ht - mb.ht):=by split<;>lia
   by_cases d3 : 1000000000000000000 < ma.sg + mb.sg
   ·have d3' : (1000000000000000000 : Int) < (ma.sg : Int) + mb.sg:=by lia
    simp [yaV,c1,c2,S.ob,S.h3,S.h5,S.h6,S.h7,S.h8,zal ha,zal hb,zal hla,zal hfb,d1,d1',d2,d2',d3,d3',-Int.neg_sub]
   ·have d3' : ¬ (1000000000000000000 : Int) < (ma.sg : Int) + mb.sg:=by lia
    simp [yaV,c1,c2,S.ob,S.h3,S.h5,S.h6,S.h7,S.h8,zal ha,zal hb,zal hla,zal hfb,d1,d1',d2,d2',d3,d3',-Int.neg_sub]
structure ForkOk (ps : List Pc) (a b : Nat) : Prop where
 pa : 1 <= a
 pb : 1 <= b
 ex : ∃ ma mb la fb,(meas ps)[a]? = some ma /\ (meas ps)[b]? = some mb /\ (meas ps)[ma.ll]? = some la /\ (meas ps)[mb.fl]? = some fb /\ 8 < la.sg + fb.sg /\ (ma.ht - mb.ht).natAbs <= 1 /\ ma.sg + mb.sg <= 1000000000000000000
theorem zcl {h : AH} {p : Nat} {ps : List Pc} {a b : Nat} (S : ShelfAt h p ps) (F : ForkOk ps a b) : yaV [.ref p,.int a,.int b] h = .ok .non h:=by
 obtain ⟨ma,mb,la,fb,h1,h2,h3,h4,h5,h6,h7⟩:=F.ex
 rw [zh6 S h1 h2 F.pa F.pb h3 h4,if_neg (by lia),if_neg (by lia),if_neg (by lia)]
theorem zbA {h : AH} {p : Nat} {ps : List Pc} {a b i : Nat} (S : ShelfAt h p ps) (nd : ps.Nodup) (F : ForkOk ps a b) (e : ps[i]? = some (.fork a b)) : yae [.ref p,.int a,.int b] h = .ok (.int ((i + 1 : Nat) : Int)) h:=by
 have t:=zcA (k:=1) nd e
 have t' : valA (tab ps) (.tup [.str "fork",.int a,.int b]) = some (.int ((i + 1 : Nat) : Int)):=by rw [Nat.add_comm]; exact t
 simp [yae,zcl S F,S.ob,S.h2,t']
theorem zgh {h : AH} {p : Nat} {ps : List Pc} {a b : Nat} (S : ShelfAt h p ps) (F : ForkOk ps a b) (hq : Pc.fork a b ∉ ps) (hz : ps.length < 16000000) : yae [.ref p,.int a,.int b] h = .ok (.int ((ps.length + 1 : Nat) : Int)) (ybU h p (ps++[.fork a b])):=by
 have t : valA (tab ps) (.tup [.str "fork",.int a,.int b]) = none:=zbx (q:=.fork a b) (k:=1) hq
 have S2:=zby (ps' := ps++[.fork a b]) S
 obtain ⟨ma,mb,la,fb,h1,h2,_⟩:=F.ex
 have e:=zhc S hq hz h1 h2
 have t2 : valA (tab (ps++[.fork a b])) (.tup [.str "fork",.int a,.int b]) = some (.int ((ps.length + 1 : Nat) : Int)):=by
  unfold tab
  rw [zaU]
  unfold valA at t ⊢
  rw [List.find?_append]
  have t3 : (ybh 1 ps).find? (fun p=>decide (p.1 = .tup [.str "fork",.int a,.int b])) = none:=by simpa [tab] using t
  rw [t3]
  simp [Pc.av,Nat.add_comm]
 have e' : ybx [.ref p,.tup [.str "fork",.int a,.int b]] h = .ok .non (ybU h p (ps++[.fork a b])):=e
 simp [yae,zcl S F,S.ob,S.h2,t,e',S2.ob,S2.h2,t2]
def yd2 (n : Nat) : List AO:=[.ins 0 [some (.ref (n + 1)),some (.ref (n + 2)),some (.ref (n + 3)),some (.ref (n + 4)),some (.ref (n + 5)),some (.ref (n + 6)),some (.ref (n + 7)),some (.ref (n + 8))],.lst [],.dct true [],.lst [.int 0],.lst [.int 0],.lst [.int 0],.lst [.int (-1)],.lst [.int 0],.lst [.int 0]]
theorem zjh {h : AH} {o o' : AO} {r : AH} : (h++o :: r).set h.length o' = h++o' :: r:=by
 induction h with
 | nil=>rfl
 | cons x t ih=>simp [ih]
theorem yg0 (en : En) (h : AH) : yeC 0 8 ybW sNil en h = .ok (.ref h.length) (h++yd2 h.length):=by
 simp [ybW,yd2,List.getElem?_append,zjh]
theorem yfC {h r : AH} {k : Nat} : (h++r)[h.length + k]? = r[k]? := by
 rw [List.getElem?_append_right (by lia)]; simp
theorem yg1 (h r : AH) : ShelfAt (h++(yd2 h.length++r)) h.length []:=by
 refine ⟨?_,?_,?_,?_,?_,?_,?_,?_,?_⟩
 ·rw [show h.length = h.length + 0 from rfl,yfC]; rfl
 all_goals (rw [yfC]; rfl)
theorem zfH (x : Str) (c i : Nat) (hi : i < x.length) : Builtin.Str.subAt x ⟨#[c]⟩ i = decide (x.cps.toList[i]? = some c):=by
 have hi' : i < x.cps.size:=hi
 unfold Builtin.Str.subAt
 have e : x.cps.extract i (i + 1) = #[x.cps[i]]:=by
  apply Array.ext
  ·simp; lia
  ·intro j h1 h2
   have : j = 0:=by simp at h2; lia
   subst this
   simp
 show (x.cps.extract i (i + 1) == #[c]) = _
 rw [e]
 have : x.cps.toList[i]? = some x.cps[i]:=by simp [hi']
 rw [this]
 by_cases q : x.cps[i] = c
 ·simp [q]
 ·simp [q]
theorem yep (x : Str) (c : Nat) : ∀ (n i : Nat) (st : Array Nat × Nat),i + n = x.length + 1 -> st.2 <= i -> st.1.size <= i -> (forIn (List.range' i n) st (StrLaws.occBody x ⟨#[c]⟩ x.length (x.length + 1))).run.fst.size = st.1.size + (x.cps.toList.drop i).count c
 | 0,i,st,hn,_,_=>by
  rw [List.drop_of_length_le (by simp; simp only [Str.length] at hn; lia)]
  simp
 | n + 1,i,st,hn,h2,h3=>by
  rw [List.range'_succ,List.forIn_cons]
  unfold StrLaws.occBody
  by_cases hi : i < x.length
  ·have hi' : i < x.cps.size:=hi
   have hd : x.cps.toList.drop i = x.cps[i]'hi' :: x.cps.toList.drop (i + 1):=by
    rw [List.drop_eq_getElem_cons (show i < x.cps.toList.length by simpa using hi')]; simp
   have hg : x.cps.toList[i]? = some (x.cps[i]'hi'):=by
    simp [hi']
   by_cases q : x.cps[i]'hi' = c
   ·have hs : Builtin.Str.subAt x ⟨#[c]⟩ i = true:=by rw [zfH x c i hi,hg,q]; simp
    rw [if_pos ⟨⟨⟨by lia,h2⟩,hi⟩,hs⟩]
    show (forIn (List.range' (i + 1) n) (st.1.push i,i + 1) (StrLaws.occBody x ⟨#[c]⟩ x.length (x.length + 1))).run.fst.size = _
    rw [yep x c n (i + 1) _ (by lia) (Nat.le_refl _) (by simp; lia),hd,q]
    simp; lia
   ·have hs : Builtin.Str.subAt x ⟨#[c]⟩ i = false:=by rw [zfH x c i hi,hg]; simp [q]
    rw [if_neg (by simp [hs])]
    show (forIn (List.range' (i + 1) n) (st.1,st.2) (StrLaws.occBody x ⟨#[c]⟩ x.length (x.length + 1))).run.fst.size = _
    rw [yep x c n (i + 1) _ (by lia) (by show st.2 <= i + 1; lia) (by show st.1.size <= i + 1; lia),hd]
    simp [q]
  ·rw [if_neg (by rintro ⟨⟨_,z⟩,_⟩; exact hi z)]
   show (forIn (List.range' (i + 1) n) (st.1,st.2) (StrLaws.occBody x ⟨#[c]⟩ x.length (x.length + 1))).run.fst.size = _
   rw [yep x c n (i + 1) _ (by lia) (by show st.2 <= i + 1; lia) (by show st.1.size <= i + 1; lia)]
   rw [List.drop_of_length_le (by simp; simp only [Str.length] at hi; lia),List.drop_of_length_le (by simp; simp only [Str.length] at hi; lia)]
theorem zhd (x : Str) (c : Nat) : (Builtin.Str.occurrences x ⟨#[c]⟩ 0 x.length (x.length + 1)).length = x.cps.toList.count c:=by
 rw [StrLaws.occ_eq,Array.length_toList]
 rw [show x.length + 1 - 0 = x.length + 1 from rfl,yep x c (x.length + 1) 0 _ (by lia) (Nat.le_refl _) (by simp)]
 simp
theorem zbB (x : Str) : ycS x = x.cps.toList.count 10:=zhd x 10
theorem zah (x y : Str) : (x++y).cps.toList = x.cps.toList++y.cps.toList:=by
 show (x.cps++y.cps).toList = _
 simp
theorem zh7 (x y : Str) : ycS (x++y) = ycS x + ycS y:=by
 rw [zbB,zbB,zbB,zah,List.count_append]
theorem zag (x : Str) : x.length = x.cps.toList.length:=by simp [Str.length]
theorem zai (x y : Str) : (x++y).length = x.length + y.length:=by
 rw [zag,zag,zag,zah,List.length_append]
def ydA (rs : List Str) : Pc -> Str
 | .leaf x=>x
 | .fork a b=>rs.getD a "" ++ rs.getD b ""
def reads (ps : List Pc) : List Str:=ps.foldl (fun rs q=>rs++[ydA rs q]) [""]
theorem zgi (ps : List Pc) (q : Pc) : reads (ps++[q]) = reads ps++[ydA (reads ps) q]:=by simp [reads]
theorem zbb {α β : Type} (g : List β -> α -> β) : ∀ (qs : List α) (ms : List β),∃ r,qs.foldl (fun ms q=>ms++[g ms q]) ms = ms++r /\ r.length = qs.length
 | [],ms=>⟨[],by simp,rfl⟩
 | q :: qs,ms=>by
  obtain ⟨r,e,l⟩:=zbb g qs (ms++[g ms q])
  exact ⟨g ms q :: r,by rw [List.foldl_cons,e]; simp,by simp [l]⟩
theorem zbf (ps : List Pc) : (reads ps).length = ps.length + 1:=by
 obtain ⟨r,e,l⟩:=zbb ydA ps [""]
 rw [reads,e]; simp [l,Nat.add_comm]
theorem zh8 (ps qs : List Pc) : ∃ r,meas (ps++qs) = meas ps++r:=by
 unfold meas
 rw [List.foldl_append]
 obtain ⟨r,e,_⟩:=zbb ycq qs (ps.foldl (fun ms q=>ms++[ycq ms q]) [ms0])
 exact ⟨r,e⟩
theorem zhe (ps qs : List Pc) : ∃ r,reads (ps++qs) = reads ps++r:=by
 unfold reads
 rw [List.foldl_append]
 obtain ⟨r,e,_⟩:=zbb ydA qs (ps.foldl (fun ms q=>ms++[ydA ms q]) [""])
 exact ⟨r,e⟩
theorem zac {ps ps' : List Pc} (h : ps <+: ps') {n : Nat} {m : Ms} (e : (meas ps)[n]? = some m) : (meas ps')[n]? = some m:=by
 obtain ⟨qs,rfl⟩:=h
 obtain ⟨r,q⟩:=zh8 ps qs
 rw [q,List.getElem?_append_left (List.getElem?_eq_some_iff.mp e).1]; exact e
theorem zbg {ps ps' : List Pc} (h : ps <+: ps') {n : Nat} {m : Str} (e : (reads ps)[n]? = some m) : (reads ps')[n]? = some m:=by
 obtain ⟨qs,rfl⟩:=h
 obtain ⟨r,q⟩:=zhe ps qs
 rw [q,List.getElem?_append_left (List.getElem?_eq_some_iff.mp e).1]; exact e
theorem zbC (ps : List Pc) (i : Nat) : ps.take i <+: ps:=List.take_prefix i ps
theorem zcB {ps : List Pc} {i : Nat} {q : Pc} (e : ps[i]? = some q) : (ps.take i++[q]) <+: ps /\ (ps.take i).length = i:=by
 have hi:=(List.getElem?_eq_some_iff.mp e).1
 have : ps.take (i + 1) = ps.take i++[q]:=by
  rw [List.take_succ,e]; rfl
 exact ⟨this ▸ List.take_prefix _ _,by simp; lia⟩
theorem zfI {ps : List Pc} {i : Nat} {q : Pc} (e : ps[i]? = some q) : (meas ps)[i + 1]? = some (ycq (meas (ps.take i)) q):=by
 obtain ⟨h,l⟩:=zcB e
 refine zac h ?_
 rw [zbQ,List.getElem?_append_right (by rw [zas,l]; lia),zas,l]
 simp
theorem zer {ps : List Pc} {i : Nat} {q : Pc} (e : ps[i]? = some q) : (reads ps)[i + 1]? = some (ydA (reads (ps.take i)) q):=by
 obtain ⟨h,l⟩:=zcB e
 refine zbg h ?_
 rw [zgi,List.getElem?_append_right (by rw [zbf,l]; lia),zbf,l]
 simp
def PcOk (ps : List Pc) : Pc -> Prop
 | .leaf x=>ybf x = true
 | .fork a b=>ForkOk ps a b
inductive Good : List Pc -> Prop
 | nil : Good []
 | snoc {ps : List Pc} {q : Pc} : Good ps -> q ∉ ps -> PcOk ps q -> Good (ps++[q])
theorem Good.nodup {ps : List Pc} (g : Good ps) : ps.Nodup:=by
 induction g with
 | nil=>exact List.nodup_nil
 | snoc g n ok ih=>exact List.nodup_append.mpr ⟨ih,by simp,fun a ha b hb=>by simp at hb; subst hb; exact fun e=>n (e ▸ ha)⟩
theorem Good.get {ps : List Pc} (g : Good ps) : ∀ {i : Nat} {q : Pc},ps[i]? = some q -> PcOk (ps.take i) q:=by
 induction g with
 | nil=>intro i q e; simp at e
 | @snoc ps q' g n ok ih =>
  intro i q e
  by_cases hi : i < ps.length
  ·rw [List.getElem?_append_left hi] at e
   rw [List.take_append_of_le_length (by lia)]
   exact ih e
  ·have hi2 : i = ps.length:=by
    have:=(List.getElem?_eq_some_iff.mp e).1
    simp at this; lia
   subst hi2
   simp at e
   subst e
   simpa using ok
theorem ForkOk.pre {ps ps' : List Pc} {a b : Nat} (F : ForkOk ps a b) (h : ps <+: ps') : ForkOk ps' a b:=by
 obtain ⟨ma,mb,la,fb,h1,h2,h3,h4,h5⟩:=F.ex
 exact ⟨F.pa,F.pb,ma,mb,la,fb,zac h h1,zac h h2,zac h h3,zac h h4,h5⟩
structure Ky (ps : List Pc) (m : Ms) (x : Str) (f l : Ms) : Prop where
 fl : (meas ps)[m.fl]? = some f
 ll : (meas ps)[m.ll]? = some l
 sg : m.sg = x.length
 en : m.en = ycS x
 f1 : 1 <= f.sg
 f8 : f.sg <= 8
 l1 : 1 <= l.sg
 l8 : l.sg <= 8
 lv : 1 <= m.lv
 ht : 0 <= m.ht
 most : m.sg <= 1000000000000000000
 cnt : ∃ k,(m.lv = 2 * k + 1 /\ 9 * k + f.sg <= m.sg /\ 9 * k + l.sg <= m.sg) \/ (m.lv = 2 * k + 2 /\ 9 * k + 9 <= m.sg /\ 9 * k + f.sg + l.sg <= m.sg)
 pl : yaD x = true
structure Tx (ps : List Pc) (n : Nat) (m : Ms) (x : Str) (f l : Ms) : Prop where
 n1 : 1 <= n
 ms : (meas ps)[n]? = some m
 rd : (reads ps)[n]? = some x
 ky : Ky ps m x f l
theorem Ky.pre {ps ps' : List Pc} {m : Ms} {x : Str} {f l : Ms} (k : Ky ps m x f l) (h : ps <+: ps') : Ky ps' m x f l :=
 { k with fl:=zac h k.fl,ll:=zac h k.ll }
theorem Tx.pre {ps ps' : List Pc} {n : Nat} {m : Ms} {x : Str} {f l : Ms} (k : Tx ps n m x f l) (h : ps <+: ps') : Tx ps' n m x f l :=
 ⟨k.n1,zac h k.ms,zbg h k.rd,k.ky.pre h⟩
theorem Tx.le {ps : List Pc} {n : Nat} {m : Ms} {x : Str} {f l : Ms} (k : Tx ps n m x f l) : n <= ps.length:=by
 have:=(List.getElem?_eq_some_iff.mp k.ms).1
 rw [zas] at this; lia
def ycZ (ma mb : Ms) : Ms:=⟨ma.sg + mb.sg,ma.en + mb.en,ma.lv + mb.lv,max ma.ht mb.ht + 1,ma.fl,mb.ll⟩
theorem zaJ (x y : Str) : yaD (x++y) = (yaD x && yaD y):=by unfold yaD; rw [zah,List.all_append]
theorem kf1 {n n' s s' f l f' l' : Nat} (a : ∃ k,(n = 2 * k + 1 /\ 9 * k + f <= s /\ 9 * k + l <= s) \/ (n = 2 * k + 2 /\ 9 * k + 9 <= s /\ 9 * k + f + l <= s)) (b : ∃ k,(n' = 2 * k + 1 /\ 9 * k + f' <= s' /\ 9 * k + l' <= s') \/ (n' = 2 * k + 2 /\ 9 * k + 9 <= s' /\ 9 * k + f' + l' <= s')) (hs : 8 < l + f') :
  ∃ k,(n + n' = 2 * k + 1 /\ 9 * k + f <= s + s' /\ 9 * k + l' <= s + s') \/ (n + n' = 2 * k + 2 /\ 9 * k + 9 <= s + s' /\ 9 * k + f + l' <= s + s'):=by
 obtain ⟨k,⟨rfl,a1,a2⟩ | ⟨rfl,a1,a2⟩⟩:=a<;>obtain ⟨k',⟨rfl,b1,b2⟩ | ⟨rfl,b1,b2⟩⟩:=b
 ·exact ⟨k + k',.inr ⟨by lia,by lia,by lia⟩⟩
 ·exact ⟨k + k' + 1,.inl ⟨by lia,by lia,by lia⟩⟩
 ·exact ⟨k + k' + 1,.inl ⟨by lia,by lia,by lia⟩⟩
 ·exact ⟨k + k' + 1,.inr ⟨by lia,by lia,by lia⟩⟩
theorem Ky.fork {ps : List Pc} {ma mb fa la fb lb : Ms} {x y : Str} (A : Ky ps ma x fa la) (B : Ky ps mb y fb lb) (hs : 8 < la.sg + fb.sg) (hm : ma.sg + mb.sg <= 1000000000000000000) : Ky ps (ycZ ma mb) (x++y) fa lb:=by
 have k:=kf1 A.cnt B.cnt hs
 refine ⟨A.fl,B.ll,?_,?_,A.f1,A.f8,B.l1,B.l8,Nat.le_trans A.lv (Nat.le_add_right _ _),?_,hm,k,?_⟩
 ·show ma.sg + mb.sg = _; rw [zai,A.sg,B.sg]
 ·show ma.en + mb.en = _; rw [zh7,A.en,B.en]
 ·have a4:=A.ht
  show 0 <= max ma.ht mb.ht + 1
  clear k hs hm; lia
 ·rw [zaJ,A.pl,B.pl]; rfl
theorem zbR {x : Str} (h : ybf x = true) : 1 <= x.length /\ x.length <= 8 /\ yaD x = true:=by
 simp [ybf] at h; exact ⟨h.2.1,h.2.2,h.1⟩
theorem zaK {α : Type} {l : List α} {i : Nat} {d x : α} (e : l[i]? = some x) : l.getD i d = x:=by simp [List.getD,e]
def lfMs (x : Str) (n : Nat) : Ms:=⟨x.length,ycS x,1,0,n,n⟩
theorem zbm {ps : List Pc} (g : Good ps) {i : Nat} {x : Str} (e : ps[i]? = some (.leaf x)) : Tx ps (i + 1) (lfMs x (i + 1)) x (lfMs x (i + 1)) (lfMs x (i + 1)):=by
 have hi:=(List.getElem?_eq_some_iff.mp e).1
 have ok : ybf x = true:=g.get e
 obtain ⟨s1,s2,s3⟩:=zbR ok
 have li : (ps.take i).length = i:=by simp; lia
 have ml : (meas (ps.take i)).length = i + 1:=by rw [zas,li]
 have e1' : (meas ps)[i + 1]? = some (lfMs x (i + 1)):=by rw [zfI e]; simp only [ycq,lfMs]; rw [ml]
 exact ⟨by lia,e1',zer e,⟨e1',e1',rfl,rfl,s1,s2,s1,s2,Nat.le_refl 1,Int.le_refl 0,by show x.length <= _; lia,⟨0,.inl ⟨rfl,Nat.le_of_eq (Nat.zero_add _),Nat.le_of_eq (Nat.zero_add _)⟩⟩,s3⟩⟩
theorem zbn {ps : List Pc} (g : Good ps) {i a b : Nat} {ma mb fa la fb lb : Ms} {x y : Str} (e : ps[i]? = some (.fork a b)) (A : Tx ps a ma x fa la) (B : Tx ps b mb y fb lb) : Tx ps (i + 1) (ycZ ma mb) (x++y) fa lb:=by
 have hi:=(List.getElem?_eq_some_iff.mp e).1
 have ok' : ForkOk (ps.take i) a b:=g.get e
 have li : (ps.take i).length = i:=by simp; lia
 have tp:=zbC ps i
 obtain ⟨ma',mb',la',fb',q1,q2,q3,q4,q5,q6,q7⟩:=ok'.ex
 have ba:=(List.getElem?_eq_some_iff.mp q1).1
 have bb:=(List.getElem?_eq_some_iff.mp q2).1
 rw [zas,li] at ba bb
 have z1:=A.ms.symm.trans (zac tp q1); cases z1
 have z2:=B.ms.symm.trans (zac tp q2); cases z2
 have z3:=A.ky.ll.symm.trans (zac tp q3); cases z3
 have z4:=B.ky.fl.symm.trans (zac tp q4); cases z4
 have r1 : (reads (ps.take i))[a]? = some x:=by
  obtain ⟨w,ew⟩ : ∃ w,(reads (ps.take i))[a]? = some w:=⟨(reads (ps.take i))[a]'(by rw [zbf,li]; lia),by simp⟩
  have:=(zbg tp ew).symm.trans A.rd; cases this; exact ew
 have r2 : (reads (ps.take i))[b]? = some y:=by
  obtain ⟨w,ew⟩ : ∃ w,(reads (ps.take i))[b]? = some w:=⟨(reads (ps.take i))[b]'(by rw [zbf,li]; lia),by simp⟩
  have:=(zbg tp ew).symm.trans B.rd; cases this; exact ew
 refine ⟨by lia,?_,?_,A.ky.fork B.ky q5 q7⟩
 ·rw [zfI e]; simp only [ycq,zaK q1,zaK q2]; rfl
 ·rw [zer e]; simp only [ydA,zaK r1,zaK r2]
theorem Good.tx {ps : List Pc} (g : Good ps) : ∀ n,1 <= n -> n <= ps.length -> ∃ m x f l,Tx ps n m x f l:=by
 intro n
 induction n using Nat.strongRecOn with
 | ind n ih =>
  intro h1 h2
  obtain ⟨i,rfl⟩ : ∃ i,n = i + 1:=⟨n - 1,(Nat.sub_add_cancel h1).symm⟩
  obtain ⟨q,eq⟩ : ∃ q,ps[i]? = some q:=⟨ps[i],by simp⟩
  have ok:=g.get eq
  have li : (ps.take i).length = i:=(zcB eq).2
  cases q with
  | leaf x=>exact ⟨_,_,_,_,zbm g eq⟩
  | fork a b =>
   have ok' : ForkOk (ps.take i) a b:=ok
   obtain ⟨ma,mb,la,fb,q1,q2,_⟩:=ok'.ex
   have ba:=(List.getElem?_eq_some_iff.mp q1).1
   have bb:=(List.getElem?_eq_some_iff.mp q2).1
   rw [zas,li] at ba bb
   obtain ⟨_,_,_,_,A⟩:=ih a ba ok'.pa (Nat.le_trans (Nat.le_of_lt ba) h2)
   obtain ⟨_,_,_,_,B⟩:=ih b bb ok'.pb (Nat.le_trans (Nat.le_of_lt bb) h2)
   exact ⟨_,_,_,_,zbn g eq A B⟩
structure Dd (p : Nat) (h h' : AH) (ps ps' : List Pc) (k : Nat) : Prop where
 sh : ShelfAt h' p ps'
 gd : Good ps'
 pre : ps <+: ps'
 len : ps'.length <= ps.length + k
 fr : ∀ i,i <= p \/ p + 8 < i -> h'[i]? = h[i]?
 hl : h'.length = h.length
theorem ShelfAt.keep {h h' : AH} {p : Nat} {ps : List Pc} (S : ShelfAt h p ps) (e : ∀ i,p <= i -> i <= p + 8 -> h'[i]? = h[i]?) : ShelfAt h' p ps:=by
 have k : ∀ j,j <= 8 -> h'[p + j]? = h[p + j]? := fun j hj=>e _ (Nat.le_add_right p j) (Nat.add_le_add_left hj p)
 exact ⟨(k 0 (by decide)).trans S.ob,(k 1 (by decide)).trans S.h1,(k 2 (by decide)).trans S.h2,(k 3 (by decide)).trans S.h3,(k 4 (by decide)).trans S.h4,(k 5 (by decide)).trans S.h5,(k 6 (by decide)).trans S.h6,(k 7 (by decide)).trans S.h7,(k 8 (by decide)).trans S.h8⟩
theorem ShelfAt.app {h : AH} {p : Nat} {ps : List Pc} (S : ShelfAt h p ps) (r : AH) : ShelfAt (h++r) p ps:=by
 have:=ya3 S.h8
 exact S.keep fun i _ b=>List.getElem?_append_left (Nat.lt_of_le_of_lt b this)
theorem zbD {h : AH} {p : Nat} {ps : List Pc} {i : Nat} (S : ShelfAt h p ps) (hi : i <= ps.length) : yaU [.ref p,.int i] h = .ok .non h:=by
 by_cases z : i = 0
 ·subst z; simp [yaU]
 ·have c:=zbz S (i:=(i : Int)) ⟨by lia,by lia⟩
  simp [yaU,z,S.ob,c]
theorem zam {h : AH} {p : Nat} {ps : List Pc} {i : Nat} {m : Ms} (S : ShelfAt h p ps) (e : (meas ps)[i]? = some m) : yaC [.ref p,.int i] h = .ok (.int m.sg) h:=by
 have hi:=(List.getElem?_eq_some_iff.mp e).1
 rw [zas] at hi
 simp [yaC,zbD S (show i <= ps.length by lia),S.ob,S.h3,zal e]
theorem zaf {h : AH} {p : Nat} {ps : List Pc} {i : Nat} {m : Ms} (S : ShelfAt h p ps) (e : (meas ps)[i]? = some m) : yaz [.ref p,.int i] h = .ok (.int m.ht) h:=by
 have hi:=(List.getElem?_eq_some_iff.mp e).1
 rw [zas] at hi
 simp [yaz,zbD S (show i <= ps.length by lia),S.ob,S.h6,zal e]
theorem zfJ {h : AH} {p : Nat} {ps : List Pc} {i : Nat} {m : Ms} (S : ShelfAt h p ps) (e : (meas ps)[i]? = some m) : ybm [.ref p,.int i] h = .ok (.int m.fl) h:=by
 have hi:=(List.getElem?_eq_some_iff.mp e).1
 rw [zas] at hi
 simp [ybm,zbD S (show i <= ps.length by lia),S.ob,S.h7,zal e]
theorem yfD {h : AH} {p : Nat} {ps : List Pc} {i : Nat} {m : Ms} (S : ShelfAt h p ps) (e : (meas ps)[i]? = some m) : ybt [.ref p,.int i] h = .ok (.int m.ll) h:=by
 have hi:=(List.getElem?_eq_some_iff.mp e).1
 rw [zas] at hi
 simp [ybt,zbD S (show i <= ps.length by lia),S.ob,S.h8,zal e]
def lp : Nat -> Nat × Nat
 | 0=>(1,2)
 | n + 1=>((lp n).2,(lp n).1 + (lp n).2)
def ll (n : Nat) : Nat:=(lp n).1
def ls (n : Nat) : Nat:=9 * (ll n / 2) + ll n % 2
theorem ll_2 (n : Nat) : ll (n + 2) = ll n + ll (n + 1):=rfl
theorem zes : ∀ n,ll n <= ll (n + 1)
 | 0=>by decide
 | n + 1=>by rw [show n + 1 + 1 = n + 2 from rfl,ll_2]; lia
theorem zji {a b : Nat} (h : a <= b) : ll a <= ll b:=by
 induction h with
 | refl=>exact Nat.le_refl _
 | step h ih=>exact Nat.le_trans ih (zes _)
theorem zfK {a b : Nat} (h : a <= b) : ls a <= ls b:=by
 have:=zji h
 unfold ls; lia
theorem yg2 {i j a b : Nat} (h1 : i <= j + 1) (h2 : j <= i + 1) (u1 : ll i <= a) (u2 : ll j <= b) : ll (max i j + 1) <= a + b:=by
 rcases Nat.lt_trichotomy i j with c | c | c
 ·have e' : j = i + 1:=Nat.le_antisymm h2 c
  subst e'
  rw [Nat.max_eq_right (Nat.le_succ i),ll_2]; exact Nat.add_le_add u1 u2
 ·subst c
  rw [Nat.max_self]
  refine Nat.le_trans ?_ (Nat.add_le_add u1 u2)
  cases i with
  | zero=>exact Nat.le_refl 2
  | succ k=>rw [show k + 1 + 1 = k + 2 from rfl,ll_2]; exact Nat.add_le_add_right (zes k) _
 ·have e' : i = j + 1:=Nat.le_antisymm h1 c
  subst e'
  rw [Nat.max_eq_left (Nat.le_succ j),ll_2,Nat.add_comm]; exact Nat.add_le_add u1 u2
theorem yg3 {x y : Int} {a b : Nat} (hx : 0 <= x) (hy : 0 <= y) (q : (x - y).natAbs <= 1) (u1 : ll x.toNat <= a) (u2 : ll y.toNat <= b) : ll (max x y + 1).toNat <= a + b:=by
 obtain ⟨i,rfl⟩:=Int.eq_ofNat_of_zero_le hx
 obtain ⟨j,rfl⟩:=Int.eq_ofNat_of_zero_le hy
 have e : (max (i : Int) j + 1).toNat = max i j + 1:=by clear u1 u2 q; lia
 rw [e]
 exact yg2 (by clear u1 u2 e; lia) (by clear u1 u2 e; lia) u1 u2
theorem Good.lv {ps : List Pc} (g : Good ps) : ∀ n m x f l,Tx ps n m x f l -> ll m.ht.toNat <= m.lv:=by
 intro n
 induction n using Nat.strongRecOn with
 | ind n ih =>
  intro m x f l T
  have hn:=T.n1
  have hle:=T.le
  obtain ⟨i,rfl⟩ : ∃ i,n = i + 1:=⟨n - 1,by lia⟩
  obtain ⟨q,eq⟩ : ∃ q,ps[i]? = some q:=⟨ps[i],by simp⟩
  cases q with
  | leaf y =>
   have z:=(zbm g eq).ms.symm.trans T.ms; cases z
   exact Nat.le_refl 1
  | fork a b =>
   have ok' : ForkOk (ps.take i) a b:=g.get eq
   have li : (ps.take i).length = i:=by simp; lia
   obtain ⟨ma,mb,la,fb,q1,q2,q3,q4,q5,q6,q7⟩:=ok'.ex
   have ba:=(List.getElem?_eq_some_iff.mp q1).1
   have bb:=(List.getElem?_eq_some_iff.mp q2).1
   rw [zas,li] at ba bb
   obtain ⟨ma',x1,fa,la',A⟩:=g.tx a ok'.pa (by lia)
   obtain ⟨mb',y1,fb',lb,B⟩:=g.tx b ok'.pb (by lia)
   have tp:=zbC ps i
   have z1:=A.ms.symm.trans (zac tp q1); cases z1
   have z2:=B.ms.symm.trans (zac tp q2); cases z2
   have u1:=ih a (by lia) _ _ _ _ A
   have u2:=ih b (by lia) _ _ _ _ B
   have z:=(zbn g eq A B).ms.symm.trans T.ms; cases z
   exact yg3 A.ky.ht B.ky.ht q6 u1 u2
theorem Tx.ls {ps : List Pc} (g : Good ps) {n : Nat} {m : Ms} {x : Str} {f l : Ms} (T : Tx ps n m x f l) : Sk.ls m.ht.toNat <= m.sg:=by
 have u:=g.lv _ _ _ _ _ T
 have f1:=T.ky.f1
 unfold Sk.ls
 obtain ⟨k,⟨e,a,_⟩ | ⟨e,a,_⟩⟩:=T.ky.cnt
 ·rw [e] at u; generalize ll m.ht.toNat = q at *; clear e; lia
 ·rw [e] at u; generalize ll m.ht.toNat = q at *; clear e; lia
theorem Good.kind {ps : List Pc} (g : Good ps) {n : Nat} {m : Ms} {x : Str} {f l : Ms} (T : Tx ps n m x f l) :
  (ps[n - 1]? = some (.leaf x) /\ m.ht = 0 /\ m = lfMs x n /\ 1 <= x.length /\ x.length <= 8) \/ ∃ a b ma mb y z fa la fb lb,ps[n - 1]? = some (.fork a b) /\ a < n /\ b < n /\ Tx ps a ma y fa la /\ Tx ps b mb z fb lb /\ x = y++z /\ m = ycZ ma mb /\ (ma.ht - mb.ht).natAbs <= 1:=by
 have hn:=T.n1
 have hle:=T.le
 obtain ⟨i,rfl⟩ : ∃ i,n = i + 1:=⟨n - 1,by lia⟩
 obtain ⟨q,eq⟩ : ∃ q,ps[i]? = some q:=⟨ps[i],by simp⟩
 cases q with
 | leaf y =>
  have L:=zbm g eq
  have z:=L.ms.symm.trans T.ms; cases z
  have z2:=L.rd.symm.trans T.rd; cases z2
  have ok : ybf x = true:=g.get eq
  obtain ⟨s1,s2,s3⟩:=zbR ok
  exact .inl ⟨eq,rfl,rfl,s1,s2⟩
 | fork a b =>
  have ok' : ForkOk (ps.take i) a b:=g.get eq
  have li : (ps.take i).length = i:=by simp; lia
  obtain ⟨ma,mb,la,fb,q1,q2,q3,q4,q5,q6,q7⟩:=ok'.ex
  have ba:=(List.getElem?_eq_some_iff.mp q1).1
  have bb:=(List.getElem?_eq_some_iff.mp q2).1
  rw [zas,li] at ba bb
  obtain ⟨ma',y,fa,la',A⟩:=g.tx a ok'.pa (by lia)
  obtain ⟨mb',z,fb',lb,B⟩:=g.tx b ok'.pb (by lia)
  have tp:=zbC ps i
  have z1:=A.ms.symm.trans (zac tp q1); cases z1
  have z2:=B.ms.symm.trans (zac tp q2); cases z2
  have F:=zbn g eq A B
  have z3:=F.ms.symm.trans T.ms; cases z3
  have z4:=F.rd.symm.trans T.rd; cases z4
  exact .inr ⟨a,b,ma,mb,y,z,fa,la',fb',lb,eq,by lia,by lia,A,B,rfl,rfl,q6⟩
theorem zet {h : AH} {p : Nat} {ps : List Pc} {n : Nat} {q : Pc} (S : ShelfAt h p ps) (n1 : 1 <= n) (e : ps[n - 1]? = some q) : yaA [.ref p,.int n] h = .ok q.av h:=by
 have:=zjg S e
 rw [show ((n - 1 : Nat) : Int) + 1 = (n : Int) by lia] at this
 exact this
theorem hs1 {m a b : Int} (e : m = max a b + 1) (ha : 0 <= a) (hb : 0 <= b) : ∃ j : Nat,m.toNat = j + 1 /\ a.toNat <= j /\ b.toNat <= j /\ 0 < m:=by
 obtain ⟨x,rfl⟩:=Int.eq_ofNat_of_zero_le ha
 obtain ⟨y,rfl⟩:=Int.eq_ofNat_of_zero_le hb
 subst e
 exact ⟨max x y,by lia,Nat.le_max_left _ _,Nat.le_max_right _ _,by lia⟩
end Sk
namespace Sk
open PySem PySem.Spec L2 Sm
theorem zad {x y : Str} (e : x.cps.toList = y.cps.toList) : x = y:=by
 cases x; cases y
 simpa using e
theorem zae (x y z : Str) : (x++y)++z = x++(y++z):=zad (by simp only [zah,List.append_assoc])
theorem ls83 : 1000000000000000000 < ls 83:=by decide +kernel
theorem ht82 {ps : List Pc} (g : Good ps) {n : Nat} {m : Ms} {x : Str} {f l : Ms} (T : Tx ps n m x f l) : m.ht <= 82:=by
 have h1:=T.ls g
 have h2:=T.ky.most
 have h3:=T.ky.ht
 apply Classical.byContradiction
 intro h4
 have:=zfK (show 83 <= m.ht.toNat by lia)
 have:=ls83
 lia
theorem Good.cut {ps : List Pc} (g : Good ps) {n : Nat} {m : Ms} {x : Str} {f l : Ms} (T : Tx ps n m x f l) (hh : 0 < m.ht) :
  ∃ a b ma mb y z la fb,ps[n - 1]? = some (.fork a b) /\ Tx ps a ma y f la /\ Tx ps b mb z fb l /\ x = y++z /\ m = ycZ ma mb /\ -1 <= ma.ht - mb.ht /\ ma.ht - mb.ht <= 1 /\ 8 < la.sg + fb.sg:=by
 rcases g.kind T with ⟨_,e,_⟩ | ⟨a,b,ma,mb,y,z,fa,la,fb,lb,e1,e2,e3,A,B,e4,e5,e6⟩
 ·lia
 ·have ok : ForkOk (ps.take (n - 1)) a b:=g.get e1
  obtain ⟨ma',mb',la',fb',q1,q2,q3,q4,q5,_⟩:=(ok.pre (zbC ps _)).ex
  have z1:=A.ms.symm.trans q1; cases z1
  have z2:=B.ms.symm.trans q2; cases z2
  have z3:=A.ky.ll.symm.trans q3; cases z3
  have z4:=B.ky.fl.symm.trans q4; cases z4
  have f1:=T.ky.fl
  have l1:=T.ky.ll
  rw [e5] at f1 l1
  have z5:=f1.symm.trans A.ky.fl; cases z5
  have z6:=l1.symm.trans B.ky.ll; cases z6
  exact ⟨a,b,ma,mb,y,z,la,fb,e1,A,B,e4,e5,by lia,by lia,q5⟩
structure Dn (F : AH -> Out AV) (p : Nat) (h h' : AH) (ps ps' : List Pc) (k n : Nat) : Prop where
 ev : F h = .ok (.int n) h'
 dd : Dd p h h' ps ps' k
 re : ∀ h2 ps2,ShelfAt h2 p ps2 -> Good ps2 -> ps' <+: ps2 -> F h2 = .ok (.int n) h2
theorem Dd.trans {p : Nat} {h h' h'' : AH} {ps ps' ps'' : List Pc} {k k' k2 : Nat} (a : Dd p h h' ps ps' k) (b : Dd p h' h'' ps' ps'' k') (hk : k + k' <= k2) : Dd p h h'' ps ps'' k2 :=
 ⟨b.sh,b.gd,a.pre.trans b.pre,by have:=a.len; have:=b.len; lia,fun i hi=>(b.fr i hi).trans (a.fr i hi),b.hl.trans a.hl⟩
theorem Dd.refl {p : Nat} {h : AH} {ps : List Pc} (S : ShelfAt h p ps) (g : Good ps) : Dd p h h ps ps 0:=⟨S,g,List.prefix_refl _,by lia,fun _ _=>rfl,rfl⟩
theorem Dn.seq {F F1 : AH -> Out AV} {F2 : AV -> AH -> Out AV} {p : Nat} {h h1 h2 : AH} {ps ps1 ps2 : List Pc} {k1 k2 k n1 n2 : Nat} (S : ShelfAt h p ps) (g : Good ps) (d1 : Dn F1 p h h1 ps ps1 k1 n1) (d2 : Dn (F2 (.int n1)) p h1 h2 ps1 ps2 k2 n2)
  (eq : ∀ hh pp,ShelfAt hh p pp -> Good pp -> ps <+: pp -> F hh = (F1 hh).bind F2) (hk : k1 + k2 <= k) : Dn F p h h2 ps ps2 k n2:=by
 refine ⟨?_,d1.dd.trans d2.dd hk,fun h3 ps3 S3 g3 p3=>?_⟩
 ·rw [eq h ps S g (List.prefix_refl _),d1.ev]; exact d2.ev
 ·rw [eq h3 ps3 S3 g3 (d1.dd.pre.trans (d2.dd.pre.trans p3)),d1.re h3 ps3 S3 g3 (d2.dd.pre.trans p3)]
  exact d2.re h3 ps3 S3 g3 p3
theorem Dn.as {F F1 : AH -> Out AV} {p : Nat} {h h1 : AH} {ps ps1 : List Pc} {k1 k n1 : Nat} (S : ShelfAt h p ps) (g : Good ps) (d1 : Dn F1 p h h1 ps ps1 k1 n1) (eq : ∀ hh pp,ShelfAt hh p pp -> Good pp -> ps <+: pp -> F hh = F1 hh) (hk : k1 <= k) : Dn F p h h1 ps ps1 k n1:=by
 refine ⟨?_,{ d1.dd with len:=Nat.le_trans d1.dd.len (Nat.add_le_add_left hk _) },fun h3 ps3 S3 g3 p3=>?_⟩
 ·rw [eq h ps S g (List.prefix_refl _)]; exact d1.ev
 ·rw [eq h3 ps3 S3 g3 (d1.dd.pre.trans p3)]; exact d1.re h3 ps3 S3 g3 p3
theorem Dn.val {F : AH -> Out AV} {p n : Nat} {h : AH} {ps : List Pc} (S : ShelfAt h p ps) (g : Good ps) (eq : ∀ hh pp,ShelfAt hh p pp -> Good pp -> ps <+: pp -> F hh = .ok (.int n) hh) : Dn F p h h ps ps 0 n :=
 ⟨eq h ps S g (List.prefix_refl _),Dd.refl S g,fun h3 ps3 S3 g3 p3=>eq h3 ps3 S3 g3 p3⟩
theorem yaK {ps ps' : List Pc} (h : ps <+: ps') {i : Nat} {q : Pc} (e : ps[i]? = some q) : ps'[i]? = some q:=by
 obtain ⟨r,rfl⟩:=h
 rw [List.getElem?_append_left (List.getElem?_eq_some_iff.mp e).1]; exact e
theorem zbo {h : AH} {p : Nat} {ps : List Pc} {x : Str} (S : ShelfAt h p ps) (g : Good ps) (hx : ybf x = true) (hz : ps.length < 16000000) :
  ∃ (n : Nat) (ps' : List Pc) (h' : AH),Dn (yav [.ref p,.str x]) p h h' ps ps' 1 n /\ Tx ps' n (lfMs x n) x (lfMs x n) (lfMs x n):=by
 obtain ⟨s1,s2,s3⟩:=zbR hx
 have hs : x.length <= sizeLine:=Nat.le_trans s2 (by decide)
 by_cases hq : Pc.leaf x ∈ ps
 ·obtain ⟨i,hi,e⟩:=List.getElem_of_mem hq
  have e' : ps[i]? = some (.leaf x):=by rw [List.getElem?_eq_getElem hi,e]
  exact ⟨i + 1,ps,h,⟨za6 S g.nodup hx hs e',⟨S,g,List.prefix_refl _,by lia,fun _ _=>rfl,rfl⟩,fun h2 ps2 S2 g2 p2=>za6 S2 g2.nodup hx hs (yaK p2 e')⟩,zbm g e'⟩
 ·have g' : Good (ps++[.leaf x]):=.snoc g hq hx
  have e' : (ps++[Pc.leaf x])[ps.length]? = some (.leaf x):=by simp
  exact ⟨ps.length + 1,_,_,⟨zgg S hx hs hq hz,⟨zby S,g',List.prefix_append _ _,by simp,fun i hi=>zeq hi,zdO _ _ _⟩,fun h2 ps2 S2 g2 p2=>za6 S2 g2.nodup hx hs (yaK p2 e')⟩,zbm g' e'⟩
theorem zaz {h : AH} {p : Nat} {ps : List Pc} {a b : Nat} {ma mb fa la fb lb : Ms} {x y : Str} (S : ShelfAt h p ps) (g : Good ps) (A : Tx ps a ma x fa la) (B : Tx ps b mb y fb lb) (hc : 8 < la.sg + fb.sg) (v1 : -1 <= ma.ht - mb.ht) (v2 : ma.ht - mb.ht <= 1) (hm : ma.sg + mb.sg <= 1000000000000000000) (hz : ps.length < 16000000) :
  ∃ (n : Nat) (ps' : List Pc) (h' : AH),Dn (yae [.ref p,.int a,.int b]) p h h' ps ps' 1 n /\ Tx ps' n (ycZ ma mb) (x++y) fa lb:=by
 have F : ForkOk ps a b:=⟨A.n1,B.n1,ma,mb,la,fb,A.ms,B.ms,A.ky.ll,B.ky.fl,hc,by lia,hm⟩
 by_cases hq : Pc.fork a b ∈ ps
 ·obtain ⟨i,hi,e⟩:=List.getElem_of_mem hq
  have e' : ps[i]? = some (.fork a b):=by rw [List.getElem?_eq_getElem hi,e]
  exact ⟨i + 1,ps,h,⟨zbA S g.nodup F e',⟨S,g,List.prefix_refl _,by lia,fun _ _=>rfl,rfl⟩,fun h2 ps2 S2 g2 p2=>zbA S2 g2.nodup (F.pre p2) (yaK p2 e')⟩,zbn g e' A B⟩
 ·have g' : Good (ps++[.fork a b]):=.snoc g hq F
  have e' : (ps++[Pc.fork a b])[ps.length]? = some (.fork a b):=by simp
  have pr : ps <+: ps++[Pc.fork a b]:=List.prefix_append _ _
  exact ⟨ps.length + 1,_,_,⟨zgh S F hq hz,⟨zby S,g',pr,by simp,fun i hi=>zeq hi,zdO _ _ _⟩,fun h2 ps2 S2 g2 p2=>zbA S2 g2.nodup (F.pre (pr.trans p2)) (yaK p2 e')⟩,zbn g' e' (A.pre pr) (B.pre pr)⟩
theorem fmS (ma mb : Ms) : (ycZ ma mb).sg = ma.sg + mb.sg:=rfl
theorem fmH (ma mb : Ms) : (ycZ ma mb).ht = max ma.ht mb.ht + 1:=rfl
theorem i1 (s : Str) (a b : Int) (h : AH) : fIx (.tup [.str s,.int a,.int b]) (.int 1) h = .ok (.int a) h:=rfl
theorem i2 (s : Str) (a b : Int) (h : AH) : fIx (.tup [.str s,.int a,.int b]) (.int 2) h = .ok (.int b) h:=rfl
theorem zax {h : AH} {p : Nat} {ps : List Pc} {n a b : Nat} (S : ShelfAt h p ps) (n1 : 1 <= n) (e : ps[n - 1]? = some (.fork a b)) : yaA [.ref p,.int n] h = .ok (.tup [.str "fork",.int a,.int b]) h:=zet S n1 e
theorem tl_1 {h : AH} {p : Nat} {ps : List Pc} {a b : Nat} {ma mb : Ms} (S : ShelfAt h p ps) (ea : (meas ps)[a]? = some ma) (eb : (meas ps)[b]? = some mb) (hd : mb.ht - ma.ht < 2) :
  yaL [.ref p,.int a,.int b] h = yae [.ref p,.int a,.int b] h:=by
 have f1:=zaf S ea
 have f2:=zaf S eb
 generalize hF : yae [.ref p,.int a,.int b] h = R
 simp [yaL,S.ob,f1,f2,hd,hF]
 cases R<;>rfl
theorem tl_2 {h : AH} {p : Nat} {ps : List Pc} {a b c d : Nat} {ma mb mc md : Ms} (S : ShelfAt h p ps) (b1 : 1 <= b) (ea : (meas ps)[a]? = some ma) (eb : (meas ps)[b]? = some mb) (e : ps[b - 1]? = some (.fork c d)) (ec : (meas ps)[c]? = some mc) (ed : (meas ps)[d]? = some md) (hd : ¬ mb.ht - ma.ht < 2) (hh : mc.ht <= md.ht) :
  yaL [.ref p,.int a,.int b] h = (yae [.ref p,.int a,.int c] h).bind fun v h1=>yae [.ref p,v,.int d] h1:=by
 have f1:=zaf S ea
 have f2:=zaf S eb
 have f3:=zax S b1 e
 have f4:=zaf S ec
 have f5:=zaf S ed
 generalize hF : yae [.ref p,.int a,.int c] h = R
 simp [yaL,S.ob,f1,f2,hd,f3,i1,i2,f4,f5,hh,hF,-fIx]
 cases R with
 | ok v h1=>dsimp only; cases yae [.ref p,v,.int d] h1<;>rfl
 | ex c h1=>rfl
 | bad=>rfl
def onSh (p : Nat) (F : AH -> Out AV) (h : AH) : Out AV:=match h[p]? with
 | some (.ins c' _)=>if c' = 0 then F h else .bad
 | _=>.bad
theorem zfL {h : AH} {p : Nat} {ps : List Pc} (S : ShelfAt h p ps) (F : AH -> Out AV) : onSh p F h = F h:=by simp [onSh,S.ob]
theorem tl_3 {h : AH} {p : Nat} {ps : List Pc} {a b c d i j : Nat} {ma mb mc md : Ms} (S : ShelfAt h p ps) (b1 : 1 <= b) (c1 : 1 <= c) (ea : (meas ps)[a]? = some ma) (eb : (meas ps)[b]? = some mb) (e : ps[b - 1]? = some (.fork c d)) (ec : (meas ps)[c]? = some mc) (ed : (meas ps)[d]? = some md) (e2 : ps[c - 1]? = some (.fork i j)) (hd : ¬ mb.ht - ma.ht < 2) (hh : ¬ mc.ht <= md.ht) :
  yaL [.ref p,.int a,.int b] h = (yae [.ref p,.int a,.int i] h).bind fun v h1=>(onSh p (yae [.ref p,.int j,.int d]) h1).bind fun w h2=>yae [.ref p,v,w] h2:=by
 have f1:=zaf S ea
 have f2:=zaf S eb
 have f3:=zax S b1 e
 have f4:=zaf S ec
 have f5:=zaf S ed
 have f6:=zax S c1 e2
 generalize hF : yae [.ref p,.int a,.int i] h = R
 simp [yaL,S.ob,f1,f2,hd,f3,i1,i2,f4,f5,hh,f6,hF,-fIx]
 cases R with
 | ok v h1 =>
  unfold onSh
  dsimp only
  cases hx : h1[p]? with
  | none=>rfl
  | some o =>
   cases o with
   | lst l=>rfl
   | dct q l=>rfl
   | ins c' l =>
    dsimp only
    by_cases z : c' = 0
    ·rw [if_pos z]
     cases yae [.ref p,.int j,.int d] h1 with
     | ok w h2=>dsimp only; cases yae [.ref p,v,w] h2<;>rfl
     | ex c h2=>rfl
     | bad=>rfl
    ·rw [if_neg z]
 | ex c h1=>rfl
 | bad=>rfl
theorem tlh1 {a b m : Int} (h1 : -1 <= b - a) (h2 : b - a < 2) (e : m = max a b + 1) : max a b <= m /\ m <= max a b + 1 /\ (b - a <= 1 -> m = max a b + 1):=by lia
theorem zfM {h : AH} {p : Nat} {ps : List Pc} {a b : Nat} {ma mb fa la fb lb : Ms} {x y : Str} (S : ShelfAt h p ps) (g : Good ps) (A : Tx ps a ma x fa la) (B : Tx ps b mb y fb lb) (hc : 8 < la.sg + fb.sg) (v1 : -1 <= mb.ht - ma.ht) (v2 : mb.ht - ma.ht <= 2) (hm : ma.sg + mb.sg <= 1000000000000000000) (hz : ps.length + 3 < 16000000) :
  ∃ (n : Nat) (ps' : List Pc) (h' : AH) (m : Ms),Dn (yaL [.ref p,.int a,.int b]) p h h' ps ps' 3 n /\ Tx ps' n m (x++y) fa lb /\ max ma.ht mb.ht <= m.ht /\ m.ht <= max ma.ht mb.ht + 1 /\ (mb.ht - ma.ht <= 1 -> m.ht = max ma.ht mb.ht + 1):=by
 by_cases q : mb.ht - ma.ht < 2
 ·obtain ⟨n,ps',h',d,T⟩:=zaz S g A B hc (by lia) (by lia) hm (by lia)
  exact ⟨n,ps',h',_,d.as S g (fun hh pp S' _ pr=>tl_1 S' (zac pr A.ms) (zac pr B.ms) q) (by lia),T,tlh1 v1 q (fmH ma mb)⟩
 ·obtain ⟨c,d,mc,md,y1,y2,lc,fd,e,C,D,rfl,em,w1,w2,w3⟩:=g.cut B (by have:=A.ky.ht; lia)
  have sg:=congrArg Ms.sg em
  have ht:=congrArg Ms.ht em
  rw [fmS] at sg
  rw [fmH] at ht
  by_cases r : mc.ht <= md.ht
  ·obtain ⟨n1,ps1,h1,d1,T1⟩:=zaz S g A C hc (by lia) (by lia) (by lia) (by lia)
   obtain ⟨n2,ps2,h2,d2,T2⟩:=zaz d1.dd.sh d1.dd.gd T1 (D.pre d1.dd.pre) w3 (by rw [fmH]; lia) (by rw [fmH]; lia) (by rw [fmS]; lia) (by have:=d1.dd.len; lia)
   rw [zae] at T2
   refine ⟨n2,ps2,h2,_,Dn.seq S g d1 d2 (fun hh pp S' _ pr=>tl_2 S' B.n1 (zac pr A.ms) (zac pr B.ms) (yaK pr e) (zac pr C.ms) (zac pr D.ms) q r) (by lia),T2,?_⟩
   rw [fmH,fmH]; lia
  ·obtain ⟨i,j,mi,mj,z1,z2,li,fj,e2,I,J,rfl,em2,u1,u2,u3⟩:=g.cut C (by have:=D.ky.ht; lia)
   have sg2:=congrArg Ms.sg em2
   have ht2:=congrArg Ms.ht em2
   rw [fmS] at sg2
   rw [fmH] at ht2
   obtain ⟨n1,ps1,h1,d1,T1⟩:=zaz S g A I hc (by lia) (by lia) (by lia) (by lia)
   obtain ⟨n2,ps2,h2,d2,T2⟩:=zaz d1.dd.sh d1.dd.gd (J.pre d1.dd.pre) (D.pre d1.dd.pre) w3 (by lia) (by lia) (by lia) (by have:=d1.dd.len; lia)
   obtain ⟨n3,ps3,h3,d3,T3⟩:=zaz d2.dd.sh d2.dd.gd (T1.pre d2.dd.pre) T2 u3 (by rw [fmH,fmH]; lia) (by rw [fmH,fmH]; lia) (by rw [fmS,fmS]; lia) (by have:=d1.dd.len; have:=d2.dd.len; lia)
   have d2' : Dn (onSh p (yae [.ref p,.int j,.int d])) p h1 h2 ps1 ps2 1 n2:=d2.as d1.dd.sh d1.dd.gd (fun hh pp S' _ _=>zfL S' _) (Nat.le_refl _)
   have d23:=Dn.seq (F:=fun h1=>(onSh p (yae [.ref p,.int j,.int d]) h1).bind fun w h2=>yae [.ref p,.int n1,w] h2) (F2:=fun w h2=>yae [.ref p,.int n1,w] h2) d1.dd.sh d1.dd.gd d2' d3 (fun _ _ _ _ _=>rfl) (k:=2) (by lia)
   have ea : (x++z1)++(z2++y2) = x++(z1++z2++y2):=by rw [zae,zae]
   rw [ea] at T3
   refine ⟨n3,ps3,h3,_,Dn.seq (F2:=fun v h1=>(onSh p (yae [.ref p,.int j,.int d]) h1).bind fun w h2=>yae [.ref p,v,w] h2) S g d1 d23 (fun hh pp S' _ pr=>tl_3 S' B.n1 C.n1 (zac pr A.ms) (zac pr B.ms) (yaK pr e) (zac pr C.ms) (zac pr D.ms) (yaK pr e2) q r) (by lia),T3,?_⟩
   rw [fmH,fmH,fmH]; lia
theorem tr_1 {h : AH} {p : Nat} {ps : List Pc} {a b : Nat} {ma mb : Ms} (S : ShelfAt h p ps) (ea : (meas ps)[a]? = some ma) (eb : (meas ps)[b]? = some mb) (hd : ma.ht - mb.ht < 2) :
  yaS [.ref p,.int a,.int b] h = yae [.ref p,.int a,.int b] h:=by
 have f1:=zaf S ea
 have f2:=zaf S eb
 generalize hF : yae [.ref p,.int a,.int b] h = R
 simp [yaS,S.ob,f1,f2,hd,hF]
 cases R<;>rfl
theorem tr_2 {h : AH} {p : Nat} {ps : List Pc} {a b c d : Nat} {ma mb mc md : Ms} (S : ShelfAt h p ps) (a1 : 1 <= a) (ea : (meas ps)[a]? = some ma) (eb : (meas ps)[b]? = some mb) (e : ps[a - 1]? = some (.fork c d)) (ec : (meas ps)[c]? = some mc) (ed : (meas ps)[d]? = some md) (hd : ¬ ma.ht - mb.ht < 2) (hh : md.ht <= mc.ht) :
  yaS [.ref p,.int a,.int b] h = (yae [.ref p,.int d,.int b] h).bind fun v h1=>yae [.ref p,.int c,v] h1:=by
 have f1:=zaf S ea
 have f2:=zaf S eb
 have f3:=zax S a1 e
 have f4:=zaf S ec
 have f5:=zaf S ed
 generalize hF : yae [.ref p,.int d,.int b] h = R
 simp [yaS,S.ob,f1,f2,hd,f3,i1,i2,f4,f5,hh,hF,-fIx]
 cases R with
 | ok v h1=>dsimp only; cases yae [.ref p,.int c,v] h1<;>rfl
 | ex c h1=>rfl
 | bad=>rfl
theorem tr_3 {h : AH} {p : Nat} {ps : List Pc} {a b c d i j : Nat} {ma mb mc md : Ms} (S : ShelfAt h p ps) (a1 : 1 <= a) (d1 : 1 <= d) (ea : (meas ps)[a]? = some ma) (eb : (meas ps)[b]? = some mb) (e : ps[a - 1]? = some (.fork c d)) (ec : (meas ps)[c]? = some mc) (ed : (meas ps)[d]? = some md) (e2 : ps[d - 1]? = some (.fork i j)) (hd : ¬ ma.ht - mb.ht < 2) (hh : ¬ md.ht <= mc.ht) :
  yaS [.ref p,.int a,.int b] h = (yae [.ref p,.int c,.int i] h).bind fun v h1=>(onSh p (yae [.ref p,.int j,.int b]) h1).bind fun w h2=>yae [.ref p,v,w] h2:=by
 have f1:=zaf S ea
 have f2:=zaf S eb
 have f3:=zax S a1 e
 have f4:=zaf S ec
 have f5:=zaf S ed
 have f6:=zax S d1 e2
 generalize hF : yae [.ref p,.int c,.int i] h = R
 simp [yaS,S.ob,f1,f2,hd,f3,i1,i2,f4,f5,hh,f6,hF,-fIx]
 cases R with
 | ok v h1 =>
  unfold onSh
  dsimp only
  cases hx : h1[p]? with
  | none=>rfl
  | some o =>
   cases o with
   | lst l=>rfl
   | dct q l=>rfl
   | ins c' l =>
    dsimp only
    by_cases z : c' = 0
    ·rw [if_pos z]
     cases yae [.ref p,.int j,.int b] h1 with
     | ok w h2=>dsimp only; cases yae [.ref p,v,w] h2<;>rfl
     | ex c h2=>rfl
     | bad=>rfl
    ·rw [if_neg z]
 | ex c h1=>rfl
 | bad=>rfl
theorem zh9 {h : AH} {p : Nat} {ps : List Pc} {a b : Nat} {ma mb fa la fb lb : Ms} {x y : Str} (S : ShelfAt h p ps) (g : Good ps) (A : Tx ps a ma x fa la) (B : Tx ps b mb y fb lb) (hc : 8 < la.sg + fb.sg) (v1 : -1 <= ma.ht - mb.ht) (v2 : ma.ht - mb.ht <= 2) (hm : ma.sg + mb.sg <= 1000000000000000000) (hz : ps.length + 3 < 16000000) :
  ∃ (n : Nat) (ps' : List Pc) (h' : AH) (m : Ms),Dn (yaS [.ref p,.int a,.int b]) p h h' ps ps' 3 n /\ Tx ps' n m (x++y) fa lb /\ max ma.ht mb.ht <= m.ht /\ m.ht <= max ma.ht mb.ht + 1 /\ (ma.ht - mb.ht <= 1 -> m.ht = max ma.ht mb.ht + 1):=by
 by_cases q : ma.ht - mb.ht < 2
 ·obtain ⟨n,ps',h',d,T⟩:=zaz S g A B hc (by lia) (by lia) hm (by lia)
  refine ⟨n,ps',h',_,d.as S g (fun hh pp S' _ pr=>tr_1 S' (zac pr A.ms) (zac pr B.ms) q) (by lia),T,?_⟩
  rw [fmH]; lia
 ·obtain ⟨c,d,mc,md,y1,y2,lc,fd,e,C,D,rfl,em,w1,w2,w3⟩:=g.cut A (by have:=B.ky.ht; lia)
  have sg:=congrArg Ms.sg em
  have ht:=congrArg Ms.ht em
  rw [fmS] at sg
  rw [fmH] at ht
  by_cases r : md.ht <= mc.ht
  ·obtain ⟨n1,ps1,h1,d1,T1⟩:=zaz S g D B hc (by lia) (by lia) (by lia) (by lia)
   obtain ⟨n2,ps2,h2,d2,T2⟩:=zaz d1.dd.sh d1.dd.gd (C.pre d1.dd.pre) T1 w3 (by rw [fmH]; lia) (by rw [fmH]; lia) (by rw [fmS]; lia) (by have:=d1.dd.len; lia)
   rw [<- zae] at T2
   refine ⟨n2,ps2,h2,_,Dn.seq (F2:=fun v h1=>yae [.ref p,.int c,v] h1) S g d1 d2 (fun hh pp S' _ pr=>tr_2 S' A.n1 (zac pr A.ms) (zac pr B.ms) (yaK pr e) (zac pr C.ms) (zac pr D.ms) q r) (by lia),T2,?_⟩
   rw [fmH,fmH]; lia
  ·obtain ⟨i,j,mi,mj,z1,z2,li,fj,e2,I,J,rfl,em2,u1,u2,u3⟩:=g.cut D (by have:=C.ky.ht; lia)
   have sg2:=congrArg Ms.sg em2
   have ht2:=congrArg Ms.ht em2
   rw [fmS] at sg2
   rw [fmH] at ht2
   obtain ⟨n1,ps1,h1,d1,T1⟩:=zaz S g C I w3 (by lia) (by lia) (by lia) (by lia)
   obtain ⟨n2,ps2,h2,d2,T2⟩:=zaz d1.dd.sh d1.dd.gd (J.pre d1.dd.pre) (B.pre d1.dd.pre) hc (by lia) (by lia) (by lia) (by have:=d1.dd.len; lia)
   obtain ⟨n3,ps3,h3,d3,T3⟩:=zaz d2.dd.sh d2.dd.gd (T1.pre d2.dd.pre) T2 u3 (by rw [fmH,fmH]; lia) (by rw [fmH,fmH]; lia) (by rw [fmS,fmS]; lia) (by have:=d1.dd.len; have:=d2.dd.len; lia)
   have d2' : Dn (onSh p (yae [.ref p,.int j,.int b])) p h1 h2 ps1 ps2 1 n2:=d2.as d1.dd.sh d1.dd.gd (fun hh pp S' _ _=>zfL S' _) (Nat.le_refl _)
   have d23:=Dn.seq (F:=fun h1=>(onSh p (yae [.ref p,.int j,.int b]) h1).bind fun w h2=>yae [.ref p,.int n1,w] h2) (F2:=fun w h2=>yae [.ref p,.int n1,w] h2) d1.dd.sh d1.dd.gd d2' d3 (fun _ _ _ _ _=>rfl) (k:=2) (by lia)
   have ea : (y1++z1)++(z2++y) = y1++(z1++z2)++y:=by rw [zae,zae,zae]
   rw [ea] at T3
   refine ⟨n3,ps3,h3,_,Dn.seq (F2:=fun v h1=>(onSh p (yae [.ref p,.int j,.int b]) h1).bind fun w h2=>yae [.ref p,v,w] h2) S g d1 d23 (fun hh pp S' _ pr=>tr_3 S' A.n1 D.n1 (zac pr A.ms) (zac pr B.ms) (yaK pr e) (zac pr C.ms) (zac pr D.ms) (yaK pr e2) q r) (by lia),T3,?_⟩
   rw [fmH,fmH,fmH]; lia
end Sk
namespace Sk
open PySem PySem.Spec L2 Sm
theorem Dn.seq' {F F1 F2 : AH -> Out AV} {p : Nat} {h h1 h2 : AH} {ps ps1 ps2 : List Pc} {k1 k2 k n1 n2 : Nat} (S : ShelfAt h p ps) (g : Good ps) (d1 : Dn F1 p h h1 ps ps1 k1 n1) (d2 : Dn F2 p h1 h2 ps1 ps2 k2 n2)
  (eq : ∀ hh hh1 pp,ShelfAt hh p pp -> Good pp -> ps <+: pp -> F1 hh = .ok (.int n1) hh1 -> F hh = F2 hh1) (hk : k1 + k2 <= k) : Dn F p h h2 ps ps2 k n2:=by
 refine ⟨?_,d1.dd.trans d2.dd hk,fun h3 ps3 S3 g3 p3=>?_⟩
 ·rw [eq h h1 ps S g (List.prefix_refl _) d1.ev]; exact d2.ev
 ·rw [eq h3 h3 ps3 S3 g3 (d1.dd.pre.trans (d2.dd.pre.trans p3)) (d1.re h3 ps3 S3 g3 (d2.dd.pre.trans p3))]
  exact d2.re h3 ps3 S3 g3 p3
theorem lk_1 {h : AH} {p : Nat} {ps : List Pc} {a b d : Nat} {ma mb : Ms} (S : ShelfAt h p ps) (ea : (meas ps)[a]? = some ma) (eb : (meas ps)[b]? = some mb) (h1 : ma.ht - mb.ht <= 1) (h2 : -1 <= ma.ht - mb.ht) :
  ya1 (d + 1) [.ref p,.int a,.int b] h = yae [.ref p,.int a,.int b] h:=by
 have f1:=zaf S ea
 have f2:=zaf S eb
 have c1 : ¬ 1 < ma.ht - mb.ht:=by lia
 have c2 : ¬ ma.ht - mb.ht < -1:=by lia
 generalize hF : yae [.ref p,.int a,.int b] h = R
 simp [ya1,ydz,S.ob,f1,f2,c1,c2,hF]
 cases R<;>rfl
theorem lk_2 {h h1 : AH} {p : Nat} {ps : List Pc} {a b c e d : Nat} {v : Int} {ma mb : Ms} (S : ShelfAt h p ps) (a1 : 1 <= a) (ea : (meas ps)[a]? = some ma) (eb : (meas ps)[b]? = some mb) (ep : ps[a - 1]? = some (.fork c e)) (hd : 1 < ma.ht - mb.ht) (ev : ya1 d [.ref p,.int e,.int b] h = .ok (.int v) h1) :
  ya1 (d + 1) [.ref p,.int a,.int b] h = yaL [.ref p,.int c,.int v] h1:=by
 have f1:=zaf S ea
 have f2:=zaf S eb
 have f3:=zax S a1 ep
 generalize hF : yaL [.ref p,.int c,.int v] h1 = R
 simp [ya1,ydz,S.ob,f1,f2,hd,f3,i1,i2,ev,hF,-fIx]
 cases R<;>rfl
theorem lk_3 {h h1 : AH} {p : Nat} {ps : List Pc} {a b c e d : Nat} {v : Int} {ma mb : Ms} (S : ShelfAt h p ps) (b1 : 1 <= b) (ea : (meas ps)[a]? = some ma) (eb : (meas ps)[b]? = some mb) (ep : ps[b - 1]? = some (.fork c e)) (hd : ma.ht - mb.ht < -1) (ev : ya1 d [.ref p,.int a,.int c] h = .ok (.int v) h1) :
  ya1 (d + 1) [.ref p,.int a,.int b] h = yaS [.ref p,.int v,.int e] h1:=by
 have f1:=zaf S ea
 have f2:=zaf S eb
 have f3:=zax S b1 ep
 have c1 : ¬ 1 < ma.ht - mb.ht:=by lia
 generalize hF : yaS [.ref p,.int v,.int e] h1 = R
 simp [ya1,ydz,S.ob,f1,f2,c1,hd,f3,i1,i2,ev,hF,-fIx]
 cases R<;>rfl
theorem zaQ {p : Nat} : ∀ (d t : Nat) {h : AH} {ps : List Pc} {a b : Nat} {ma mb fa la fb lb : Ms} {x y : Str} (S : ShelfAt h p ps) (g : Good ps) (A : Tx ps a ma x fa la) (B : Tx ps b mb y fb lb) (hc : 8 < la.sg + fb.sg) (hm : ma.sg + mb.sg <= 1000000000000000000)
  (ht : (ma.ht - mb.ht).natAbs <= t) (hd : t < d) (hz : ps.length + 3 * t + 4 < 16000000),
  ∃ (n : Nat) (ps' : List Pc) (h' : AH) (m : Ms),Dn (ya1 d [.ref p,.int a,.int b]) p h h' ps ps' (3 * t + 1) n /\ Tx ps' n m (x++y) fa lb /\ max ma.ht mb.ht <= m.ht /\ m.ht <= max ma.ht mb.ht + 1
 | 0,t,h,ps,a,b,ma,mb,fa,la,fb,lb,x,y,S,g,A,B,hc,hm,ht,hd,hz=>absurd hd (Nat.not_lt_zero t)
 | d + 1,t,h,ps,a,b,ma,mb,fa,la,fb,lb,x,y,S,g,A,B,hc,hm,ht,hd,hz=>by
  by_cases q1 : 1 < ma.ht - mb.ht
  ·obtain ⟨c,e,mc,me,y1,y2,lc,fe,ep,C,E,rfl,em,w1,w2,w3⟩:=g.cut A (by have:=B.ky.ht; lia)
   have sg:=congrArg Ms.sg em
   have hh:=congrArg Ms.ht em
   rw [fmS] at sg
   rw [fmH] at hh
   obtain ⟨n1,ps1,h1,m1,d1,T1,u1,u2⟩:=zaQ d (t - 1) S g E B hc (by lia) (by lia) (by lia) (by lia)
   have s1 : m1.sg = me.sg + mb.sg:=by rw [T1.ky.sg,zai,<- E.ky.sg,<- B.ky.sg]
   obtain ⟨n2,ps2,h2,m2,d2,T2,u3,u4,u5⟩:=zfM d1.dd.sh d1.dd.gd (C.pre d1.dd.pre) T1 w3 (by lia) (by lia) (by lia) (by have:=d1.dd.len; lia)
   rw [<- zae] at T2
   exact ⟨n2,ps2,h2,m2,Dn.seq' S g d1 d2 (fun hh hh1 pp S' _ pr ev=>lk_2 S' A.n1 (zac pr A.ms) (zac pr B.ms) (yaK pr ep) q1 ev) (by lia),T2,by lia,by lia⟩
  ·by_cases q2 : ma.ht - mb.ht < -1
   ·obtain ⟨c,e,mc,me,y1,y2,lc,fe,ep,C,E,rfl,em,w1,w2,w3⟩:=g.cut B (by have:=A.ky.ht; lia)
    have sg:=congrArg Ms.sg em
    have hh:=congrArg Ms.ht em
    rw [fmS] at sg
    rw [fmH] at hh
    obtain ⟨n1,ps1,h1,m1,d1,T1,u1,u2⟩:=zaQ d (t - 1) S g A C hc (by lia) (by lia) (by lia) (by lia)
    have s1 : m1.sg = ma.sg + mc.sg:=by rw [T1.ky.sg,zai,<- A.ky.sg,<- C.ky.sg]
    obtain ⟨n2,ps2,h2,m2,d2,T2,u3,u4,u5⟩:=zh9 d1.dd.sh d1.dd.gd T1 (E.pre d1.dd.pre) w3 (by lia) (by lia) (by lia) (by have:=d1.dd.len; lia)
    rw [zae] at T2
    exact ⟨n2,ps2,h2,m2,Dn.seq' S g d1 d2 (fun hh hh1 pp S' _ pr ev=>lk_3 S' B.n1 (zac pr A.ms) (zac pr B.ms) (yaK pr ep) q2 ev) (by lia),T2,by lia,by lia⟩
   ·obtain ⟨n,ps',h',dn,T⟩:=zaz S g A B hc (by lia) (by lia) hm (by lia)
    exact ⟨n,ps',h',_,dn.as S g (fun hh pp S' _ pr=>lk_1 S' (zac pr A.ms) (zac pr B.ms) (by lia) (by lia)) (by lia),T,by rw [fmH]; lia,by rw [fmH]; lia⟩
theorem zaR {h : AH} {p : Nat} {ps : List Pc} {n : Nat} {x : Str} (S : ShelfAt h p ps) (n1 : 1 <= n) (e : ps[n - 1]? = some (.leaf x)) : yaA [.ref p,.int n] h = .ok (.tup [.str "leaf",.str x]) h:=zet S n1 e
theorem i0L (x : Str) (h : AH) : fIx (.tup [.str "leaf",.str x]) (.int 0) h = .ok (.str "leaf") h:=rfl
theorem i0F (a b : Int) (h : AH) : fIx (.tup [.str "fork",.int a,.int b]) (.int 0) h = .ok (.str "fork") h:=rfl
theorem i1L (x : Str) (h : AH) : fIx (.tup [.str "leaf",.str x]) (.int 1) h = .ok (.str x) h:=rfl
theorem eqL (h : AH) : fEq (.str "leaf") (.str "leaf") h = .ok (.bl true) h:=by simp
theorem eqF (h : AH) : fEq (.str "fork") (.str "leaf") h = .ok (.bl false) h:=by
 have : ¬ (Str.ofString "fork" = Str.ofString "leaf"):=by decide +kernel
 simp [this]
theorem wl_1 {h : AH} {p : Nat} {ps : List Pc} {a d : Nat} {L : Int} {x : Str} (S : ShelfAt h p ps) (a1 : 1 <= a) (ep : ps[a - 1]? = some (.leaf x)) : ya2 (d + 1) [.ref p,.int a,.int L] h = .ok (.int L) h:=by
 simp [ya2,ydb,S.ob,zaR S a1 ep,i0L,eqL,-fIx,-fEq]
theorem wl_2 {h h1 : AH} {p : Nat} {ps : List Pc} {a d c e : Nat} {L v : Int} (S : ShelfAt h p ps) (a1 : 1 <= a) (ep : ps[a - 1]? = some (.fork c e)) (ev : ya2 d [.ref p,.int e,.int L] h = .ok (.int v) h1) :
  ya2 (d + 1) [.ref p,.int a,.int L] h = yae [.ref p,.int c,.int v] h1:=by
 generalize hF : yae [.ref p,.int c,.int v] h1 = R
 simp [ya2,ydb,S.ob,zax S a1 ep,i0F,i1,i2,eqF,ev,hF,-fIx,-fEq]
 cases R<;>rfl
theorem zbp {ps : List Pc} {n : Nat} {m : Ms} {x : Str} {f l : Ms} (T : Tx ps n m x f l) (e : m = lfMs x n) : f = m /\ l = m:=by
 have h1:=T.ky.fl
 have h2:=T.ky.ll
 have h3:=T.ms
 rw [e] at h1 h2
 exact ⟨Option.some.inj (h1.symm.trans h3),Option.some.inj (h2.symm.trans h3)⟩
theorem zdi {p : Nat} : ∀ (d : Nat) {h : AH} {ps : List Pc} {a L : Nat} {m f l : Ms} {x w : Str} (S : ShelfAt h p ps) (g : Good ps) (T : Tx ps a m x f l) (N : Tx ps L (lfMs w L) w (lfMs w L) (lfMs w L)) (hw : l.sg <= w.length) (hm : m.sg + w.length <= 1000000000000000000 + l.sg) (hd : m.ht.toNat < d) (hz : ps.length + m.ht.toNat < 16000000),
  ∃ (n : Nat) (ps' : List Pc) (h' : AH) (m' f' : Ms) (u v : Str),Dn (ya2 d [.ref p,.int a,.int L]) p h h' ps ps' m.ht.toNat n /\ x = u++v /\ v.length = l.sg /\ Tx ps' n m' (u++w) f' (lfMs w L) /\ m'.ht = m.ht /\ f.sg <= f'.sg
 | 0,h,ps,a,L,m,f,l,x,w,S,g,T,N,hw,hm,hd,hz=>absurd hd (Nat.not_lt_zero _)
 | d + 1,h,ps,a,L,m,f,l,x,w,S,g,T,N,hw,hm,hd,hz=>by
  by_cases q : 0 < m.ht
  ·obtain ⟨c,e,mc,me,y1,y2,lc,fe,ep,C,E,rfl,em,w1,w2,w3⟩:=g.cut T q
   have sg:=congrArg Ms.sg em
   have hh:=congrArg Ms.ht em
   rw [fmS] at sg
   rw [fmH] at hh
   have c0:=C.ky.ht
   have e0:=E.ky.ht
   obtain ⟨n1,ps1,h1,m1,f1,u,v,d1,rfl,lv,T1,k1,k2⟩:=zdi d S g E N hw (by lia) (by lia) (by lia)
   have s1 : m1.sg + l.sg = me.sg + w.length:=by rw [T1.ky.sg,E.ky.sg,zai,zai]; lia
   obtain ⟨n2,ps2,h2,d2,T2⟩:=zaz d1.dd.sh d1.dd.gd (C.pre d1.dd.pre) T1 (by lia) (by lia) (by lia) (by lia) (by have:=d1.dd.len; lia)
   rw [<- zae] at T2
   exact ⟨n2,ps2,h2,_,f,y1++u,v,Dn.seq' S g d1 d2 (fun hh hh1 pp S' _ pr ev=>wl_2 S' T.n1 (yaK pr ep) ev) (by lia),by rw [zae],lv,T2,by rw [fmH,k1,hh],Nat.le_refl _⟩
  ·rcases g.kind T with ⟨e1,e2,e3,e4,e5⟩ | ⟨c,e,mc,me,y1,y2,fc,lc,fe,le,e1,e2,e3,C,E,e4,e5,e6⟩
   ·obtain ⟨z1,z2⟩:=zbp T e3
    subst z1 z2
    have em : ("" : Str)++x = x:=zad (by rw [zah]; rfl)
    have em2 : ("" : Str)++w = w:=zad (by rw [zah]; rfl)
    have dv : Dn (ya2 (d + 1) [.ref p,.int a,.int L]) p h h ps ps 0 L:=Dn.val S g fun hh pp S' _ pr=>wl_1 S' T.n1 (yaK pr e1)
    refine ⟨L,ps,h,_,_, "",x,dv.as S g (fun _ _ _ _ _=>rfl) (Nat.zero_le _),em.symm,T.ky.sg.symm,by rw [em2]; exact N,e2.symm,hw⟩
   ·have:=congrArg Ms.ht e5
    rw [fmH] at this
    have c0:=C.ky.ht
    lia
theorem wf_1 {h : AH} {p : Nat} {ps : List Pc} {a d : Nat} {x : Str} (S : ShelfAt h p ps) (a1 : 1 <= a) (ep : ps[a - 1]? = some (.leaf x)) : yaE (d + 1) [.ref p,.int a] h = .ok (.int (0 : Nat)) h:=by
 simp [yaE,ybT,S.ob,zaR S a1 ep,i0L,eqL,-fIx,-fEq]
theorem wf_2 {h h1 : AH} {p : Nat} {ps : List Pc} {a d c e : Nat} (S : ShelfAt h p ps) (a1 : 1 <= a) (ep : ps[a - 1]? = some (.fork c e)) (ev : yaE d [.ref p,.int c] h = .ok (.int (0 : Nat)) h1) :
  yaE (d + 1) [.ref p,.int a] h = .ok (.int e) h1:=by
 have z : fEq (.int 0) (.int 0) h1 = .ok (.bl true) h1:=by simp
 simp [yaE,ybT,S.ob,zax S a1 ep,i0F,i1,i2,eqF,ev,z,-fIx,-fEq]
theorem wf_3 {h h1 : AH} {p : Nat} {ps : List Pc} {a d c e v : Nat} (S : ShelfAt h p ps) (a1 : 1 <= a) (ep : ps[a - 1]? = some (.fork c e)) (v1 : 1 <= v) (ev : yaE d [.ref p,.int c] h = .ok (.int v) h1) :
  yaE (d + 1) [.ref p,.int a] h = yaL [.ref p,.int v,.int e] h1:=by
 have z : fEq (.int (v : Int)) (.int 0) h1 = .ok (.bl false) h1:=by
  have : ¬ (v = 0):=by lia
  simp [this]
 generalize hF : yaL [.ref p,.int v,.int e] h1 = R
 simp [yaE,ybT,S.ob,zax S a1 ep,i0F,i1,i2,eqF,ev,z,hF,-fIx,-fEq]
 cases R<;>rfl
end Sk
namespace Sk
open PySem PySem.Spec L2 Sm
theorem zcC {p : Nat} : ∀ (d : Nat) {h : AH} {ps : List Pc} {a : Nat} {m f l : Ms} {x : Str} (S : ShelfAt h p ps) (g : Good ps) (T : Tx ps a m x f l) (hd : m.ht.toNat < d) (hz : ps.length + 3 * m.ht.toNat < 16000000),
  (m.ht = 0 /\ f.sg = x.length /\ Dn (yaE d [.ref p,.int a]) p h h ps ps 0 0) \/
  (0 < m.ht /\ ∃ (n : Nat) (ps' : List Pc) (h' : AH) (m' f2 : Ms) (u v : Str),Dn (yaE d [.ref p,.int a]) p h h' ps ps' (3 * m.ht.toNat) n /\ x = u++v /\ u.length = f.sg /\ Tx ps' n m' v f2 l /\ m.ht - 1 <= m'.ht /\ m'.ht <= m.ht /\ 8 < f.sg + f2.sg)
 | 0,h,ps,a,m,f,l,x,S,g,T,hd,hz=>absurd hd (Nat.not_lt_zero _)
 | d + 1,h,ps,a,m,f,l,x,S,g,T,hd,hz=>by
  by_cases q : 0 < m.ht
  ·obtain ⟨c,e,mc,me,y1,y2,lc,fe,ep,C,E,rfl,em,w1,w2,w3⟩:=g.cut T q
   have sg:=congrArg Ms.sg em
   have hh:=congrArg Ms.ht em
   rw [fmS] at sg
   rw [fmH] at hh
   have c0:=C.ky.ht
   have e0:=E.ky.ht
   have most:=T.ky.most
   refine .inr ⟨q,?_⟩
   rcases zcC d S g C (by lia) (by lia) with ⟨k1,k2,d1⟩ | ⟨k1,n1,ps1,h1,m1,f2,u,v,d1,rfl,lu,T1,r1,r2,r3⟩
   ·rcases g.kind C with ⟨e1,e2,e3,e4,e5⟩ | ⟨_,_,mx,my,_,_,_,_,_,_,_,_,_,X,Y,_,e5,_⟩
    ·obtain ⟨z1,z2⟩:=zbp C e3
     have dv : Dn (yaE (d + 1) [.ref p,.int a]) p h h ps ps 0 e:=by
      refine ⟨wf_2 S T.n1 ep d1.ev,Dd.refl S g,fun h3 ps3 S3 g3 p3=>wf_2 S3 T.n1 (yaK p3 ep) (d1.re h3 ps3 S3 g3 p3)⟩
     exact ⟨e,ps,h,me,fe,y1,y2,dv.as S g (fun _ _ _ _ _=>rfl) (Nat.zero_le _),rfl,k2.symm,E,by lia,by lia,by rw [z1]; rw [z2] at w3; exact w3⟩
    ·have:=congrArg Ms.ht e5
     rw [fmH] at this
     have:=X.ky.ht
     lia
   ·have s1 : m1.sg + f.sg = mc.sg:=by rw [T1.ky.sg,C.ky.sg,zai]; lia
    obtain ⟨n2,ps2,h2,m2,d2,T2,u3,u4,u5⟩:=zfM d1.dd.sh d1.dd.gd T1 (E.pre d1.dd.pre) w3 (by lia) (by lia) (by lia) (by have:=d1.dd.len; lia)
    refine ⟨n2,ps2,h2,m2,f2,u,v++y2,Dn.seq' S g d1 d2 (fun hh hh1 pp S' _ pr ev=>wf_3 S' T.n1 (yaK pr ep) T1.n1 ev) (by lia),by rw [zae],lu,T2,?_,?_,r3⟩
    ·lia
    ·lia
  ·rcases g.kind T with ⟨e1,e2,e3,e4,e5⟩ | ⟨_,_,mx,my,_,_,_,_,_,_,_,_,_,X,Y,_,e5,_⟩
   ·obtain ⟨z1,z2⟩:=zbp T e3
    exact .inl ⟨e2,by rw [z1]; exact T.ky.sg,Dn.val S g fun hh pp S' _ pr=>wf_1 S' T.n1 (yaK pr e1)⟩
   ·have:=congrArg Ms.ht e5
    rw [fmH] at this
    have:=X.ky.ht
    lia
theorem Good.ends {ps : List Pc} (g : Good ps) : ∀ (k n : Nat) {m f l : Ms} {x : Str},n <= k -> Tx ps n m x f l ->
  (∃ w u : Str,1 <= m.fl /\ ps[m.fl - 1]? = some (.leaf w) /\ x = w++u /\ w.length = f.sg) /\ (∃ w u : Str,1 <= m.ll /\ ps[m.ll - 1]? = some (.leaf w) /\ x = u++w /\ w.length = l.sg)
 | 0,n,m,f,l,x,hn,T=>absurd T.n1 (by lia)
 | k + 1,n,m,f,l,x,hn,T=>by
  rcases g.kind T with ⟨e1,e2,e3,e4,e5⟩ | ⟨a,b,ma,mb,y,z,fa,la,fb,lb,e1,e2,e3,A,B,rfl,e5,e6⟩
  ·obtain ⟨z1,z2⟩:=zbp T e3
   have em : ("" : Str)++x = x:=zad (by rw [zah]; rfl)
   have em2 : x++("" : Str) = x:=zad (by rw [zah]; simp; rfl)
   have hf : m.fl = n:=by rw [e3]; rfl
   have hl : m.ll = n:=by rw [e3]; rfl
   have hx:=T.ky.sg
   refine ⟨⟨x, "",by rw [hf]; exact T.n1,by rw [hf]; exact e1,em2.symm,by rw [z1]; exact hx.symm⟩,⟨x, "",by rw [hl]; exact T.n1,by rw [hl]; exact e1,em.symm,by rw [z2]; exact hx.symm⟩⟩
  ·have q1:=g.ends k a (by lia) A
   have q2:=g.ends k b (by lia) B
   obtain ⟨⟨w,u,a1,a2,rfl,a4⟩,_⟩:=q1
   obtain ⟨_,⟨w2,u2,b1,b2,rfl,b4⟩⟩:=q2
   have f1:=T.ky.fl
   have l1:=T.ky.ll
   have hf : m.fl = ma.fl:=by rw [e5]; rfl
   have hl : m.ll = mb.ll:=by rw [e5]; rfl
   rw [hf] at f1
   rw [hl] at l1
   have z5:=f1.symm.trans A.ky.fl; cases z5
   have z6:=l1.symm.trans B.ky.ll; cases z6
   rw [hf,hl]
   exact ⟨⟨w,u++(u2++w2),a1,a2,by rw [zae],a4⟩,⟨w2,w++u++u2,b1,b2,by rw [zae (w++u)],b4⟩⟩
theorem zdj {a b c d : Str} (e : a++b = c++d) (h : a.length = c.length) : a = c /\ b = d:=by
 have:=congrArg (fun z : Str=>z.cps.toList) e
 simp only [zah] at this
 obtain ⟨h1,h2⟩:=List.append_inj this (by rw [<- zag,<- zag]; exact h)
 exact ⟨zad h1,zad h2⟩
theorem zeu {a b c d : Str} (e : a++b = c++d) (h : b.length = d.length) : a = c /\ b = d:=by
 refine zdj e ?_
 have:=congrArg Str.length e
 rw [zai,zai] at this
 lia
theorem zjj {h : AH} {p : Nat} {ps : List Pc} {a b : Nat} {ma mb la fb : Ms} (S : ShelfAt h p ps) (ea : (meas ps)[a]? = some ma) (eb : (meas ps)[b]? = some mb) (el : (meas ps)[ma.ll]? = some la) (ef : (meas ps)[mb.fl]? = some fb) :
  ycH [.ref p,.int a,.int b] h = .ok (.bl (decide (8 < la.sg + fb.sg))) h:=by
 have e1:=yfD S ea
 have e2:=zfJ S eb
 have e3:=zam S el
 have e4:=zam S ef
 have : decide ((8 : Int) < (la.sg : Int) + fb.sg) = decide (8 < la.sg + fb.sg):=by apply decide_eq_decide.mpr; lia
 simp [ycH,S.ob,e1,e2,e3,e4,this]
theorem zia {w v : Str} (hw : w.length + v.length <= 100) (h : AH) : fAdd (.str w) (.str v) h = .ok (.str (w++v)) h:=by
 have : w.length + v.length <= sizeLine:=Nat.le_trans hw (by decide)
 simp [fAdd,this]
theorem wd_1 {h h1 h2 h3 : AH} {p : Nat} {ps : List Pc} {a b : Nat} {L n k : Int} {ma mb : Ms} {w v : Str} (S : ShelfAt h p ps) (ea : (meas ps)[a]? = some ma) (eb : (meas ps)[b]? = some mb) (l1 : 1 <= ma.ll) (f1 : 1 <= mb.fl) (el : ps[ma.ll - 1]? = some (.leaf w)) (ef : ps[mb.fl - 1]? = some (.leaf v)) (hw : w.length + v.length <= 100)
  (e1 : yav [.ref p,.str (w++v)] h = .ok (.int L) h1) (e2 : ya2 90 [.ref p,.int a,.int L] h1 = .ok (.int n) h2) (e3 : yaE 90 [.ref p,.int b] h2 = .ok (.int k) h3) :
  ybY [.ref p,.int a,.int b] h = if k = 0 then .ok (.int n) h3 else ya1 90 [.ref p,.int n,.int k] h3:=by
 have q1:=yfD S ea
 have q2:=zfJ S eb
 have q3:=zaR S l1 el
 have q4:=zaR S f1 ef
 have ad:=zia hw h
 unfold ybY
 generalize ya2 90 = WL at *
 generalize yaE 90 = WF at *
 generalize hF : ya1 90 = LK at *
 by_cases z : k = 0
 ·subst z
  have zz : fEq (.int 0) (.int 0) h3 = .ok (.bl true) h3:=by simp
  simp [S.ob,q1,q2,q3,q4,i1L,ad,e1,e2,e3,zz,-fIx,-fEq,-fAdd]
 ·have zz : fEq (.int k) (.int 0) h3 = .ok (.bl false) h3:=by simp [z]
  rw [if_neg z]
  generalize hR : LK [.ref p,.int n,.int k] h3 = R
  simp [S.ob,q1,q2,q3,q4,i1L,ad,e1,e2,e3,zz,hR,-fIx,-fEq,-fAdd]
  cases R<;>rfl
end Sk
namespace Sk
open PySem PySem.Spec L2 Sm
theorem zdP {w v : Str} (h1 : 1 <= w.length) (h2 : w.length + v.length <= 8) (pw : yaD w = true) (pv : yaD v = true) : ybf (w++v) = true:=by
 unfold ybf
 rw [zaJ,zai,pw,pv]
 simp; lia
theorem zev {h : AH} {p : Nat} {ps : List Pc} {a b : Nat} {ma mb fa la fb lb : Ms} {x y : Str} (S : ShelfAt h p ps) (g : Good ps) (A : Tx ps a ma x fa la) (B : Tx ps b mb y fb lb) (hc : ¬ 8 < la.sg + fb.sg) (hm : ma.sg + mb.sg <= 1000000000000000000) (hz : ps.length < 15000000) :
  ∃ (n : Nat) (ps' : List Pc) (h' : AH) (m f l : Ms),Dn (ybY [.ref p,.int a,.int b]) p h h' ps ps' (7 * (max ma.ht mb.ht).toNat + 2) n /\ Tx ps' n m (x++y) f l /\ m.ht <= max ma.ht mb.ht + 1:=by
 obtain ⟨_,w,u,l1,el,ex,lw⟩:=g.ends a a (Nat.le_refl _) A
 obtain ⟨⟨v,t,f1,ef,ey,lv⟩,_⟩:=g.ends b b (Nat.le_refl _) B
 have a0:=A.ky.ht
 have b0:=B.ky.ht
 have ha:=ht82 g A
 have hb:=ht82 g B
 have px : yaD x = true:=A.ky.pl
 have py : yaD y = true:=B.ky.pl
 have pw : yaD w = true:=by rw [ex,zaJ,Bool.and_eq_true] at px; exact px.2
 have pv : yaD v = true:=by rw [ey,zaJ,Bool.and_eq_true] at py; exact py.1
 have la1:=A.ky.l1
 have fb1:=B.ky.f1
 have sx:=A.ky.sg
 have sy:=B.ky.sg
 have lx : x.length = u.length + w.length:=by rw [ex,zai]
 have ly : y.length = v.length + t.length:=by rw [ey,zai]
 have lwv : (w++v).length = w.length + v.length:=zai w v
 obtain ⟨L,ps1,h1,d1,N⟩:=zbo S g (zdP (w:=w) (v:=v) (by lia) (by lia) pw pv) (by lia)
 have z1:=d1.dd.len
 obtain ⟨n2,ps2,h2,m2,f2,u2,v2,d2,ex2,lv2,T2,k1,k2⟩:=zdi 90 d1.dd.sh d1.dd.gd (A.pre d1.dd.pre) N (by lia) (by lia) (by lia) (by lia)
 have z2:=d2.dd.len
 obtain ⟨rfl,rfl⟩ : u = u2 /\ w = v2:=zeu (ex.symm.trans ex2) (by lia)
 have s2 : m2.sg = u.length + (w.length + v.length):=by rw [T2.ky.sg,zai,zai]
 have p12:=d1.dd.pre.trans d2.dd.pre
 have lm : (lfMs (w++v) L).sg = w.length + v.length:=zai w v
 have tb : ∀ q : Int,0 <= q -> q <= max ma.ht mb.ht -> q.toNat <= (max ma.ht mb.ht).toNat:=fun q _ _=>by lia
 rcases zcC 90 d2.dd.sh d2.dd.gd (B.pre p12) (by lia) (by lia) with ⟨r1,r2,d3⟩ | ⟨r1,n3,ps3,h3,m3,f3,u3,v3,d3,ey3,lu3,T3,r2,r3,r4⟩
 ·have t0 : t.length = 0:=by lia
  have te : t = "" := zad (by rw [zag] at t0; rw [List.length_eq_zero_iff.mp t0]; rfl)
  have rd : u++(w++v) = x++y:=by
   rw [ex,ey,te,zae]
   congr 2
  rw [rd] at T2
  refine ⟨n2,ps2,h2,m2,f2,_,⟨?_,d1.dd.trans d2.dd (by lia),fun h4 ps4 S4 g4 p4=>?_⟩,T2,by lia⟩
  ·rw [wd_1 S A.ms B.ms l1 f1 el ef (by lia) d1.ev d2.ev d3.ev]; rfl
  ·have q1:=d1.re h4 ps4 S4 g4 (d2.dd.pre.trans p4)
   have q2:=d2.re h4 ps4 S4 g4 p4
   have q3:=d3.re h4 ps4 S4 g4 p4
   rw [wd_1 S4 (zac (p12.trans p4) A.ms) (zac (p12.trans p4) B.ms) l1 f1 (yaK (p12.trans p4) el) (yaK (p12.trans p4) ef) (by lia) q1 q2 q3]; rfl
 ·obtain ⟨rfl,rfl⟩ : v = u3 /\ t = v3:=zdj (ey.symm.trans ey3) (by lia)
  have z3:=d3.dd.len
  have s3 : m3.sg = t.length:=T3.ky.sg
  have m30:=T3.ky.ht
  obtain ⟨n4,ps4,h4,m4,d4,T4,r5,r6⟩:=zaQ 90 (max ma.ht mb.ht).toNat d3.dd.sh d3.dd.gd (T2.pre d3.dd.pre) T3 (by lia) (by lia) (by lia) (by lia) (by lia)
  have rd : (u++(w++v))++t = x++y:=by rw [ex,ey,zae,zae,zae]
  rw [rd] at T4
  have n3z : ¬ (n3 : Int) = 0:=by have:=T3.n1; lia
  have p123:=p12.trans d3.dd.pre
  refine ⟨n4,ps4,h4,m4,f2,lb,⟨?_,((d1.dd.trans d2.dd (Nat.le_refl _)).trans d3.dd (Nat.le_refl _)).trans d4.dd (by lia),fun h5 ps5 S5 g5 p5=>?_⟩,T4,by lia⟩
  ·rw [wd_1 S A.ms B.ms l1 f1 el ef (by lia) d1.ev d2.ev d3.ev,if_neg n3z]; exact d4.ev
  ·have p45:=d4.dd.pre.trans p5
   have q1:=d1.re h5 ps5 S5 g5 (d2.dd.pre.trans (d3.dd.pre.trans p45))
   have q2:=d2.re h5 ps5 S5 g5 (d3.dd.pre.trans p45)
   have q3:=d3.re h5 ps5 S5 g5 p45
   have q4:=d4.re h5 ps5 S5 g5 p5
   have pa:=p123.trans p45
   rw [wd_1 S5 (zac pa A.ms) (zac pa B.ms) l1 f1 (yaK pa el) (yaK pa ef) (by lia) q1 q2 q3,if_neg n3z]; exact q4
def TxZ (ps : List Pc) (n : Nat) (y : Str) : Prop:=(n = 0 /\ y = "") \/ ∃ m f l,Tx ps n m y f l
theorem TxZ.pre {ps ps' : List Pc} {n : Nat} {y : Str} (t : TxZ ps n y) (h : ps <+: ps') : TxZ ps' n y:=by
 rcases t with t | ⟨m,f,l,t⟩
 ·exact .inl t
 ·exact .inr ⟨m,f,l,t.pre h⟩
theorem zbh (ps : List Pc) : (meas ps)[0]? = some ms0:=by
 obtain ⟨r,e,_⟩:=zbb ycq ps [ms0]
 rw [meas,e]; rfl
def htOf (ps : List Pc) (n : Nat) : Int:=((meas ps).getD n ms0).ht
theorem ybB {ps : List Pc} {n : Nat} {m : Ms} (e : (meas ps)[n]? = some m) : htOf ps n = m.ht:=by unfold htOf; rw [zaK e]
theorem za9 (ps : List Pc) : htOf ps 0 = -1:=ybB (zbh ps)
theorem zaV {i : Int} (hi : i <= 1000000000000000000) (h : AH) : ybw [.int i] h = .ok .non h:=by
 have : ¬ (1000000000000000000 : Int) < i:=by lia
 simp [ybw,this]
theorem jn_0 {h : AH} {p : Nat} {ps : List Pc} {b : Nat} {mb : Ms} (S : ShelfAt h p ps) (eb : (meas ps)[b]? = some mb) (hm : mb.sg <= 1000000000000000000) : yaq [.ref p,.int (0 : Nat),.int b] h = .ok (.int b) h:=by
 have e1:=zam S (zbh ps)
 have e2:=zam S eb
 have z : ms0.sg = 0:=rfl
 rw [z] at e1
 have e1' : yaC [.ref p,.int 0] h = .ok (.int 0) h:=e1
 have ck:=zaV (i:=(0 : Int) + mb.sg) (by lia) h
 have zz : fEq (.int 0) (.int 0) h = .ok (.bl true) h:=by simp
 have ad : fAdd (.int 0) (.int mb.sg) h = .ok (.int (0 + mb.sg)) h:=rfl
 simp [yaq,S.ob,e1',e2,ad,ck,zz,-fEq,-fAdd,-Int.zero_add]
theorem jn_1 {h : AH} {p : Nat} {ps : List Pc} {a : Nat} {ma : Ms} (S : ShelfAt h p ps) (a1 : 1 <= a) (ea : (meas ps)[a]? = some ma) (hm : ma.sg <= 1000000000000000000) : yaq [.ref p,.int a,.int (0 : Nat)] h = .ok (.int a) h:=by
 have e1:=zam S (zbh ps)
 have e2:=zam S ea
 have z : ms0.sg = 0:=rfl
 rw [z] at e1
 have e1' : yaC [.ref p,.int 0] h = .ok (.int 0) h:=e1
 have ck:=zaV (i:=(ma.sg : Int) + 0) (by lia) h
 have zz : fEq (.int 0) (.int 0) h = .ok (.bl true) h:=by simp
 have z2 : fEq (.int a) (.int 0) h = .ok (.bl false) h:=by
  have : ¬ a = 0:=by lia
  simp [this]
 have ad : fAdd (.int ma.sg) (.int 0) h = .ok (.int (ma.sg + 0)) h:=rfl
 simp [yaq,S.ob,e1',e2,ad,ck,zz,z2,-fEq,-fAdd,-Int.add_zero]
theorem jn_2 {h : AH} {p : Nat} {ps : List Pc} {a b : Nat} {ma mb la fb : Ms} (S : ShelfAt h p ps) (a1 : 1 <= a) (b1 : 1 <= b) (ea : (meas ps)[a]? = some ma) (eb : (meas ps)[b]? = some mb) (el : (meas ps)[ma.ll]? = some la) (ef : (meas ps)[mb.fl]? = some fb) (hm : ma.sg + mb.sg <= 1000000000000000000) :
  yaq [.ref p,.int a,.int b] h = if 8 < la.sg + fb.sg then ya1 90 [.ref p,.int a,.int b] h else ybY [.ref p,.int a,.int b] h:=by
 have e1:=zam S ea
 have e2:=zam S eb
 have cl:=zjj S ea eb el ef
 have ck:=zaV (i:=(ma.sg : Int) + mb.sg) (by lia) h
 have z1 : fEq (.int a) (.int 0) h = .ok (.bl false) h:=by
  have : ¬ a = 0:=by lia
  simp [this]
 have z2 : fEq (.int b) (.int 0) h = .ok (.bl false) h:=by
  have : ¬ b = 0:=by lia
  simp [this]
 have ad : fAdd (.int ma.sg) (.int mb.sg) h = .ok (.int (ma.sg + mb.sg)) h:=rfl
 unfold yaq
 generalize ya1 90 = LK at *
 by_cases q : 8 < la.sg + fb.sg
 ·rw [if_pos q]
  generalize hR : LK [.ref p,.int a,.int b] h = R
  simp [S.ob,e1,e2,ad,ck,z1,z2,cl,q,hR,-fEq,-fAdd]
  cases R<;>rfl
 ·rw [if_neg q]
  generalize hR : ybY [.ref p,.int a,.int b] h = R
  simp [S.ob,e1,e2,ad,ck,z1,z2,cl,q,hR,-fEq,-fAdd]
  cases R<;>rfl
theorem TxZ.meas {ps : List Pc} {n : Nat} {y : Str} (t : TxZ ps n y) : ∃ m,(meas ps)[n]? = some m /\ m.sg = y.length:=by
 rcases t with ⟨rfl,rfl⟩ | ⟨m,f,l,T⟩
 ·exact ⟨ms0,zbh ps,rfl⟩
 ·exact ⟨m,T.ms,T.ky.sg⟩
theorem zcD {h : AH} {p : Nat} {ps : List Pc} {a b : Nat} {x y : Str} (S : ShelfAt h p ps) (g : Good ps) (A : TxZ ps a x) (B : TxZ ps b y) (hm : x.length + y.length <= 1000000000000000000) (hz : ps.length < 15000000) :
  ∃ (n : Nat) (ps' : List Pc) (h' : AH),Dn (yaq [.ref p,.int a,.int b]) p h h' ps ps' (16 * (max (htOf ps a) (htOf ps b) + 1).toNat) n /\ TxZ ps' n (x++y):=by
 rcases A with ⟨rfl,rfl⟩ | ⟨ma,fa,la,A⟩
 ·obtain ⟨mb,eb,sb⟩:=B.meas
  have em : ("" : Str)++y = y:=zad (by rw [zah]; rfl)
  have dv : Dn (yaq [.ref p,.int (0 : Nat),.int b]) p h h ps ps 0 b:=Dn.val S g fun hh pp S' _ pr=>jn_0 S' (zac pr eb) (by rw [sb]; lia)
  exact ⟨b,ps,h,dv.as S g (fun _ _ _ _ _=>rfl) (Nat.zero_le _),by rw [em]; exact B⟩
 ·rcases B with ⟨rfl,rfl⟩ | ⟨mb,fb,lb,B⟩
  ·have em : x++("" : Str) = x:=zad (by rw [zah]; simp; rfl)
   have dv : Dn (yaq [.ref p,.int a,.int (0 : Nat)]) p h h ps ps 0 a:=Dn.val S g fun hh pp S' _ pr=>jn_1 S' A.n1 (zac pr A.ms) A.ky.most
   exact ⟨a,ps,h,dv.as S g (fun _ _ _ _ _=>rfl) (Nat.zero_le _),by rw [em]; exact .inr ⟨_,_,_,A⟩⟩
  ·have sa:=A.ky.sg
   have sb:=B.ky.sg
   have a0:=A.ky.ht
   have b0:=B.ky.ht
   have ha:=ht82 g A
   have hb:=ht82 g B
   rw [ybB A.ms,ybB B.ms]
   by_cases q : 8 < la.sg + fb.sg
   ·obtain ⟨n,ps',h',m,d,T,_⟩:=zaQ 90 (max ma.ht mb.ht).toNat S g A B q (by lia) (by lia) (by lia) (by lia)
    exact ⟨n,ps',h',d.as S g (fun hh pp S' _ pr=>by rw [jn_2 S' A.n1 B.n1 (zac pr A.ms) (zac pr B.ms) (zac pr A.ky.ll) (zac pr B.ky.fl) (by lia),if_pos q]) (by lia),.inr ⟨_,_,_,T⟩⟩
   ·obtain ⟨n,ps',h',m,f,l,d,T,_⟩:=zev S g A B q (by lia) hz
    exact ⟨n,ps',h',d.as S g (fun hh pp S' _ pr=>by rw [jn_2 S' A.n1 B.n1 (zac pr A.ms) (zac pr B.ms) (zac pr A.ky.ll) (zac pr B.ky.fl) (by lia),if_neg q]) (by lia),.inr ⟨_,_,_,T⟩⟩
end Sk
namespace Sk
open PySem PySem.Spec L2 Sm
theorem zjk {b e : Nat} {y : Str} (be : b <= e) : (cutS y (some (b : Int)) (some (e : Int))).cps.toList = (y.cps.toList.drop b).take (e - b):=by
 unfold cutS
 rw [HT.sIx_nat,HT.sIx_nat]
 generalize y.cps.toList = l
 show (l.drop (min b l.length)).take (min e l.length - min b l.length) = _
 apply List.ext_getElem?
 intro i
 rw [List.getElem?_take,List.getElem?_take,List.getElem?_drop,List.getElem?_drop]
 by_cases q : b <= l.length
 ·rw [Nat.min_eq_left q]
  by_cases c1 : i < e - b
  ·rw [if_pos c1]
   by_cases c2 : i < min e l.length - b
   ·rw [if_pos c2]
   ·rw [if_neg c2,List.getElem?_eq_none (by lia)]
  ·rw [if_neg c1,if_neg (by lia)]
 ·rw [if_neg (by lia),List.getElem?_eq_none (l:=l) (i:=b + i) (by lia)]
  split<;>rfl
def cat : List Str -> Str
 | [] => ""
 | w :: ws=>w++cat ws
theorem zb6 : ∀ as bs : List Str,cat (as++bs) = cat as++cat bs
 | [],bs=>(zad (by rw [zah]; rfl) : cat bs = ("" : Str)++cat bs)
 | w :: as,bs=>by
  show w++cat (as++bs) = (w++cat as)++cat bs
  rw [zb6 as bs,zae]
theorem zb7 (w : Str) : cat [w] = w:=zad (by show (w++("" : Str)).cps.toList = _; rw [zah]; simp; rfl)
def LS (ps : List Pc) (ns : List Nat) (ws : List Str) : Prop:=ns.length = ws.length /\ ∀ (i n : Nat) (w : Str),ns[i]? = some n -> ws[i]? = some w -> Tx ps n (lfMs w n) w (lfMs w n) (lfMs w n)
theorem LS.pre {ps ps' : List Pc} {ns : List Nat} {ws : List Str} (s : LS ps ns ws) (h : ps <+: ps') : LS ps' ns ws:=⟨s.1,fun i n w a b=>(s.2 i n w a b).pre h⟩
theorem LS.take {ps : List Pc} {ns : List Nat} {ws : List Str} (s : LS ps ns ws) (k : Nat) : LS ps (ns.take k) (ws.take k):=by
 refine ⟨by simp [s.1],fun i n w a b=>?_⟩
 rw [List.getElem?_take] at a b
 by_cases q : i < k
 ·rw [if_pos q] at a b; exact s.2 i n w a b
 ·rw [if_neg q] at a; cases a
theorem LS.drop {ps : List Pc} {ns : List Nat} {ws : List Str} (s : LS ps ns ws) (k : Nat) : LS ps (ns.drop k) (ws.drop k):=by
 refine ⟨by simp [s.1],fun i n w a b=>?_⟩
 rw [List.getElem?_drop] at a b
 exact s.2 _ n w a b
abbrev ivs (ns : List Nat) : List AV:=ns.map fun n : Nat=>AV.int (n : Int)
theorem hv_1 {h : AH} {p d n : Nat} : ybo (d + 1) [.ref p,.fl (ivs [n])] h = .ok (.int n) h:=by
 have ix : fIx (.fl [.int (n : Int)]) (.int 0) h = .ok (.int n) h:=rfl
 simp [ybo,yd6,ix,-fIx]
theorem zhf {α : Type} (l : List α) {k : Nat} (hk : k <= l.length) : cutA l none (some (k : Int)) = l.take k:=by
 unfold cutA
 rw [HT.sIx_nat,HT.sIx_none,Nat.min_eq_left hk]; simp
theorem zhg {α : Type} (l : List α) {k : Nat} (hk : k <= l.length) : cutA l (some (k : Int)) none = l.drop k:=by
 unfold cutA
 rw [HT.sIx_nat,HT.sIx_none,Nat.min_eq_left hk,List.take_of_length_le (by simp)]
theorem hv_2 {h h1 h2 : AH} {p d : Nat} {ps : List Pc} {ns : List Nat} {v1 v2 : Int} (S : ShelfAt h p ps) (hl : 2 <= ns.length) (e1 : ybo d [.ref p,.fl (ivs (ns.take (ns.length / 2)))] h = .ok (.int v1) h1) (e2 : ybo d [.ref p,.fl (ivs (ns.drop (ns.length / 2)))] h1 = .ok (.int v2) h2) :
  ybo (d + 1) [.ref p,.fl (ivs ns)] h = yae [.ref p,.int v1,.int v2] h2:=by
 have hh : ns.length / 2 <= ns.length:=Nat.div_le_self _ _
 have ln : fLen [.fl (ivs ns)] h = .ok (.int ns.length) h:=by simp [fLen]
 have q : fEq (.int ns.length) (.int 1) h = .ok (.bl false) h:=by
  have : ¬ (ns.length : Int) = 1:=by lia
  simp [this]
 have dv : fDiv (.int ns.length) (.int 2) h = .ok (.int (ns.length / 2 : Nat)) h:=rfl
 have c1 : ybb (.fl (ivs ns)) none (some (ns.length / 2 : Nat)) h = .ok (.fl (ivs (ns.take (ns.length / 2)))) h:=by
  have:=zhf (ivs ns) (k:=ns.length / 2) (by simpa using hh)
  simp only [ybb,this,ivs,List.map_take]
 have c2 : ∀ h,ybb (.fl (ivs ns)) (some (ns.length / 2 : Nat)) none h = .ok (.fl (ivs (ns.drop (ns.length / 2)))) h:=fun h=>by
  have:=zhg (ivs ns) (k:=ns.length / 2) (by simpa using hh)
  simp only [ybb,this,ivs,List.map_drop]
 generalize hF : yae [.ref p,.int v1,.int v2] h2 = R
 unfold ybo yd6
 generalize ivs ns = Z at *
 generalize ivs (ns.take (ns.length / 2)) = Z1 at *
 generalize ivs (ns.drop (ns.length / 2)) = Z2 at *
 generalize ((ns.length / 2 : Nat) : Int) = M at *
 generalize (ns.length : Int) = K at *
 simp [S.ob,ln,q,dv,c1,c2,e1,e2,hF,-fLen,-fEq,-fDiv,-ybb]
 cases R<;>rfl
theorem pw1 {a b ha hb : Nat} (ab : b <= a + 1) (h1 : a <= 2 ^ ha) (h2 : hb = 0 \/ 2 ^ (hb - 1) < b) : hb <= ha + 1:=by
 rcases h2 with h2 | h2
 ·lia
 ·have : 2 ^ (hb - 1) <= 2 ^ ha:=by lia
  have:=(Nat.pow_le_pow_iff_right (a:=2) (by decide)).mp this
  lia
theorem pw2 {a b ha hb : Nat} (ab : a <= b) (h1 : b <= 2 ^ hb) (h2 : ha = 0 \/ 2 ^ (ha - 1) < a) : ha <= hb:=by
 rcases h2 with h2 | h2
 ·lia
 ·have : 2 ^ (ha - 1) < 2 ^ hb:=by lia
  have:=(Nat.pow_lt_pow_iff_right (a:=2) (by decide)).mp this
  lia
theorem pw3 {k b hb : Nat} (h1 : k <= 2 * b) (h2 : 2 * b <= k + 1) (h3 : 2 <= k) (h4 : b <= 2 ^ hb) (h5 : hb = 0 \/ 2 ^ (hb - 1) < b) : k <= 2 ^ (hb + 1) /\ 2 ^ (hb + 1 - 1) < k:=by
 rw [Nat.pow_succ,Nat.add_sub_cancel]
 refine ⟨by lia,?_⟩
 rcases h5 with h5 | h5
 ·subst h5; simp; lia
 ·cases hb with
  | zero=>simp; lia
  | succ n =>
   rw [Nat.add_sub_cancel] at h5
   rw [Nat.pow_succ]; lia
theorem pw4 {k e : Nat} (h : k <= 2 ^ (e + 1)) : k / 2 <= 2 ^ e /\ k - k / 2 <= 2 ^ e:=by rw [Nat.pow_succ] at h; lia
theorem zcE {p : Nat} : ∀ (d e : Nat) {h : AH} {ps : List Pc} {ns : List Nat} {ws : List Str},ShelfAt h p ps -> Good ps -> LS ps ns ws -> 1 <= ns.length -> ns.length <= 2 ^ e -> e < d -> (∀ (i : Nat) (w : Str),ws[i]? = some w -> i + 1 < ws.length -> w.length = 8) -> ps.length + ns.length < 16000000 -> ns.length <= 10000 ->
  ∃ (n : Nat) (ps' : List Pc) (h' : AH) (m f l : Ms) (H : Nat),Dn (ybo d [.ref p,.fl (ivs ns)]) p h h' ps ps' (ns.length - 1) n /\ Tx ps' n m (cat ws) f l /\ m.ht = H /\ ns.length <= 2 ^ H /\ (H = 0 \/ 2 ^ (H - 1) < ns.length) /\ ((∀ w ∈ ws,w.length = 8) -> l.sg = 8) /\ m.sg <= 8 * ns.length
 | 0,e,h,ps,ns,ws,S,g,LL,h1,h2,h3,h4,h5,h6=>absurd h3 (Nat.not_lt_zero _)
 | d + 1,e,h,ps,ns,ws,S,g,LL,h1,h2,h3,h4,h5,h6=>by
  by_cases q : ns.length = 1
  ·obtain ⟨n,rfl⟩ : ∃ n,ns = [n]:=List.length_eq_one_iff.mp q
   obtain ⟨w,rfl⟩ : ∃ w,ws = [w]:=List.length_eq_one_iff.mp (LL.1.symm.trans q)
   have T:=LL.2 0 n w rfl rfl
   refine ⟨n,ps,h,_,_,_,0,Dn.val S g (fun _ _ _ _ _=>hv_1),by rw [zb7]; exact T,rfl,by simp,.inl rfl,fun hw=>hw w (by simp),?_⟩
   have:=T.ky.f8
   simpa using this
  ·have hh : 2 <= ns.length:=by lia
   obtain ⟨e',rfl⟩ : ∃ e',e = e' + 1:=by
    cases e with
    | zero=>simp at h2; lia
    | succ e' => exact ⟨e',rfl⟩
   obtain ⟨w1,w2⟩:=pw4 h2
   have lt : (ns.take (ns.length / 2)).length = ns.length / 2:=by rw [List.length_take]; lia
   have ld : (ns.drop (ns.length / 2)).length = ns.length - ns.length / 2:=List.length_drop ..
   have lw:=LL.1
   obtain ⟨n1,ps1,hh1,m1,f1,l1,H1,a1,a3,a4,a5,a6,a7,a8⟩:=zcE d e' S g (LL.take (ns.length / 2)) (by lia) (by lia) (by lia) (fun i w ew hi=>by
    rw [List.getElem?_take] at ew
    split at ew
    ·rw [List.length_take] at hi; exact h4 i w ew (by lia)
    ·cases ew) (by lia) (by lia)
   have a2:=a1.dd
   have z1:=a2.len
   obtain ⟨n2,ps2,hh2,m2,f2,l2,H2,b1,b3,b4,b5,b6,b7,b8⟩:=zcE d e' a2.sh a2.gd ((LL.drop (ns.length / 2)).pre a2.pre) (by lia) (by lia) (by lia) (fun i w ew hi=>by
    rw [List.getElem?_drop] at ew
    rw [List.length_drop] at hi
    exact h4 _ w ew (by lia)) (by lia) (by lia)
   have b2:=b1.dd
   have z2:=b2.len
   rw [lt] at a5 a6 a8
   rw [ld] at b5 b6 b8
   have g1:=pw1 (a:=ns.length / 2) (b:=ns.length - ns.length / 2) (by lia) a5 b6
   have g2:=pw2 (a:=ns.length / 2) (b:=ns.length - ns.length / 2) (by lia) b5 a6
   have l8 : l1.sg = 8:=a7 fun w hw=>by
    obtain ⟨i,hi,ei⟩:=List.getElem_of_mem hw
    have hi' := hi
    rw [List.length_take] at hi'
    have : (ws.take (ns.length / 2))[i]? = some w:=by rw [List.getElem?_eq_getElem hi,ei]
    rw [List.getElem?_take] at this
    split at this
    ·exact h4 i w this (by lia)
    ·cases this
   have f1' := b3.ky.f1
   obtain ⟨n3,ps3,hh3,d3,T3⟩:=zaz b2.sh b2.gd (a3.pre b2.pre) b3 (by lia) (by lia) (by lia) (by lia) (by lia)
   have rd : cat (ws.take (ns.length / 2))++cat (ws.drop (ns.length / 2)) = cat ws:=by rw [<- zb6,List.take_append_drop]
   rw [rd] at T3
   obtain ⟨y1,y2⟩:=pw3 (k:=ns.length) (b:=ns.length - ns.length / 2) (by lia) (by lia) hh b5 b6
   refine ⟨n3,ps3,hh3,_,f1,l2,H2 + 1,⟨(hv_2 S hh a1.ev b1.ev).trans d3.ev,(a2.trans b2 (Nat.le_refl _)).trans d3.dd (by lia),fun h9 ps9 S9 g9 p9=>(hv_2 S9 hh (a1.re h9 ps9 S9 g9 (b2.pre.trans (d3.dd.pre.trans p9))) (b1.re h9 ps9 S9 g9 (d3.dd.pre.trans p9))).trans (d3.re h9 ps9 S9 g9 p9)⟩,T3,by rw [fmH,a4,b4]; lia,y1,.inr y2,fun hw=>b7 fun w hm=>hw w (List.mem_of_mem_drop hm),by rw [fmS]; lia⟩
end Sk
namespace Sk
open PySem PySem.Spec L2 Sm
def ybF (x : Str) (k : Nat) : Str:=cutS x (some ((8 * k : Nat) : Int)) (some ((8 * k + 8 : Nat) : Int))
theorem zbS (x : Str) (k : Nat) : (ybF x k).cps.toList = (x.cps.toList.drop (8 * k)).take 8:=by
 unfold ybF
 rw [zjk (by lia),show 8 * k + 8 - 8 * k = 8 by lia]
theorem zbT (x : Str) (k : Nat) : (ybF x k).length = min 8 (x.length - 8 * k):=by
 rw [zag,zbS,List.length_take,List.length_drop,<- zag]
theorem zcm {x : Str} (px : yaD x = true) (k : Nat) : yaD (ybF x k) = true:=by
 unfold yaD at *
 rw [zbS,List.all_eq_true]
 rw [List.all_eq_true] at px
 exact fun c hc=>px c (List.mem_of_mem_drop (List.mem_of_mem_take hc))
theorem zcV (x : Str) : ∀ j,(cat ((List.range j).map (ybF x))).cps.toList = x.cps.toList.take (8 * j)
 | 0=>rfl
 | j + 1=>by
  rw [List.range_succ,List.map_append,zb6,zah,zcV x j]
  show _++(cat [ybF x j]).cps.toList = _
  rw [zb7,zbS,show 8 * (j + 1) = 8 * j + 8 by lia,List.take_add]
theorem zbU {α : Type} {f : Nat -> α} {N i : Nat} {w : α} (e : ((List.range N).map f)[i]? = some w) : i < N /\ w = f i:=by
 rw [List.getElem?_map] at e
 obtain ⟨j,ej,ew⟩:=Option.map_eq_some_iff.mp e
 have h1:=(List.getElem?_eq_some_iff.mp ej).1
 rw [List.length_range] at h1
 rw [List.getElem?_range h1] at ej
 cases ej
 exact ⟨h1,ew.symm⟩
theorem LS.snoc {ps ps' : List Pc} {ns : List Nat} {ws : List Str} {n : Nat} {w : Str} (s : LS ps ns ws) (h : ps <+: ps') (T : Tx ps' n (lfMs w n) w (lfMs w n) (lfMs w n)) : LS ps' (ns++[n]) (ws++[w]):=by
 have l:=s.1
 refine ⟨by simp [s.1],fun i a b ea eb=>?_⟩
 by_cases q : i < ns.length
 ·rw [List.getElem?_append_left q] at ea
  rw [List.getElem?_append_left (by lia)] at eb
  exact (s.2 i a b ea eb).pre h
 ·have h1:=(List.getElem?_eq_some_iff.mp ea).1
  have hi : i = ns.length:=by simp at h1; lia
  subst hi
  rw [List.getElem?_append_right (by lia)] at ea eb
  simp at ea
  rw [show ns.length - ws.length = 0 by lia] at eb
  simp at eb
  subst ea eb
  exact T
theorem zeV {h : AH} {p : Nat} {ps : List Pc} {x : Str} (S : ShelfAt h p ps) (g : Good ps) (px : yaD x = true) (N : Nat) (hN : 8 * N < x.length + 8) (hx : x.length <= 10000) (hz : ps.length + N < 16000000) (all : List AV) (js : List Nat) (en : En) (hj : js.map (fun j=>(en[j]?).join) = [some (.ref p),some (.str x)]) :
  ∃ (ns : List Nat) (ps' : List Pc) (h' : AH),yaX js en none all sYes (yak 0 yav (sVar 1) (sCons (sCut (sVar 2) (some (sVar 0)) (some (sOp2 fAdd (sVar 0) (sLit (.int 8))))) sNil)) ((List.range N).map fun m : Nat=>AV.int (0 + (m : Int) * 8)) [] h = .ok (ivs ns) h' /\ Dd p h h' ps ps' N /\ LS ps' ns ((List.range N).map (ybF x)):=by
 obtain ⟨zs,h',c1,ns,ps',e1,D,LL⟩:=yfA (js:=js) (en:=en) (all:=all) (e:=yak 0 yav (sVar 1) (sCons (sCut (sVar 2) (some (sVar 0)) (some (sOp2 fAdd (sVar 0) (sLit (.int 8))))) sNil)) (xs:=(List.range N).map fun m : Nat=>AV.int (0 + (m : Int) * 8)) (h:=h)
  (fun j ys h' => ∃ (ns : List Nat) (ps' : List Pc),ys = ivs ns /\ Dd p h h' ps ps' j /\ LS ps' ns ((List.range j).map (ybF x))) ⟨[],ps,rfl,Dd.refl S g,rfl,fun i n w a _=>by simp at a⟩ (by
   rintro j v ys h' hv ⟨ns,ps',rfl,D,LL⟩
   obtain ⟨jN,rfl⟩:=zbU hv
   have z:=D.len
   have lc:=zbT x j
   have sc : ybf (ybF x j) = true:=by
    unfold ybf
    rw [zcm px j,lc]
    simp; lia
   obtain ⟨n,ps2,h2,d2,T⟩:=zbo D.sh D.gd sc (by lia)
   have i1 : (0 : Int) + (j : Int) * 8 = ((8 * j : Nat) : Int):=by lia
   have i2 : ((8 * j : Nat) : Int) + 8 = ((8 * j + 8 : Nat) : Int):=by lia
   have ct : ybb (.str x) (some ((8 * j : Nat) : Int)) (some ((8 * j + 8 : Nat) : Int)) h' = .ok (.str (ybF x j)) h' := rfl
   have ev:=d2.ev
   rw [hj]
   have e : yak 0 yav (sVar 1) (sCons (sCut (sVar 2) (some (sVar 0)) (some (sOp2 fAdd (sVar 0) (sLit (.int 8))))) sNil) [some (.int (0 + (j : Int) * 8)),some (.ref p),some (.str x)] h' = .ok (.int n) h2:=by
    rw [i1]
    have ad : fAdd (.int ((8 * j : Nat) : Int)) (.int 8) h' = .ok (.int ((8 * j + 8 : Nat) : Int)) h' := by rw [<- i2]; rfl
    generalize ((8 * j : Nat) : Int) = B1 at *
    generalize ((8 * j + 8 : Nat) : Int) = B2 at *
    simp [D.sh.ob,ad,ct,ev,-fAdd,-ybb]
   rw [e]
   refine ⟨ns++[n],ps2,by simp [ivs],D.trans d2.dd (by lia),?_⟩
   rw [List.range_succ,List.map_append]
   exact LL.snoc d2.dd.pre T) (by simp; exact Nat.le_trans (show N <= 10000 by lia) (by decide))
 rw [List.length_map,List.length_range] at D LL
 exact ⟨ns,ps',h',by rw [c1,e1],D,LL⟩
theorem zjl {ps : List Pc} {ns : List Nat} {ws : List Str} (LL : LS ps ns ws) (g : Good ps) {i n : Nat} {w : Str} (a : ns[i]? = some n) (b : ws[i]? = some w) : 1 <= n /\ ps[n - 1]? = some (.leaf w):=by
 have T:=LL.2 i n w a b
 refine ⟨T.n1,?_⟩
 rcases g.kind T with k | ⟨a,b,ma,mb,y,z,fa,la,fb,lb,k1,k2,k3,A,B,k6,k7,k8⟩
 ·exact k.1
 ·have h1:=congrArg Ms.ht k7
  rw [fmH] at h1
  have h2 : (lfMs w n).ht = 0:=rfl
  have:=A.ky.ht
  lia
theorem zew {h : AH} {p : Nat} {ps : List Pc} {x : Str} {N : Nat} {ns : List Nat} (S : ShelfAt h p ps) (g : Good ps) (px : yaD x = true) (hN : 8 * N < x.length + 8) (hx : x.length <= 10000) (LL : LS ps ns ((List.range N).map (ybF x))) (all : List AV) (js : List Nat) (en : En) (hj : js.map (fun j=>(en[j]?).join) = [some (.ref p),some (.str x)]) :
  yaX js en none all sYes (yak 0 yav (sVar 1) (sCons (sCut (sVar 2) (some (sVar 0)) (some (sOp2 fAdd (sVar 0) (sLit (.int 8))))) sNil)) ((List.range N).map fun m : Nat=>AV.int (0 + (m : Int) * 8)) [] h = .ok (ivs ns) h:=by
 have ln : ns.length = N:=by rw [LL.1]; simp
 obtain ⟨zs,h',c1,rfl,e1⟩:=yfA (js:=js) (en:=en) (all:=all) (e:=yak 0 yav (sVar 1) (sCons (sCut (sVar 2) (some (sVar 0)) (some (sOp2 fAdd (sVar 0) (sLit (.int 8))))) sNil)) (xs:=(List.range N).map fun m : Nat=>AV.int (0 + (m : Int) * 8)) (h:=h)
  (fun j ys h' => h' = h /\ ys = ivs (ns.take j)) ⟨rfl,rfl⟩ (by
   rintro j v ys h' hv ⟨rfl,rfl⟩
   obtain ⟨jN,rfl⟩:=zbU hv
   have lc:=zbT x j
   have sc : ybf (ybF x j) = true:=by
    unfold ybf
    rw [zcm px j,lc]
    simp; lia
   have en' : ns[j]? = some (ns[j]'(by lia)):=List.getElem?_eq_getElem (by lia)
   have ew : ((List.range N).map (ybF x))[j]? = some (ybF x j):=by
    rw [List.getElem?_map,List.getElem?_range jN]; rfl
   obtain ⟨n1,ep⟩:=zjl LL g en' ew
   generalize ns[j]'(by lia) = n at *
   have ev : yav [.ref p,.str (ybF x j)] h' = .ok (.int n) h' := by
    have:=za6 S g.nodup sc (by rw [lc]; exact Nat.le_trans (Nat.min_le_left _ _) (by decide)) ep
    rwa [show n - 1 + 1 = n by lia] at this
   have i1 : (0 : Int) + (j : Int) * 8 = ((8 * j : Nat) : Int):=by lia
   have i2 : ((8 * j : Nat) : Int) + 8 = ((8 * j + 8 : Nat) : Int):=by lia
   have ct : ybb (.str x) (some ((8 * j : Nat) : Int)) (some ((8 * j + 8 : Nat) : Int)) h' = .ok (.str (ybF x j)) h' := rfl
   rw [hj]
   have e : yak 0 yav (sVar 1) (sCons (sCut (sVar 2) (some (sVar 0)) (some (sOp2 fAdd (sVar 0) (sLit (.int 8))))) sNil) [some (.int (0 + (j : Int) * 8)),some (.ref p),some (.str x)] h' = .ok (.int n) h' := by
    rw [i1]
    have ad : fAdd (.int ((8 * j : Nat) : Int)) (.int 8) h' = .ok (.int ((8 * j + 8 : Nat) : Int)) h' := by rw [<- i2]; rfl
    have ob:=S.ob
    generalize ((8 * j : Nat) : Int) = B1 at *
    generalize ((8 * j + 8 : Nat) : Int) = B2 at *
    simp [ob,ad,ct,ev,-fAdd,-ybb]
   rw [e]
   refine ⟨rfl,?_⟩
   show ivs (ns.take j)++[AV.int n] = ivs (ns.take (j + 1))
   rw [List.take_add_one,en']
   simp [ivs]) (by simp; exact Nat.le_trans (show N <= 10000 by lia) (by decide))
 rw [List.length_map,List.length_range,<- ln,List.take_length] at e1
 rw [c1,e1]
theorem zex {hh h1 h2 : AH} {p n N : Nat} {x : Str} {ns : List Nat} (px : yaD x = true) (hx : x.length <= 10000) (q : ¬ x.length = 0) (eN : N = (x.length - 1) / 8 + 1)
  (e1 : yaX [0,1] [some (.ref p),some (.str x),none] none ((List.range N).map fun m : Nat=>AV.int (0 + (m : Int) * 8)) sYes (yak 0 yav (sVar 1) (sCons (sCut (sVar 2) (some (sVar 0)) (some (sOp2 fAdd (sVar 0) (sLit (.int 8))))) sNil)) ((List.range N).map fun m : Nat=>AV.int (0 + (m : Int) * 8)) [] hh = .ok (ivs ns) h1)
  (b1 : ybo 20 [.ref p,.fl (ivs ns)] h1 = .ok (.int n) h2) : ych [.ref p,.str x] hh = .ok (.int n) h2:=by
 have sl : x.length <= sizeLine:=Nat.le_trans hx (by decide)
 have fp:=zdh x hh sl
 rw [px] at fp
 have c1 : ¬ (10000 : Int) < x.length:=by lia
 have ir : ycV (sLit (.int 0)) (yaf fLen (sCons (sVar 1) sNil)) (sLit (.int 8)) [some (.ref p),some (.str x),none] hh = .ok ((List.range N).map (fun m : Nat=>AV.int (0 + (m : Int) * 8)),none) hh:=by
  have r1 : ((if (0 : Int) < x.length then ((x.length : Int) - 0 - 1) / 8 + 1 else 0 : Int)).toNat = N:=by
   rw [if_pos (by lia)]; lia
  have r2 : (0 : Int).natAbs < 2 ^ 40 /\ (x.length : Int).natAbs < 2 ^ 40 /\ (0 : Int) < 8 /\ (8 : Int) < 2 ^ 20:=⟨by decide,by lia,by decide,by decide⟩
  show (if _ then _ else _) = _
  rw [if_pos r2,r1]
 have cp : ybA [0,1] (ycV (sLit (.int 0)) (yaf fLen (sCons (sVar 1) sNil)) (sLit (.int 8))) sYes (yak 0 yav (sVar 1) (sCons (sCut (sVar 2) (some (sVar 0)) (some (sOp2 fAdd (sVar 0) (sLit (.int 8))))) sNil)) [some (.ref p),some (.str x),none] hh = .ok (.fl (ivs ns)) h1:=by
  simp only [ybA,ir,e1]
 have ne : fEq (.str x) (.str "") hh = .ok (.bl false) hh:=by
  have : ¬ x = Str.ofString "" := fun z=>q (by rw [z]; rfl)
  simp [this]
 unfold ych
 generalize ybA [0,1] (ycV (sLit (.int 0)) (yaf fLen (sCons (sVar 1) sNil)) (sLit (.int 8))) sYes (yak 0 yav (sVar 1) (sCons (sCut (sVar 2) (some (sVar 0)) (some (sOp2 fAdd (sVar 0) (sLit (.int 8))))) sNil)) = CP at *
 generalize ybo 20 = HV at *
 simp [fp,c1,ne,cp,b1,-fEq]
theorem zjm {h : AH} {p : Nat} {ps : List Pc} {x : Str} (S : ShelfAt h p ps) (g : Good ps) (px : yaD x = true) (hx : x.length <= 10000) (hz : ps.length + 2 * x.length < 16000000) :
  ∃ (n : Nat) (ps' : List Pc) (h' : AH),Dn (ych [.ref p,.str x]) p h h' ps ps' (2 * x.length) n /\ TxZ ps' n x:=by
 by_cases q : x.length = 0
 ·have xe : x = "" := zad (by rw [zag] at q; rw [List.length_eq_zero_iff.mp q]; rfl)
  subst xe
  refine ⟨0,ps,h,Dn.val S g (fun hh _ _ _ _=>?_),.inl ⟨rfl,rfl⟩⟩
  have fp:=zdh "" hh (by decide)
  rw [px] at fp
  have c1 : ¬ (10000 : Int) < (Str.ofString "").length:=by lia
  simp [ych,fp,c1]
 ·obtain ⟨N,eN⟩ : ∃ N,N = (x.length - 1) / 8 + 1:=⟨_,rfl⟩
  obtain ⟨ns,ps1,h1,e1,D1,LL⟩:=zeV S g px N (by lia) hx (by lia) ((List.range N).map fun m : Nat=>AV.int (0 + (m : Int) * 8)) [0,1] [some (.ref p),some (.str x),none] rfl
  have z1:=D1.len
  have ln : ns.length = N:=by rw [LL.1]; simp
  obtain ⟨n,ps2,h2,m,f,l,H,b1,b3,_⟩:=zcE (p:=p) 20 11 D1.sh D1.gd LL (by lia) (by rw [ln]; have : (2 : Nat) ^ 11 = 2048:=rfl; lia) (by decide) (fun i w ew hi=>by
   obtain ⟨iN,rfl⟩:=zbU ew
   rw [List.length_map,List.length_range] at hi
   rw [zbT]; lia) (by lia) (by lia)
  have rd : cat ((List.range N).map (ybF x)) = x:=zad (by rw [zcV,List.take_of_length_le (by rw [<- zag]; lia)])
  rw [rd] at b3
  refine ⟨n,ps2,h2,⟨zex px hx q eN e1 b1.ev,D1.trans b1.dd (by lia),fun h9 ps9 S9 g9 p9=>?_⟩,.inr ⟨_,_,_,b3⟩⟩
  exact zex px hx q eN (zew S9 g9 px (by lia) hx (LL.pre (b1.dd.pre.trans p9)) _ _ _ rfl) (b1.re h9 ps9 S9 g9 p9)
end Sk
namespace Sk
open PySem PySem.Spec L2 Sm
theorem zcF (h : AH) : ∀ is : List Int,toDs (toD 7 h) (is.map AV.int) = some (is.map PyData.int)
 | []=>rfl
 | i :: is=>by
  rw [List.map_cons,List.map_cons]
  show (match toD 7 h (.int i),toDs (toD 7 h) (is.map AV.int) with | some d,some ds=>some (d :: ds) | _,_=>none) = _
  rw [zcF h is]; rfl
theorem zcG : ∀ as bs : List Int,PyData.eqvAll (as.map PyData.int) (bs.map PyData.int) = decide (as = bs)
 | [],[]=>by simp [PyData.eqvAll]
 | [],b :: bs=>by simp [PyData.eqvAll]
 | a :: as,[]=>by simp [PyData.eqvAll]
 | a :: as,b :: bs=>by
  rw [List.map_cons,List.map_cons]
  simp only [PyData.eqvAll,PyData.eqv,zcG as bs]
  by_cases q : a = b
  ·subst q; simp
  ·simp [q]
theorem zjn (as bs : List Int) (h : AH) : fEq (.fl (as.map AV.int)) (.fl (bs.map AV.int)) h = .ok (.bl (decide (as = bs))) h:=by
 have t : ∀ is : List Int,toD 8 h (.fl (is.map AV.int)) = some (.list (is.map PyData.int)):=fun is=>by
  show (toDs (toD 7 h) (is.map AV.int)).map PyData.list = _
  rw [zcF]; rfl
 have e : eqA (.fl (as.map AV.int)) (.fl (bs.map AV.int)) h = some (decide (as = bs)):=by
  show (match toD 8 h (.fl (as.map AV.int)),toD 8 h (.fl (bs.map AV.int)) with | some d,some e=>some (PyData.eqv d e) | _,_=>none) = _
  rw [t,t]
  show some (PyData.eqv (.list _) (.list _)) = _
  rw [PyData.eqv,zcG]
 show (match eqA (.fl (as.map AV.int)) (.fl (bs.map AV.int)) h with | some b=>Out.ok (AV.bl b) h | none=>Out.bad) = _
 rw [e]
def rdOf (ps : List Pc) (n : Nat) : Str:=(reads ps).getD n ""
theorem rd_of {ps : List Pc} {n : Nat} {m : Ms} {x : Str} {f l : Ms} (T : Tx ps n m x f l) : rdOf ps n = x:=zaK T.rd
def wt (ps : List Pc) (n : Nat) : Nat:=2 * ((meas ps).getD n ms0).lv - 1
theorem ycT {ps : List Pc} {n : Nat} {m : Ms} (e : (meas ps)[n]? = some m) : wt ps n = 2 * m.lv - 1:=by unfold wt; rw [zaK e]
theorem yfE {h : AH} {W : Nat} {ns : List Nat} (e : h[W]? = some (.lst (ivs ns))) : fNe (.ref W) (.fl []) h = .ok (.bl (!decide (ns = []))) h:=by
 have i0 : ivs ns = (ns.map fun n : Nat=>(n : Int)).map AV.int:=by rw [List.map_map]; rfl
 have d1 : toD 8 h (.ref W) = some (.list ((ns.map fun n : Nat=>(n : Int)).map PyData.int)):=by
  show (match h[W]? with | some (.lst xs)=>(toDs (toD 7 h) xs).map PyData.list | _=>none) = _
  rw [e]
  show (toDs (toD 7 h) (ivs ns)).map PyData.list = _
  rw [i0,zcF]; rfl
 have d2 : toD 8 h (.fl []) = some (.list (([] : List Int).map PyData.int)):=rfl
 have q : eqA (.ref W) (.fl []) h = some (decide (ns = [])):=by
  show (match toD 8 h (.ref W),toD 8 h (.fl []) with | some d,some e=>some (PyData.eqv d e) | _,_=>none) = _
  rw [d1,d2]
  show some (PyData.eqv (.list _) (.list _)) = _
  rw [PyData.eqv,zcG]
  congr 1
  apply decide_eq_decide.mpr
  cases ns<;>simp
 show (match eqA (.ref W) (.fl []) h with | some b=>Out.ok (AV.bl (!b)) h | none=>Out.bad) = _
 rw [q]
theorem yeX {h : AH} {W : Nat} {Z : List AV} {v : AV} (e : h[W]? = some (.lst (Z++[v]))) : mPop (.ref W) [] h = .ok v (h.set W (.lst Z)):=by
 simp [mPop,e]
theorem zjo {h : AH} {p F W n : Nat} {ps : List Pc} {A Z : List AV} {x : Str} {o1 o4 o5 : Option AV} (S : ShelfAt h p ps) (n1 : 1 <= n) (ep : ps[n - 1]? = some (.leaf x)) (hF : p + 8 < F) (hW : p + 8 < W) (ne : F ≠ W) (eF : h[F]? = some (.lst A)) (eW : h[W]? = some (.lst (Z++[.int n]))) (lA : A.length <= 100000) :
  yaT [some (.ref p),o1,some (.ref F),some (.ref W),o4,o5] h = .nx [some (.ref p),o1,some (.ref F),some (.ref W),some (.int n),some (.tup [.str "leaf",.str x])] ((h.set W (.lst Z)).set F (.lst (A++[.str x]))):=by
 have po:=yeX eW
 have il : yaI (.ref W) h = true:=by simp [yaI,eW]
 have S1 : ShelfAt (h.set W (.lst Z)) p ps:=S.keep fun i _ b=>List.getElem?_set_ne (by lia)
 have fp:=zaR S1 n1 ep
 have eF1 : (h.set W (.lst Z))[F]? = some (.lst A):=by rw [List.getElem?_set_ne (by lia)]; exact eF
 have il2 : yaI (.ref F) (h.set W (.lst Z)) = true:=by simp only [yaI,ya5,eF1]; rfl
 have sz : A.length < sizeLine:=Nat.lt_of_le_of_lt lA (by decide)
 have ap : yaR (.ref F) [.str x] (h.set W (.lst Z)) = .ok .non ((h.set W (.lst Z)).set F (.lst (A++[.str x]))):=by simp only [yaR,eF1,sz,if_true]
 have nz : fNe (.int n) (.int 0) (h.set W (.lst Z)) = .ok (.bl true) (h.set W (.lst Z)):=by
  have : ¬ n = 0:=by lia
  simp [this]
 generalize h.set W (.lst Z) = h1 at *
 generalize h1.set F (.lst (A++[.str x])) = h2 at *
 simp [yaT,il,po,nz,S1.ob,fp,i0L,eqL,i1L,il2,ap,-yaI,-mPop,-fNe,-fIx,-fEq,-yaR]
theorem zjp {h : AH} {p F W n a b : Nat} {ps : List Pc} {Z : List AV} {o1 o4 o5 : Option AV} (S : ShelfAt h p ps) (n1 : 1 <= n) (ep : ps[n - 1]? = some (.fork a b)) (hW : p + 8 < W) (eW : h[W]? = some (.lst (Z++[.int n]))) (lZ : Z.length <= 100000) :
  yaT [some (.ref p),o1,some (.ref F),some (.ref W),o4,o5] h = .nx [some (.ref p),o1,some (.ref F),some (.ref W),some (.int n),some (.tup [.str "fork",.int a,.int b])] (h.set W (.lst (Z++[.int b,.int a]))++[.lst [.int b,.int a]]):=by
 have po:=yeX eW
 have il : yaI (.ref W) h = true:=by simp [yaI,eW]
 have S1 : ShelfAt (h.set W (.lst Z)) p ps:=S.keep fun i _ b=>List.getElem?_set_ne (by lia)
 have fp:=zax S1 n1 ep
 have Wl:=ya3 eW
 have eW1 : (h.set W (.lst Z))[W]? = some (.lst Z):=List.getElem?_set_self Wl
 have nz : fNe (.int n) (.int 0) (h.set W (.lst Z)) = .ok (.bl true) (h.set W (.lst Z)):=by
  have : ¬ n = 0:=by lia
  simp [this]
 have fin : (h.set W (.lst Z)++[AO.lst [.int b,.int a]]).set W (.lst (Z++[.int b,.int a])) = h.set W (.lst (Z++[.int b,.int a]))++[.lst [.int b,.int a]]:=by
  rw [List.set_append_left _ _ (by simpa using Wl),List.set_set]
 have ex : ydY (.ref W) [.ref (h.set W (.lst Z)).length] (h.set W (.lst Z)++[.lst [.int b,.int a]]) = .ok .non (h.set W (.lst (Z++[.int b,.int a]))++[.lst [.int b,.int a]]):=by
  have g1 : (h.set W (.lst Z)++[AO.lst [.int b,.int a]])[W]? = some (.lst Z):=by rw [List.getElem?_append_left (by simpa using Wl)]; exact eW1
  have g2 : (h.set W (.lst Z)++[AO.lst [.int b,.int a]])[(h.set W (.lst Z)).length]? = some (.lst [.int b,.int a]):=by simp
  have sz : Z.length + 2 <= sizeLine:=Nat.le_trans (Nat.add_le_add_right lZ 2) (by decide)
  simp only [ydY,g1,g2,List.length_cons,List.length_nil,Nat.zero_add,Nat.reduceAdd,sz,if_true,fin]
 have il2 : yaI (.ref W) (h.set W (.lst Z)) = true:=by simp only [yaI,ya5,eW1]; rfl
 generalize h.set W (.lst (Z++[.int b,.int a]))++[.lst [.int b,.int a]] = h3 at *
 generalize h.set W (.lst Z) = h1 at *
 simp [yaT,il,po,nz,S1.ob,fp,i0F,eqF,i1,i2,il2,ex,-yaI,-mPop,-fNe,-fIx,-fEq,-ydY]
end Sk
namespace Sk
open PySem PySem.Spec L2 Sm
theorem yfU {ps : List Pc} {n : Nat} {m : Ms} {x : Str} {f l : Ms} (T : Tx ps n m x f l) : m.lv <= 2 * (m.sg / 9) + 1:=by
 obtain ⟨k,c | c⟩:=T.ky.cnt
 ·have:=T.ky.f1; lia
 ·lia
theorem yc0 {h : AH} {a b : AO} {r : AH} : (h++(a :: b :: r))[h.length]? = some a /\ (h++(a :: b :: r))[h.length + 1]? = some b:=by
 constructor
 ·simp
 ·rw [List.getElem?_append_right (by lia)]; simp
theorem zjq {h : AH} {a b c : AO} {r : AH} : (h++(a :: b :: r)).set h.length c = h++(c :: b :: r):=by
 rw [List.set_append_right _ _ (Nat.le_refl _)]; simp
theorem zdk {h : AH} {a b c : AO} {r : AH} : (h++(a :: b :: r)).set (h.length + 1) c = h++(a :: c :: r):=by
 rw [List.set_append_right _ _ (by lia)]; simp
theorem zey : ∀ fs : List Str,(fs.map fun x : Str=>x.cps.toList).flatten = (cat fs).cps.toList
 | []=>rfl
 | w :: fs=>by
  show w.cps.toList++(fs.map fun x : Str=>x.cps.toList).flatten = (w++cat fs).cps.toList
  rw [zah,zey fs]
theorem strs_of : ∀ fs : List Str,ydq (fs.map AV.str) = some fs
 | []=>rfl
 | w :: fs=>by simp [ydq,strs_of fs]
theorem zez {h : AH} {F : Nat} {fs : List Str} (e : h[F]? = some (.lst (fs.map AV.str))) (hl : (cat fs).length <= 1000000) : yc7 (.str "") [.ref F] h = .ok (.str (cat fs)) h:=by
 have z : (Str.ofString "") = Str.empty:=by decide +kernel
 have lt : ya5 (.ref F) h = some (fs.map AV.str):=by simp [ya5,e]
 rw [zag] at hl
 simp only [yc7,z,if_true,lt,strs_of,zey,hl,Array.toArray_toList]
theorem yfF {ps : List Pc} : ∀ tk : List Nat,(∀ k ∈ tk,∃ m x f l,Tx ps k m x f l) -> tk.length <= (tk.map (wt ps)).sum
 | [],_=>Nat.le_refl _
 | k :: tk,h=>by
  obtain ⟨m,x,f,l,T⟩:=h k (by simp)
  have:=yfF tk fun j hj=>h j (by simp [hj])
  have w:=ycT T.ms
  have lv:=T.ky.lv
  simp only [List.length_cons,List.map_cons,List.sum_cons]
  lia
theorem zhh {h hh : AH} {p : Nat} {ps : List Pc} {n N : Nat} {y : Str} {en : En} (S : ShelfAt h p ps) (g : Good ps) {fs : List Str} {k : Nat} {t : List Nat} {r : AH} {o4 o5 : Option AV}
  (eh : hh = h++(.lst (fs.map AV.str) :: .lst (ivs (k :: t).reverse) :: r)) (een : en = [some (.ref p),some (.int n),some (.ref h.length),some (.ref (h.length + 1)),o4,o5]) (al : ∀ j ∈ k :: t,∃ m x f l,Tx ps j m x f l) (rd : cat fs++cat ((k :: t).map (rdOf ps)) = y) (eN : N = ((k :: t).map (wt ps)).sum) (hN : fs.length + N <= 20000) :
  thn (yaT en hh) fun e2 h2=>∃ N',N' < N /\ ∃ (fs : List Str) (tk : List Nat) (r : AH) (o4 o5 : Option AV),h2 = h++(.lst (fs.map AV.str) :: .lst (ivs tk.reverse) :: r) /\ e2 = [some (.ref p),some (.int n),some (.ref h.length),some (.ref (h.length + 1)),o4,o5] /\ (∀ j ∈ tk,∃ m x f l,Tx ps j m x f l) /\ cat fs++cat (tk.map (rdOf ps)) = y /\ N' = (tk.map (wt ps)).sum /\ fs.length + N' <= 20000:=by
 obtain ⟨m,x,f,l,T⟩:=al k (by simp)
 have pl:=ya3 S.h8
 have sg:=yfF t fun j hj=>al j (by simp [hj])
 have wk:=ycT T.ms
 have lv:=T.ky.lv
 rw [List.map_cons,List.sum_cons] at eN
 have iv : ivs (k :: t).reverse = ivs t.reverse++[.int k]:=by simp [ivs]
 rw [iv] at eh
 have Sh : ShelfAt hh p ps:=eh ▸ S.app _
 have g1 : hh[h.length]? = some (.lst (fs.map AV.str)):=eh ▸ yc0.1
 have g2 : hh[h.length + 1]? = some (.lst (ivs t.reverse++[.int k])):=eh ▸ yc0.2
 have lt : (ivs t.reverse).length = t.length:=by simp [ivs]
 rcases g.kind T with ⟨e1,e2,e3,e4,e5⟩ | ⟨a,b,ma,mb,y1,y2,fa,la,fb,lb,e1,e2,e3,A,B,e4,e5,e6⟩
 ·have tn:=zjo (o1:=some (.int n)) (o4:=o4) (o5:=o5) Sh T.n1 e1 (F:=h.length) (W:=h.length + 1) (by lia) (by lia) (by lia) g1 g2 (by simp; lia)
  rw [een,tn]
  refine ⟨(t.map (wt ps)).sum,by lia,fs++[x],t,r,_,_,?_,rfl,fun j hj=>al j (by simp [hj]),?_,rfl,?_⟩
  ·rw [eh,zdk,zjq]; simp
  ·rw [<- rd,List.map_cons,rd_of T,zb6,zb7]
   show _ = cat fs++(x++cat (t.map (rdOf ps)))
   rw [zae]
  ·rw [List.length_append,List.length_singleton]; lia
 ·have tn:=zjp (o1:=some (.int n)) (o4:=o4) (o5:=o5) Sh T.n1 e1 (F:=h.length) (W:=h.length + 1) (by lia) g2 (by lia)
  have wa:=ycT A.ms
  have wb:=ycT B.ms
  have l1:=A.ky.lv
  have l2:=B.ky.lv
  have lm : m.lv = ma.lv + mb.lv:=by rw [e5]; rfl
  rw [een,tn]
  refine ⟨((a :: b :: t).map (wt ps)).sum,by rw [List.map_cons,List.map_cons,List.sum_cons,List.sum_cons]; lia,fs,a :: b :: t,r++[.lst [.int b,.int a]],_,_,?_,rfl,fun j hj=>?_,?_,rfl,?_⟩
  ·rw [eh,zdk]
   simp [ivs]
  ·rcases List.mem_cons.mp hj with rfl | hj
   ·exact ⟨_,_,_,_,A⟩
   ·rcases List.mem_cons.mp hj with rfl | hj
    ·exact ⟨_,_,_,_,B⟩
    ·exact al j (by simp [hj])
  ·rw [<- rd,List.map_cons,List.map_cons,List.map_cons,rd_of A,rd_of B,rd_of T,e4]
   show cat fs++(y1++(y2++cat (t.map (rdOf ps)))) = cat fs++((y1++y2)++cat (t.map (rdOf ps)))
   rw [zae y1]
  ·rw [List.map_cons,List.map_cons,List.sum_cons,List.sum_cons]; lia
theorem zjr {h : AH} {p : Nat} {ps : List Pc} {n : Nat} {m : Ms} {y : Str} {f l : Ms} (S : ShelfAt h p ps) (g : Good ps) (T : Tx ps n m y f l) (hy : y.length <= 10000) : ∃ r : AH,ybc [.ref p,.int n] h = .ok (.str y) (h++r):=by
 have lv:=yfU T
 have sg:=T.ky.sg
 have w1:=ycT T.ms
 obtain ⟨e',h',q1,fs,r,o4,o5,q2,q3,q4⟩:=zdg (c:=yaj (sOp2 fNe (sVar 3) (sLst sNil))) (b:=yaT) (fuel:=yco) (n:=wt ps n) (en:=[some (.ref p),some (.int n),some (.ref h.length),some (.ref (h.length + 1)),none,none]) (h:=h++(.lst [] :: .lst [.int n] :: []))
  (fun N en hh=>∃ (fs : List Str) (tk : List Nat) (r : AH) (o4 o5 : Option AV),hh = h++(.lst (fs.map AV.str) :: .lst (ivs tk.reverse) :: r) /\ en = [some (.ref p),some (.int n),some (.ref h.length),some (.ref (h.length + 1)),o4,o5] /\ (∀ j ∈ tk,∃ m x f l,Tx ps j m x f l) /\ cat fs++cat (tk.map (rdOf ps)) = y /\ N = (tk.map (wt ps)).sum /\ fs.length + N <= 20000)
  (fun en hh=>∃ (fs : List Str) (r : AH) (o4 o5 : Option AV),hh = h++(.lst (fs.map AV.str) :: .lst [] :: r) /\ en = [some (.ref p),some (.int n),some (.ref h.length),some (.ref (h.length + 1)),o4,o5] /\ cat fs = y)
  ⟨[],[n],[],none,none,rfl,rfl,fun j hj=>by simp at hj; subst hj; exact ⟨_,_,_,_,T⟩,by
   show ("" : Str)++cat [rdOf ps n] = y
   rw [zb7,rd_of T]
   exact zad (by rw [zah]; rfl),by simp,by show 0 + _ <= _; lia⟩ (by show _ < 100000000; lia) (by
   rintro N en hh ⟨fs,tk,r,o4,o5,eh,een,al,rd,eN,hN⟩
   have nn:=yfE (h:=hh) (W:=h.length + 1) (ns:=tk.reverse) (eh ▸ yc0.2)
   have c : yaj (sOp2 fNe (sVar 3) (sLst sNil)) en hh = .ok (!decide (tk.reverse = [])) hh:=by
    subst een
    simp [nn,-fNe]
   rw [c]
   cases tk with
   | nil =>
    refine ⟨fs,r,o4,o5,eh,een,?_⟩
    rw [<- rd]
    exact (zad (by show _ = (cat fs++("" : Str)).cps.toList; rw [zah]; simp; rfl))
   | cons k t =>
    have : (!decide ((k :: t).reverse = [])) = true:=by simp
    rw [this]
    exact zhh S g eh een al rd eN hN)
 have jn:=zez (h:=h') (F:=h.length) (fs:=fs) (q2 ▸ yc0.1) (by rw [q4]; lia)
 rw [q4] at jn
 refine ⟨.lst (fs.map AV.str) :: .lst [] :: r,?_⟩
 rw [<- q2]
 subst q3
 have l1 : (h++[AO.lst []])++[AO.lst [.int (n : Int)]] = h++(.lst [] :: .lst [.int n] :: []):=by simp
 unfold ybc
 generalize hw : ybs (yaj (sOp2 fNe (sVar 3) (sLst sNil))) yaT yco = WH at *
 simp [q1,jn,-yc7]
theorem zjs {h : AH} {p : Nat} : ∃ r : AH,ybc [.ref p,.int 0] h = .ok (.str "") (h++r):=by
 obtain ⟨e',h',q1,o4,q2,q3⟩:=zdg (c:=yaj (sOp2 fNe (sVar 3) (sLst sNil))) (b:=yaT) (fuel:=yco) (n:=1) (en:=[some (.ref p),some (.int 0),some (.ref h.length),some (.ref (h.length + 1)),none,none]) (h:=h++(.lst [] :: .lst (ivs [0]) :: []))
  (fun N en hh=>∃ (ns : List Nat) (o4 : Option AV),hh = h++(.lst [] :: .lst (ivs ns) :: []) /\ en = [some (.ref p),some (.int 0),some (.ref h.length),some (.ref (h.length + 1)),o4,none] /\ ((N = 1 /\ ns = [0]) \/ (N = 0 /\ ns = [])))
  (fun en hh=>∃ (o4 : Option AV),hh = h++(.lst [] :: .lst [] :: []) /\ en = [some (.ref p),some (.int 0),some (.ref h.length),some (.ref (h.length + 1)),o4,none])
  ⟨[0],none,rfl,rfl,.inl ⟨rfl,rfl⟩⟩ (by show 1 < 100000000; lia) (by
   rintro N en hh ⟨ns,o4,eh,een,hs⟩
   have nn:=yfE (h:=hh) (W:=h.length + 1) (ns:=ns) (eh ▸ yc0.2)
   have c : yaj (sOp2 fNe (sVar 3) (sLst sNil)) en hh = .ok (!decide (ns = [])) hh:=by
    subst een
    simp [nn,-fNe]
   rw [c]
   rcases hs with ⟨rfl,rfl⟩ | ⟨rfl,rfl⟩
   ·have g2 : hh[h.length + 1]? = some (.lst ([]++[.int 0])):=eh ▸ yc0.2
    have po:=yeX g2
    have hs : hh.set (h.length + 1) (.lst []) = h++(.lst [] :: .lst [] :: []):=by rw [eh,zdk]
    rw [hs] at po
    have il : yaI (.ref (h.length + 1)) hh = true:=by simp only [yaI,ya5,g2]; rfl
    have e : yaT en hh = .nx [some (.ref p),some (.int 0),some (.ref h.length),some (.ref (h.length + 1)),some (.int 0),none] (h++(.lst [] :: .lst [] :: [])):=by
     subst een
     simp [yaT,il,po,-yaI,-mPop]
    show thn (yaT en hh) _
    rw [e]
    exact ⟨0,by lia,[],_,rfl,rfl,.inr ⟨rfl,rfl⟩⟩
   ·exact ⟨o4,eh,een⟩)
 have jn:=zez (h:=h') (F:=h.length) (fs:=[]) (q2 ▸ yc0.1) (by decide)
 have jn' : yc7 (.str "") [.ref h.length] h' = .ok (.str "") h' := jn
 refine ⟨_,by
  rw [<- q2]
  subst q3
  unfold ybc
  generalize hw : ybs (yaj (sOp2 fNe (sVar 3) (sLst sNil))) yaT yco = WH at *
  simp [ivs] at q1
  simp [q1,jn',-yc7]⟩
theorem yeq {h : AH} {p : Nat} {ps : List Pc} {n : Nat} {y : Str} (S : ShelfAt h p ps) (g : Good ps) (t : TxZ ps n y) (hy : y.length <= 10000) : ∃ r : AH,ybc [.ref p,.int n] h = .ok (.str y) (h++r):=by
 rcases t with ⟨rfl,rfl⟩ | ⟨m,f,l,T⟩
 ·exact zjs
 ·exact zjr S g T hy
end Sk
namespace Sk
open PySem PySem.Spec L2 Sm
def ybV (m f l : Ms) : AV:=.tup [.int m.ht,.int m.sg,.int f.sg,.int l.sg,.int m.lv]
def KOk (ps : List Pc) (kvs : List (AV × AV)) : Prop:=∀ (k : Int) (v : AV),valA kvs (.int k) = some v -> ∃ (n : Nat) (m : Ms) (x : Str) (f l : Ms),k = n /\ Tx ps n m x f l /\ v = ybV m f l
theorem zjt {kvs : List (AV × AV)} {k v : AV} (e : valA kvs k = none) : putA kvs k v = kvs++[(k,v)]:=by
 unfold putA
 rw [za8,e]; rfl
theorem zju {kvs : List (AV × AV)} {k v j w : AV} (e : valA (kvs++[(k,v)]) j = some w) : valA kvs j = some w \/ (j = k /\ w = v):=by
 unfold valA at *
 rw [List.find?_append] at e
 cases q : kvs.find? fun p=>decide (p.1 = j) with
 | some z=>rw [q] at e; exact .inl e
 | none =>
  rw [q] at e
  simp only [Option.none_or,List.find?_cons,List.find?_nil] at e
  by_cases c : k = j
  ·simp [c] at e
   exact .inr ⟨c.symm,e.symm⟩
  ·simp [c] at e
theorem KOk.put {ps : List Pc} {kvs : List (AV × AV)} (K : KOk ps kvs) {n : Nat} {m : Ms} {x : Str} {f l : Ms} (T : Tx ps n m x f l) (e : valA kvs (.int n) = none) : KOk ps (putA kvs (.int n) (ybV m f l)) /\ (putA kvs (.int n) (ybV m f l)).length = kvs.length + 1:=by
 rw [zjt e]
 refine ⟨fun k v hv=>?_,by simp⟩
 rcases zju hv with h | ⟨h1,h2⟩
 ·exact K k v h
 ·injection h1 with h1
  exact ⟨n,m,x,f,l,h1,T,h2⟩
theorem zib {h : AH} {D : Nat} {o : AO} (e : h[D]? = some o) : h.set D o = h:=by
 apply List.ext_getElem?
 intro i
 by_cases q : D = i
 ·subst q; rw [List.getElem?_set_self (ya3 e),e]
 ·rw [List.getElem?_set_ne q]
theorem zfN (a b c d e : Int) (h : AH) : fNe (.tup [.int a,.int b,.int c,.int d,.int e]) (.tup []) h = .ok (.bl true) h:=by
 have q : eqA (.tup [.int a,.int b,.int c,.int d,.int e]) (.tup []) h = some false:=by
  show some (PyData.eqv (.tuple [.int a,.int b,.int c,.int d,.int e]) (.tuple [])) = some false
  simp [PyData.eqv,PyData.eqvAll]
 show (match eqA (.tup [.int a,.int b,.int c,.int d,.int e]) (.tup []) h with | some b=>Out.ok (AV.bl (!b)) h | none=>Out.bad) = _
 rw [q]; rfl
theorem yhY {h : AH} {p D d n : Nat} {kvs : List (AV × AV)} {v : AV} (eD : h[D]? = some (.dct false kvs)) (e : valA kvs (.int n) = some v) : yaY (d + 1) [.ref p,.int n,.ref D] h = .ok v h:=by
 simp [yaY,ycR,eD,e,ybR]
theorem eqFL (h : AH) : fEq (.str "leaf") (.str "fork") h = .ok (.bl false) h:=by
 have : ¬ (Str.ofString "leaf" = Str.ofString "fork"):=by decide +kernel
 simp [this]
theorem eqFF (h : AH) : fEq (.str "fork") (.str "fork") h = .ok (.bl true) h:=by simp
theorem zjv {h : AH} {p D d n : Nat} {ps : List Pc} {kvs : List (AV × AV)} {x : Str} (S : ShelfAt h p ps) (n1 : 1 <= n) (ep : ps[n - 1]? = some (.leaf x)) (x1 : 1 <= x.length) (x8 : x.length <= 8) (eD : h[D]? = some (.dct false kvs)) (e : valA kvs (.int n) = none) (hl : kvs.length <= 100000) :
  yaY (d + 1) [.ref p,.int n,.ref D] h = .ok (.tup [.int 0,.int x.length,.int x.length,.int x.length,.int 1]) (h.set D (.dct false (putA kvs (.int n) (.tup [.int 0,.int x.length,.int x.length,.int x.length,.int 1])))):=by
 have fp:=zaR S n1 ep
 have c1 : 0 < x.length:=by lia
 have c2 : (x.length : Int) < 9:=by lia
 have sz : kvs.length < sizeLine:=Nat.lt_of_le_of_lt hl (by decide)
 have ni : fIn (.int n) (.ref D) h = .ok (.bl false) h:=by simp [eD,e,ybR]
 have ii : ∀ t : String,(AV.str x |> fun v=>tyN v h) = some "str" := fun _=>rfl
 unfold yaY ycR
 generalize yaY d = G
 simp [ni,S.ob,fp,i0L,eqL,i1L,eqFL,c1,c2,eD,sz,ybR,-fIn,-fEq,-fIx]
theorem zjw {h h1 h2 : AH} {p D d n a b : Nat} {ps : List Pc} {kvs kvs2 : List (AV × AV)} {ma mb fa la fb lb : Ms} (S : ShelfAt h p ps) (n1 : 1 <= n) (ep : ps[n - 1]? = some (.fork a b)) (a1 : 1 <= a) (b1 : 1 <= b) (an : a < n) (bn : b < n) (eD : h[D]? = some (.dct false kvs)) (e : valA kvs (.int n) = none)
  (e1 : yaY d [.ref p,.int a,.ref D] h = .ok (ybV ma fa la) h1) (e2 : yaY d [.ref p,.int b,.ref D] h1 = .ok (ybV mb fb lb) h2) (v1 : -1 <= ma.ht - mb.ht) (v2 : ma.ht - mb.ht <= 1) (hc : 8 < la.sg + fb.sg) (eD2 : h2[D]? = some (.dct false kvs2)) (hl : kvs2.length <= 100000) :
  yaY (d + 1) [.ref p,.int n,.ref D] h = .ok (.tup [.int (1 + max ma.ht mb.ht),.int (ma.sg + mb.sg),.int fa.sg,.int lb.sg,.int (ma.lv + mb.lv)]) (h2.set D (.dct false (putA kvs2 (.int n) (.tup [.int (1 + max ma.ht mb.ht),.int (ma.sg + mb.sg),.int fa.sg,.int lb.sg,.int (ma.lv + mb.lv)])))):=by
 have fp:=zax S n1 ep
 have c1 : (0 : Int) < a /\ (a : Int) < n:=by lia
 have c2 : (0 : Int) < b /\ (b : Int) < n:=by lia
 have c3 : (8 : Int) < (la.sg : Int) + fb.sg:=by lia
 have sz : kvs2.length < sizeLine:=Nat.lt_of_le_of_lt hl (by decide)
 have ni : fIn (.int n) (.ref D) h = .ok (.bl false) h:=by simp [eD,e,ybR]
 have la1 : fLt (.int a) (.int n) h = .ok (.bl true) h:=by simp [an]
 have lb1 : fLt (.int b) (.int n) h = .ok (.bl true) h:=by simp [bn]
 have la0 : fLt (.int 0) (.int a) h = .ok (.bl true) h:=by simp [show 0 < a by lia]
 have lb0 : fLt (.int 0) (.int b) h = .ok (.bl true) h:=by simp [show 0 < b by lia]
 have x0 : ∀ (i j k l o : Int) h,fIx (.tup [.int i,.int j,.int k,.int l,.int o]) (.int 0) h = .ok (.int i) h:=fun _ _ _ _ _ _=>rfl
 have x1 : ∀ (i j k l o : Int) h,fIx (.tup [.int i,.int j,.int k,.int l,.int o]) (.int 1) h = .ok (.int j) h:=fun _ _ _ _ _ _=>rfl
 have x2 : ∀ (i j k l o : Int) h,fIx (.tup [.int i,.int j,.int k,.int l,.int o]) (.int 2) h = .ok (.int k) h:=fun _ _ _ _ _ _=>rfl
 have x3 : ∀ (i j k l o : Int) h,fIx (.tup [.int i,.int j,.int k,.int l,.int o]) (.int 3) h = .ok (.int l) h:=fun _ _ _ _ _ _=>rfl
 have x4 : ∀ (i j k l o : Int) h,fIx (.tup [.int i,.int j,.int k,.int l,.int o]) (.int 4) h = .ok (.int o) h:=fun _ _ _ _ _ _=>rfl
 have ab : fAbs [.int (ma.ht - mb.ht)] h2 = .ok (.int (if ma.ht - mb.ht < 0 then -(ma.ht - mb.ht) else ma.ht - mb.ht)) h2:=rfl
 have abl : fLt (.int (if ma.ht - mb.ht < 0 then -(ma.ht - mb.ht) else ma.ht - mb.ht)) (.int 2) h2 = .ok (.bl true) h2:=by
  have : (if ma.ht - mb.ht < 0 then -(ma.ht - mb.ht) else ma.ht - mb.ht) < 2:=by split<;>lia
  simp only [fLt,this,decide_true]
 have gt : fGt (.int ((la.sg : Int) + fb.sg)) (.int 8) h2 = .ok (.bl true) h2:=by simp [c3]
 have mx : yce [.int ma.ht,.int mb.ht] h2 = .ok (.int (max ma.ht mb.ht)) h2:=by
  have : (if ma.ht < mb.ht then mb.ht else ma.ht) = max ma.ht mb.ht:=by split<;>lia
  simp [yce,this]
 unfold ybV at e1 e2
 unfold yaY ycR
 generalize yaY d = G at *
 simp [ni,S.ob,fp,i0F,eqF,eqFF,i1,i2,la0,la1,lb0,lb1,e1,e2,zfN,x0,x1,x2,x3,x4,ab,abl,gt,mx,eD2,sz,ybR,-fIn,-fEq,-fIx,-fLt,-fNe,-fAbs,-fGt,-yce]
end Sk
namespace Sk
open PySem PySem.Spec L2 Sm
theorem yeY {p : Nat} : ∀ (d : Nat) {h : AH} {ps : List Pc} {n D : Nat} {m f l : Ms} {x : Str} {kvs : List (AV × AV)},ShelfAt h p ps -> Good ps -> Tx ps n m x f l -> m.ht.toNat < d -> D < p \/ p + 8 < D -> h[D]? = some (.dct false kvs) -> KOk ps kvs -> kvs.length + wt ps n <= 100000 ->
  ∃ kvs',yaY d [.ref p,.int n,.ref D] h = .ok (ybV m f l) (h.set D (.dct false kvs')) /\ KOk ps kvs' /\ kvs'.length <= kvs.length + wt ps n
 | 0,h,ps,n,D,m,f,l,x,kvs,S,g,T,hd,hD,eD,K,hl=>absurd hd (Nat.not_lt_zero _)
 | d + 1,h,ps,n,D,m,f,l,x,kvs,S,g,T,hd,hD,eD,K,hl=>by
  have lv:=T.ky.lv
  have wn:=ycT T.ms
  cases e : valA kvs (.int n) with
  | some v =>
   obtain ⟨n',m',x',f',l',q1,T',rfl⟩:=K n v e
   have : n = n' := Int.ofNat.inj q1
   subst this
   have z1:=T.ms.symm.trans T'.ms; cases z1
   have z2:=T.ky.fl.symm.trans T'.ky.fl; cases z2
   have z3:=T.ky.ll.symm.trans T'.ky.ll; cases z3
   exact ⟨kvs,by rw [zib eD]; exact yhY eD e,K,by lia⟩
  | none =>
   have Dl:=ya3 eD
   by_cases q : 0 < m.ht
   ·obtain ⟨a,b,ma,mb,y,z,la,fb,ep,A,B,rfl,em,w1,w2,w3⟩:=g.cut T q
    have lm : m.lv = ma.lv + mb.lv:=by rw [em]; rfl
    have hm : m.ht = max ma.ht mb.ht + 1:=by rw [em]; rfl
    have sm : m.sg = ma.sg + mb.sg:=by rw [em]; rfl
    have a0:=A.ky.ht
    have b0:=B.ky.ht
    have wa:=ycT A.ms
    have wb:=ycT B.ms
    have l1:=A.ky.lv
    have l2:=B.ky.lv
    have an : a < n /\ b < n:=by
     rcases g.kind T with ⟨e1,e2,_⟩ | ⟨a',b',_,_,_,_,_,_,_,_,e1,e2,e3,_⟩
     ·lia
     ·have:=ep.symm.trans e1
      injection this with this
      injection this with t1 t2
      subst t1 t2
      exact ⟨e2,e3⟩
    obtain ⟨k1,r1,K1,c1⟩:=yeY d S g A (by lia) hD eD K (by lia)
    have S1 : ShelfAt (h.set D (.dct false k1)) p ps:=S.keep fun i i1 i2=>List.getElem?_set_ne (by lia)
    have eD1 : (h.set D (.dct false k1))[D]? = some (.dct false k1):=List.getElem?_set_self Dl
    obtain ⟨k2,r2,K2,c2⟩:=yeY d S1 g B (by lia) hD eD1 K1 (by lia)
    rw [List.set_set] at r2
    have eD2 : (h.set D (.dct false k2))[D]? = some (.dct false k2):=List.getElem?_set_self Dl
    have r3:=zjw S T.n1 ep A.n1 B.n1 an.1 an.2 eD e r1 r2 w1 w2 w3 eD2 (by lia)
    have lk : AV.tup [.int (1 + max ma.ht mb.ht),.int (ma.sg + mb.sg),.int f.sg,.int l.sg,.int (ma.lv + mb.lv)] = ybV m f l:=by
     unfold ybV
     rw [hm,sm,lm,Int.add_comm 1]; simp
    rw [lk,List.set_set] at r3
    cases e2 : valA k2 (.int n) with
    | some v =>
     refine ⟨putA k2 (.int n) (ybV m f l),r3,?_,?_⟩
     ·intro k w hw
      by_cases kn : k = n
      ·subst kn
       exact ⟨n,m,_,f,l,rfl,T,(by
        unfold valA putA at hw
        rw [za8,e2] at hw
        simp only [Option.isSome_some,if_true] at hw
        obtain ⟨pr,hp,hp2⟩:=Option.map_eq_some_iff.mp hw
        have hm:=List.mem_of_find?_eq_some hp
        have hk:=List.find?_some hp
        obtain ⟨o,ho,ho2⟩:=List.mem_map.mp hm
        simp only [decide_eq_true_eq] at hk
        by_cases c : o.1 = AV.int n
        ·rw [if_pos c] at ho2
         rw [<- hp2,<- ho2]
        ·rw [if_neg c] at ho2
         rw [ho2] at c
         exact absurd hk c)⟩
      ·refine K2 k w ?_
       have : ∀ kvs : List (AV × AV),valA (kvs.map fun p=>if p.1 = AV.int n then (p.1,ybV m f l) else p) (.int k) = valA kvs (.int k):=by
        intro kvs
        unfold valA
        induction kvs with
        | nil=>rfl
        | cons pr kvs ih =>
         rw [List.map_cons,List.find?_cons,List.find?_cons]
         by_cases c : pr.1 = AV.int n
         ·have c2 : ¬ pr.1 = AV.int k:=fun z=>kn (by rw [c] at z; injection z with z; exact z.symm)
          rw [if_pos c]
          simp only [c2,decide_false]
          exact ih
         ·rw [if_neg c]
          by_cases c2 : pr.1 = AV.int k
          ·simp [c2]
          ·simp only [c2,decide_false]; exact ih
       unfold putA at hw
       rw [za8,e2] at hw
       simp only [Option.isSome_some,if_true] at hw
       rw [this] at hw
       exact hw
     ·unfold putA
      rw [za8,e2]
      simp; lia
    | none =>
     obtain ⟨K3,c3⟩:=K2.put T e2
     exact ⟨_,r3,K3,by lia⟩
   ·rcases g.kind T with ⟨e1,e2,e3,e4,e5⟩ | ⟨_,_,mx,my,_,_,_,_,_,_,_,_,_,X,Y,_,e5,_⟩
    ·obtain ⟨z1,z2⟩:=zbp T e3
     have r:=zjv S T.n1 e1 e4 e5 eD e (by lia) (d:=d)
     have lk : AV.tup [.int 0,.int x.length,.int x.length,.int x.length,.int 1] = ybV m f l:=by
      unfold ybV
      rw [z1,z2,e3]; rfl
     rw [lk] at r
     obtain ⟨K3,c3⟩:=K.put T e
     exact ⟨_,r,K3,by lia⟩
    ·have:=congrArg Ms.ht e5
     rw [fmH] at this
     have:=X.ky.ht
     lia
theorem zjx {h : AH} {p : Nat} {ps : List Pc} {n : Nat} {y : Str} (S : ShelfAt h p ps) (g : Good ps) (t : TxZ ps n y) (hy : y.length <= 10000) : ∃ r : AH,ybP [.ref p,.int n] h = .ok (.bl true) (h++r):=by
 rcases t with ⟨rfl,rfl⟩ | ⟨m,f,l,T⟩
 ·exact ⟨[],by simp [ybP]⟩
 ·have pl:=ya3 S.h8
  have lv:=yfU T
  have sg:=T.ky.sg
  have wn:=ycT T.ms
  have hh : m.ht.toNat < 20:=by
   have h1:=T.ls g
   apply Classical.byContradiction
   intro q
   have:=zfK (show 20 <= m.ht.toNat by lia)
   have z : 10000 < ls 20:=by decide +kernel
   lia
  obtain ⟨k,e,_,_⟩:=yeY (p:=p) 20 (D:=h.length) (kvs:=[]) (S.app [.dct false []]) g T hh (by lia) (by simp) (fun _ _ z=>by simp [valA] at z) (by show 0 + _ <= _; lia)
  have st : (h++[AO.dct false []]).set h.length (.dct false k) = h++[.dct false k]:=by simp
  rw [st] at e
  have nz : fEq (.int n) (.int 0) h = .ok (.bl false) h:=by
   have:=T.n1
   have : ¬ n = 0:=by lia
   simp [this]
  refine ⟨[.dct false k],?_⟩
  unfold ybV at e
  unfold ybP
  generalize yaY 20 = G at *
  simp [nz,e,zfN,-fEq,-fNe]
end Sk
namespace Sk
open PySem PySem.Spec L2 Sm
theorem za2 {h : AH} {p : Nat} {ps : List Pc} {n : Nat} {y : Str} (S : ShelfAt h p ps) (t : TxZ ps n y) : yaz [.ref p,.int n] h = .ok (.int (htOf ps n)) h:=by
 obtain ⟨m,em,_⟩:=t.meas
 rw [zaf S em,ybB em]
theorem zaN {ps : List Pc} {n : Nat} {y : Str} (t : TxZ ps n y) : -1 <= htOf ps n:=by
 rcases t with ⟨rfl,rfl⟩ | ⟨m,f,l,T⟩
 ·rw [za9]; lia
 ·rw [ybB T.ms]; have:=T.ky.ht; lia
theorem TxZ.pos {ps : List Pc} {n : Nat} {y : Str} (t : TxZ ps n y) (hy : 1 <= y.length) : ∃ m f l,Tx ps n m y f l:=by
 rcases t with ⟨rfl,rfl⟩ | t
 ·exact absurd hy (by decide)
 ·exact t
end Sk
namespace Sk
open PySem PySem.Spec L2 Sm
theorem zjy {h : AH} {st : Nat} {n : Int} (m : Nat) (e : h[st]? = some (.lst [.int n])) (hm : 0 < m) (hm2 : m <= 10 ^ 50) : ∃ v : Nat,v < m /\ yax [.ref st,.int m] h = .ok (.int v) (h.set st (.lst [.int (n / m)])):=by
 have a0 : atI [AV.int n] 0 = some (.int n):=rfl
 have i0 : ixN 1 0 = some 0:=rfl
 have hm0 : (0 : Int) < m:=Int.ofNat_lt.mpr hm
 have hm3 : m < 1606938044258990275541962092341162602522202993782792835301376:=Nat.lt_of_le_of_lt hm2 (by decide)
 refine ⟨(n % m).toNat,?_,?_⟩
 ·have:=Int.emod_lt_of_pos n hm0; have:=Int.emod_nonneg n (show (m : Int) ≠ 0 by lia); lia
 ·rw [Int.toNat_of_nonneg (Int.emod_nonneg n (show (m : Int) ≠ 0 by lia))]
  simp [yax,e,a0,hm0,hm,hm3,i0]
theorem zic (c k : Int) (h : AH) : ∃ m,ycF [.int c,.int k] h = .ok (.int m) h:=by
 have b1 : 0 <= (c % 1000000007 + 7919 * k + 101) * 48271 % 2147483647:=Int.emod_nonneg _ (by decide)
 have b2 : (c % 1000000007 + 7919 * k + 101) * 48271 % 2147483647 < 2147483647:=Int.emod_lt_of_pos _ (by decide)
 refine ⟨(c % 1000000007 + 7919 * k + 101) * 48271 % 2147483647 * ((c % 1000000007 + 7919 * k + 101) * 48271 % 2147483647) % 2147483629 * 69621 % 2147483647,?_⟩
 generalize he : (c % 1000000007 + 7919 * k + 101) * 48271 % 2147483647 = v at *
 have c1 : v.natAbs < 18446744073709551616:=by lia
 simp [ycF,he,c1]
theorem yhZ (c k : Int) (h : AH) : ∃ n,ybX [.int c,.int k] h = .ok (.ref h.length) (h++[.lst [.int n]]):=by
 obtain ⟨d,ed⟩ : ∃ d,d = c % 1000000000000000000000000000000000000000000000000000000000000000000000000000000000000000000000000000000000000000000000000:=⟨_,rfl⟩
 by_cases hc : (1000000000000000000 : Int) <= d
 ·exact ⟨d,by rw [ed] at hc ⊢; simp [ybX,hc]⟩
 ·obtain ⟨e',h',r1,r2⟩:=yeJ (w:=none) (all:=ya8 0 12) (t:=.nm 3) (b:=ybO) (xs:=ya8 0 12) (en:=[some (.int d),some (.int k),some (.int 0),none]) (h:=h)
   (fun _ en h' => h' = h /\ ∃ f o,en = [some (.int d),some (.int k),some (.int f),o]) ⟨rfl,0,none,rfl⟩ (fun _ _ _ _=>rfl) (by
    rintro j x en h' hx ⟨rfl,f,o,rfl⟩
    rw [zdL] at hx
    split at hx
    ·cases hx
     obtain ⟨m,hm⟩:=zic (d + 1009 * k) (0 + (j : Int)) h'
     have e : ybO [some (.int d),some (.int k),some (.int f),some (.int (0 + (j : Int)))] h' = .nx [some (.int d),some (.int k),some (.int (f * 2147483647 + m)),some (.int (0 + (j : Int)))] h' := by
      generalize (0 + (j : Int)) = jj at hm ⊢
      simp [ybO,hm]
     show thn (ybO [some (.int d),some (.int k),some (.int f),some (.int (0 + (j : Int)))] h') _
     rw [e]
     exact ⟨rfl,_,_,rfl⟩
    ·cases hx)
  obtain ⟨rfl,f,o,rfl⟩:=r2
  have f1:=(yen (t:=.nm 3) (b:=ybO) (zdM (a:=sLit (.int 12)) (en:=[some (.int d),some (.int k),some (.int 0),none]) (h:=h') (n:=12) rfl (by decide))).trans r1
  refine ⟨f,?_⟩
  subst ed
  simp [ybX,hc,f1,-sFor]
def yd3 : Str := "abcdefghijklmnopqrstuvwxyzABCDEFGHIJKLMNOPQRSTUVWXYZ0123456789 !#$&'()*+,-./:;<=>?\x40[]^_{|}~"
def sg6 : List Str:=["ab", "ab" ++ "\n",(((yd3 ++ "\n") ++ "\\") ++ "\"") ++ "`", "a"]
theorem yg4 : ∀ x ∈ sg6,yaD x = true /\ 1 <= x.length /\ x.length <= 200:=by decide +kernel
theorem zid (v : Nat) (hv : v < 4) (h : AH) : ∃ x : Str,(yaD x = true /\ 1 <= x.length /\ x.length <= 200) /\ ycG [.int v] h = .ok (.str x) h:=by
 have l1 : (Str.length "ab") + (Str.length "\n") <= sizeLine:=by decide +kernel
 have l2 : (Str.length yd3) + (Str.length "\n") <= sizeLine:=by decide +kernel
 have l3 : (yd3++(Str.ofString "\n")).length + (Str.length "\\") <= sizeLine:=by decide +kernel
 have l4 : ((yd3++(Str.ofString "\n"))++(Str.ofString "\\")).length + (Str.length "\"") <= sizeLine:=by decide +kernel
 have l5 : (((yd3++(Str.ofString "\n"))++(Str.ofString "\\"))++(Str.ofString "\"")).length + (Str.length "`") <= sizeLine:=by decide +kernel
 have em : Str.ofString "abcdefghijklmnopqrstuvwxyzABCDEFGHIJKLMNOPQRSTUVWXYZ0123456789 !#$&'()*+,-./:;<=>?\x40[]^_{|}~" = yd3:=rfl
 have : v = 0 \/ v = 1 \/ v = 2 \/ v = 3:=by lia
 refine ⟨sg6.getD v "",yg4 _ ?_,?_⟩
 ·rcases this with rfl | rfl | rfl | rfl<;>simp [sg6]
 ·rcases this with rfl | rfl | rfl | rfl<;>simp [ycG,em,l1,l2,l3,l4,l5]<;>rfl
theorem zie {x : Str} {v : Nat} (hv : v < x.length) (hx : yaD x = true) (h : AH) : ∃ c,ydu c = true /\ fIx (.str x) (.int v) h = .ok (.str ⟨#[c]⟩) h:=by
 have hv' : v < x.cps.toList.length:=by rw [<- zag]; exact hv
 refine ⟨x.cps.toList[v],List.all_eq_true.mp hx _ (List.getElem_mem hv'),?_⟩
 have e : x.cps.toList[v]? = some x.cps.toList[v]:=List.getElem?_eq_getElem hv'
 simp only [fIx,zc6 e]
theorem zbq {hh : AH} {L : Nat} {N : Int} (m : Nat) (e : hh[L]? = some (.lst [.int N])) (hm : 0 < m) (hm2 : m <= 10 ^ 50) : ∃ (v : Nat) (N' : Int),v < m /\ yax [.ref L,.int m] hh = .ok (.int v) (hh.set L (.lst [.int N'])):=by
 obtain ⟨v,hv,e1⟩:=zjy m e hm hm2
 exact ⟨v,N / m,hv,e1⟩
theorem zgj {y : Str} {c : Nat} (hy : yaD y = true) (hc : ydu c = true) : yaD (y++⟨#[c]⟩) = true /\ (y++(⟨#[c]⟩ : Str)).length = y.length + 1:=by
 refine ⟨?_,by rw [zai]; rfl⟩
 rw [zaJ,hy]
 simp [yaD,hc]
theorem zgk {hh : AH} {L : Nat} {N : Int} (most : Nat) (hm : most <= 1000) (e : hh[L]? = some (.lst [.int N])) : ∃ (y : Str) (N' : Int),yca [.ref L,.int most] hh = .ok (.str y) (hh.set L (.lst [.int N'])) /\ yaD y = true /\ y.length <= most:=by
 have Ll:=ya3 e
 obtain ⟨v,N1,hv,t1⟩:=zbq 4 e (by decide) (by decide)
 have t1' : yax [.ref L,.int 4] hh = .ok (.int v) (hh.set L (.lst [.int N1])):=t1
 obtain ⟨z,⟨pz,z1,z2⟩,ez⟩:=zid v hv (hh.set L (.lst [.int N1]))
 have e1 : (hh.set L (.lst [.int N1]))[L]? = some (.lst [.int N1]):=List.getElem?_set_self Ll
 obtain ⟨k,N2,hk,t2⟩:=zbq (most + 1) e1 (Nat.succ_pos _) (Nat.le_trans (Nat.succ_le_succ hm) (by decide))
 rw [List.set_set] at t2
 have t2' : yax [.ref L,.int ((most : Int) + 1)] (hh.set L (.lst [.int N1])) = .ok (.int k) (hh.set L (.lst [.int N2])):=by
  have:=t2; rw [Int.natCast_succ] at this; exact this
 obtain ⟨e',h',r1,y,N3,o4,r2,r3,r4,r5⟩:=yeJ (w:=none) (all:=ya8 0 k) (t:=.nm 4) (b:=ybn) (xs:=ya8 0 k) (en:=[some (.ref L),some (.int most),some (.str z),some (.str ""),none]) (h:=hh.set L (.lst [.int N2]))
  (fun j en h' => ∃ (y : Str) (N' : Int) (o4 : Option AV),en = [some (.ref L),some (.int most),some (.str z),some (.str y),o4] /\ h' = hh.set L (.lst [.int N']) /\ yaD y = true /\ y.length = j) ⟨"",N2,none,rfl,rfl,rfl,rfl⟩ (fun _ _ _ _=>rfl) (by
   rintro j u en h' hu ⟨y,N',o4,rfl,rfl,py,ly⟩
   have jk : j < k:=by have:=(List.getElem?_eq_some_iff.mp hu).1; rwa [zbw] at this
   have e3 : (hh.set L (.lst [.int N']))[L]? = some (.lst [.int N']):=List.getElem?_set_self Ll
   obtain ⟨t,N4,ht,et⟩:=zbq z.length e3 (by lia) (Nat.le_trans z2 (by decide))
   rw [List.set_set] at et
   obtain ⟨c,pc,ec⟩:=zie ht pz (hh.set L (.lst [.int N4]))
   have ad : fAdd (.str y) (.str ⟨#[c]⟩) (hh.set L (.lst [.int N4])) = .ok (.str (y++⟨#[c]⟩)) (hh.set L (.lst [.int N4])):=by
    have : y.length + (⟨#[c]⟩ : Str).length <= sizeLine:=Nat.le_trans (m:=1001) (by show y.length + 1 <= _; lia) (by decide)
    simp only [fAdd,this,if_true]
   have es : ybn [some (.ref L),some (.int most),some (.str z),some (.str y),some u] (hh.set L (.lst [.int N'])) = .nx [some (.ref L),some (.int most),some (.str z),some (.str (y++⟨#[c]⟩)),some u] (hh.set L (.lst [.int N4])):=by
    generalize hh.set L (.lst [.int N4]) = h2 at *
    generalize hh.set L (.lst [.int N']) = h1 at *
    simp [ybn,et,ec,ad,-fIx,-fAdd]
   show thn (ybn [some (.ref L),some (.int most),some (.str z),some (.str y),some u] (hh.set L (.lst [.int N']))) _
   rw [es]
   obtain ⟨q1,q2⟩:=zgj py pc
   exact ⟨_,N4,_,rfl,rfl,q1,by rw [q2,ly]⟩)
 rw [zbw] at r5
 have f1:=(yen (t:=.nm 4) (b:=ybn) (zdM (a:=yaf yax (sCons (sVar 0) (sCons (sOp2 fAdd (sVar 1) (sLit (.int 1))) sNil))) (en:=[some (.ref L),some (.int most),some (.str z),some (.str ""),none]) (h:=hh.set L (.lst [.int N1])) (n:=k) (by simp [t2']) (by lia))).trans r1
 refine ⟨y,N3,?_,r4,by lia⟩
 rw [<- r3]
 subst r2
 unfold yca
 generalize sFor (ycy (yaf yax (sCons (sVar 0) (sCons (sOp2 fAdd (sVar 1) (sLit (.int 1))) sNil)))) (.nm 4) ybn = F1 at *
 generalize hh.set L (.lst [.int N1]) = h1 at *
 simp [t1',ez,f1]
end Sk
namespace Sk
open PySem PySem.Spec L2 Sm
theorem zbV {h : AH} {p : Nat} {ps : List Pc} {a b : Nat} {x y : Str} (S : ShelfAt h p ps) (g : Good ps) (A : TxZ ps a x) (B : TxZ ps b y) (hm : x.length + y.length <= 1000000000000000000) (hz : ps.length < 15000000) :
  ∃ (n : Nat) (ps' : List Pc) (h' : AH),Dn (yaq [.ref p,.int a,.int b]) p h h' ps ps' (16 * (max (htOf ps a) (htOf ps b) + 1).toNat) n /\ TxZ ps' n (x++y) /\ htOf ps' n <= max (htOf ps a) (htOf ps b) + 1:=by
 rcases A with ⟨rfl,rfl⟩ | ⟨ma,fa,la,A⟩
 ·obtain ⟨mb,eb,sb⟩:=B.meas
  have em : ("" : Str)++y = y:=zad (by rw [zah]; rfl)
  have dv : Dn (yaq [.ref p,.int (0 : Nat),.int b]) p h h ps ps 0 b:=Dn.val S g fun hh pp S' _ pr=>jn_0 S' (zac pr eb) (by rw [sb]; lia)
  exact ⟨b,ps,h,dv.as S g (fun _ _ _ _ _=>rfl) (Nat.zero_le _),by rw [em]; exact B,by lia⟩
 ·rcases B with ⟨rfl,rfl⟩ | ⟨mb,fb,lb,B⟩
  ·have em : x++("" : Str) = x:=zad (by rw [zah]; simp; rfl)
   have dv : Dn (yaq [.ref p,.int a,.int (0 : Nat)]) p h h ps ps 0 a:=Dn.val S g fun hh pp S' _ pr=>jn_1 S' A.n1 (zac pr A.ms) A.ky.most
   exact ⟨a,ps,h,dv.as S g (fun _ _ _ _ _=>rfl) (Nat.zero_le _),by rw [em]; exact .inr ⟨_,_,_,A⟩,by lia⟩
  ·have sa:=A.ky.sg
   have sb:=B.ky.sg
   have a0:=A.ky.ht
   have b0:=B.ky.ht
   have ha:=ht82 g A
   have hb:=ht82 g B
   rw [ybB A.ms,ybB B.ms]
   by_cases q : 8 < la.sg + fb.sg
   ·obtain ⟨n,ps',h',m,d,T,_,hu⟩:=zaQ 90 (max ma.ht mb.ht).toNat S g A B q (by lia) (by lia) (by lia) (by lia)
    exact ⟨n,ps',h',d.as S g (fun hh pp S' _ pr=>by rw [jn_2 S' A.n1 B.n1 (zac pr A.ms) (zac pr B.ms) (zac pr A.ky.ll) (zac pr B.ky.fl) (by lia),if_pos q]) (by lia),.inr ⟨_,_,_,T⟩,by rw [ybB T.ms]; exact hu⟩
   ·obtain ⟨n,ps',h',m,f,l,d,T,hu⟩:=zev S g A B q (by lia) hz
    exact ⟨n,ps',h',d.as S g (fun hh pp S' _ pr=>by rw [jn_2 S' A.n1 B.n1 (zac pr A.ms) (zac pr B.ms) (zac pr A.ky.ll) (zac pr B.ky.fl) (by lia),if_neg q]) (by lia),.inr ⟨_,_,_,T⟩,by rw [ybB T.ms]; exact hu⟩
def tkS (x : Str) (a : Nat) : Str:=⟨(x.cps.toList.take a).toArray⟩
def dpS (x : Str) (a : Nat) : Str:=⟨(x.cps.toList.drop a).toArray⟩
theorem ycr (x : Str) (a : Nat) : (tkS x a).cps.toList = x.cps.toList.take a:=rfl
theorem ycs (x : Str) (a : Nat) : (dpS x a).cps.toList = x.cps.toList.drop a:=rfl
theorem yc1 {x : Str} {a : Nat} (h : a <= x.length) : (tkS x a).length = a:=by
 rw [zag] at *
 rw [ycr,List.length_take]; lia
theorem ydv (x : Str) (a : Nat) : (dpS x a).length = x.length - a:=by
 rw [zag,zag x,ycs,List.length_drop]
theorem tk_0 (x : Str) : tkS x 0 = "" := zad rfl
theorem dp_0 (x : Str) : dpS x 0 = x:=zad rfl
theorem yg5 {x : Str} {a : Nat} (h : x.length <= a) : tkS x a = x:=zad (by rw [ycr,List.take_of_length_le (by rw [<- zag]; exact h)])
theorem yg6 {x : Str} {a : Nat} (h : x.length <= a) : dpS x a = "" := zad (by rw [ycs,List.drop_of_length_le (by rw [<- zag]; exact h)]; rfl)
theorem tk_l {x y : Str} {a : Nat} (h : a <= x.length) : tkS (x++y) a = tkS x a:=zad (by rw [ycr,zah,ycr,List.take_append_of_le_length (by rw [<- zag]; exact h)])
theorem tk_r {x y : Str} {a : Nat} (h : x.length <= a) : tkS (x++y) a = x++tkS y (a - x.length):=zad (by
 rw [ycr,zah,zah,ycr,List.take_append,List.take_of_length_le (by rw [<- zag]; exact h),<- zag])
theorem dp_l {x y : Str} {a : Nat} (h : a <= x.length) : dpS (x++y) a = dpS x a++y:=zad (by rw [ycs,zah,zah,ycs,List.drop_append_of_le_length (by rw [<- zag]; exact h)])
theorem dp_r {x y : Str} {a : Nat} (h : x.length <= a) : dpS (x++y) a = dpS y (a - x.length):=zad (by
 rw [ycs,zah,ycs,List.drop_append,List.drop_of_length_le (by rw [<- zag]; exact h),<- zag]; rfl)
theorem zif {x : Str} (h : yaD x = true) (a : Nat) : yaD (tkS x a) = true:=by
 unfold yaD at *
 rw [ycr,List.all_eq_true]
 rw [List.all_eq_true] at h
 exact fun c hc=>h c (List.mem_of_mem_take hc)
theorem zig {x : Str} (h : yaD x = true) (a : Nat) : yaD (dpS x a) = true:=by
 unfold yaD at *
 rw [ycs,List.all_eq_true]
 rw [List.all_eq_true] at h
 exact fun c hc=>h c (List.mem_of_mem_drop hc)
theorem yer {x : Str} {a : Nat} (h : AH) : ybb (.str x) none (some (a : Int)) h = .ok (.str (tkS x a)) h:=by
 have : cutS x none (some (a : Int)) = tkS x a:=zad (by
  unfold cutS
  rw [HT.sIx_nat,HT.sIx_none,ycr]
  show (x.cps.toList.drop 0).take (min a x.cps.toList.length - 0) = _
  rw [List.drop_zero,Nat.sub_zero]
  by_cases q : a <= x.cps.toList.length
  ·rw [Nat.min_eq_left q]
  ·rw [Nat.min_eq_right (by lia),List.take_length,List.take_of_length_le (by lia)])
 simp only [ybb,this]
theorem yes {x : Str} {a : Nat} (ha : a <= x.length) (h : AH) : ybb (.str x) (some (a : Int)) none h = .ok (.str (dpS x a)) h:=by
 have : cutS x (some (a : Int)) none = dpS x a:=zad (by
  unfold cutS
  rw [HT.sIx_nat,HT.sIx_none,ycs]
  rw [zag] at ha
  rw [Nat.min_eq_left ha]
  show (x.cps.toList.drop a).take (x.cps.toList.length - a) = _
  rw [List.take_of_length_le (by rw [List.length_drop]; exact Nat.le_refl _)])
 simp only [ybb,this]
def cst (z : Int) : Nat:=8 * ((z + 1).toNat * (z + 2).toNat)
end Sk
namespace Sk
open PySem PySem.Spec L2 Sm
theorem fr_0 {h : AH} {p d n : Nat} : yat (d + 1) [.ref p,.int n,.int (0 : Nat)] h = .ok (.int (0 : Nat)) h:=by
 have z : fEq (.int 0) (.int 0) h = .ok (.bl true) h:=by simp
 simp [yat,ybJ,z,-fEq]
theorem yg7 {h : AH} {p d n a : Nat} {ps : List Pc} {m : Ms} (S : ShelfAt h p ps) (em : (meas ps)[n]? = some m) (a0 : ¬ a = 0) (ea : a = m.sg) : yat (d + 1) [.ref p,.int n,.int a] h = .ok (.int n) h:=by
 have z : fEq (.int a) (.int 0) h = .ok (.bl false) h:=by simp [a0]
 have fs:=zam S em
 rw [<- ea] at fs
 have z2 : fEq (.int a) (.int a) h = .ok (.bl true) h:=by simp
 simp [yat,ybJ,z,S.ob,fs,z2,-fEq]
theorem zjz {h : AH} {p d n a : Nat} {ps : List Pc} {m : Ms} {x : Str} (S : ShelfAt h p ps) (n1 : 1 <= n) (em : (meas ps)[n]? = some m) (ep : ps[n - 1]? = some (.leaf x)) (a0 : ¬ a = 0) (ea : ¬ a = m.sg) : yat (d + 1) [.ref p,.int n,.int a] h = yav [.ref p,.str (tkS x a)] h:=by
 have z : fEq (.int a) (.int 0) h = .ok (.bl false) h:=by simp [a0]
 have fs:=zam S em
 have z2 : fEq (.int a) (.int m.sg) h = .ok (.bl false) h:=by
  have : ¬ (a : Int) = m.sg:=by lia
  simp [this]
 have ct:=yer (x:=x) (a:=a) h
 generalize hF : yav [.ref p,.str (tkS x a)] h = R
 simp [yat,ybJ,z,S.ob,fs,z2,zaR S n1 ep,i0L,eqL,i1L,ct,hF,-fEq,-fIx,-ybb]
 cases R<;>first | rfl | simp
theorem fr_l {h : AH} {p d n a c e : Nat} {ps : List Pc} {m mc : Ms} (S : ShelfAt h p ps) (n1 : 1 <= n) (em : (meas ps)[n]? = some m) (ec : (meas ps)[c]? = some mc) (ep : ps[n - 1]? = some (.fork c e)) (a0 : ¬ a = 0) (ea : ¬ a = m.sg) (hl : a <= mc.sg) : yat (d + 1) [.ref p,.int n,.int a] h = yat d [.ref p,.int c,.int a] h:=by
 have z : fEq (.int a) (.int 0) h = .ok (.bl false) h:=by simp [a0]
 have fs:=zam S em
 have fc:=zam S ec
 have z2 : fEq (.int a) (.int m.sg) h = .ok (.bl false) h:=by
  have : ¬ (a : Int) = m.sg:=by lia
  simp [this]
 have le : fLe (.int a) (.int mc.sg) h = .ok (.bl true) h:=by simp [hl]
 show ybJ (yat d) [.ref p,.int n,.int a] h = yat d [.ref p,.int c,.int a] h
 generalize yat d = G at *
 unfold ybJ
 generalize hF : G [.ref p,.int c,.int a] h = R
 simp [z,S.ob,fs,fc,z2,zax S n1 ep,i0F,eqF,i1,le,hF,-fEq,-fIx,-fLe]
 cases R<;>first | rfl | simp
theorem fr_r {h h1 : AH} {p d n a c e : Nat} {v : Int} {ps : List Pc} {m mc : Ms} (S : ShelfAt h p ps) (n1 : 1 <= n) (em : (meas ps)[n]? = some m) (ec : (meas ps)[c]? = some mc) (ep : ps[n - 1]? = some (.fork c e)) (a0 : ¬ a = 0) (ea : ¬ a = m.sg) (hl : ¬ a <= mc.sg) (ev : yat d [.ref p,.int e,.int (a - mc.sg : Nat)] h = .ok (.int v) h1) :
  yat (d + 1) [.ref p,.int n,.int a] h = yaq [.ref p,.int c,.int v] h1:=by
 have z : fEq (.int a) (.int 0) h = .ok (.bl false) h:=by simp [a0]
 have fs:=zam S em
 have fc:=zam S ec
 have z2 : fEq (.int a) (.int m.sg) h = .ok (.bl false) h:=by
  have : ¬ (a : Int) = m.sg:=by lia
  simp [this]
 have le : fLe (.int a) (.int mc.sg) h = .ok (.bl false) h:=by
  simp; lia
 have sb : fSub (.int a) (.int mc.sg) h = .ok (.int (a - mc.sg : Nat)) h:=by
  have : (a : Int) - mc.sg = ((a - mc.sg : Nat) : Int):=by lia
  rw [<- this]; rfl
 unfold yat ybJ
 generalize yat d = G at *
 generalize ((a - mc.sg : Nat) : Int) = AM at *
 generalize hF : yaq [.ref p,.int c,.int v] h1 = R
 simp [z,S.ob,fs,fc,z2,zax S n1 ep,i0F,eqF,i1,i2,le,sb,ev,hF,-fEq,-fIx,-fLe,-fSub]
 cases R<;>first | rfl | simp
theorem bk_0 {h : AH} {p d n : Nat} : yau (d + 1) [.ref p,.int n,.int (0 : Nat)] h = .ok (.int n) h:=by
 have z : fEq (.int 0) (.int 0) h = .ok (.bl true) h:=by simp
 simp [yau,ybZ,z,-fEq]
theorem yg8 {h : AH} {p d n a : Nat} {ps : List Pc} {m : Ms} (S : ShelfAt h p ps) (em : (meas ps)[n]? = some m) (a0 : ¬ a = 0) (ea : a = m.sg) : yau (d + 1) [.ref p,.int n,.int a] h = .ok (.int (0 : Nat)) h:=by
 have z : fEq (.int a) (.int 0) h = .ok (.bl false) h:=by simp [a0]
 have fs:=zam S em
 rw [<- ea] at fs
 have z2 : fEq (.int a) (.int a) h = .ok (.bl true) h:=by simp
 simp [yau,ybZ,z,S.ob,fs,z2,-fEq]
theorem zjA {h : AH} {p d n a : Nat} {ps : List Pc} {m : Ms} {x : Str} (S : ShelfAt h p ps) (n1 : 1 <= n) (em : (meas ps)[n]? = some m) (ep : ps[n - 1]? = some (.leaf x)) (ax : a <= x.length) (a0 : ¬ a = 0) (ea : ¬ a = m.sg) : yau (d + 1) [.ref p,.int n,.int a] h = yav [.ref p,.str (dpS x a)] h:=by
 have z : fEq (.int a) (.int 0) h = .ok (.bl false) h:=by simp [a0]
 have fs:=zam S em
 have z2 : fEq (.int a) (.int m.sg) h = .ok (.bl false) h:=by
  have : ¬ (a : Int) = m.sg:=by lia
  simp [this]
 have ct:=yes (x:=x) ax h
 generalize hF : yav [.ref p,.str (dpS x a)] h = R
 simp [yau,ybZ,z,S.ob,fs,z2,zaR S n1 ep,i0L,eqL,i1L,ct,hF,-fEq,-fIx,-ybb]
 cases R<;>first | rfl | simp
theorem bk_r {h : AH} {p d n a c e : Nat} {ps : List Pc} {m mc : Ms} (S : ShelfAt h p ps) (n1 : 1 <= n) (em : (meas ps)[n]? = some m) (ec : (meas ps)[c]? = some mc) (ep : ps[n - 1]? = some (.fork c e)) (a0 : ¬ a = 0) (ea : ¬ a = m.sg) (hl : mc.sg <= a) : yau (d + 1) [.ref p,.int n,.int a] h = yau d [.ref p,.int e,.int (a - mc.sg : Nat)] h:=by
 have z : fEq (.int a) (.int 0) h = .ok (.bl false) h:=by simp [a0]
 have fs:=zam S em
 have fc:=zam S ec
 have z2 : fEq (.int a) (.int m.sg) h = .ok (.bl false) h:=by
  have : ¬ (a : Int) = m.sg:=by lia
  simp [this]
 have le : fGe (.int a) (.int mc.sg) h = .ok (.bl true) h:=by simp [hl]
 have sb : fSub (.int a) (.int mc.sg) h = .ok (.int (a - mc.sg : Nat)) h:=by
  have : (a : Int) - mc.sg = ((a - mc.sg : Nat) : Int):=by lia
  rw [<- this]; rfl
 show ybZ (yau d) [.ref p,.int n,.int a] h = yau d [.ref p,.int e,.int (a - mc.sg : Nat)] h
 generalize yau d = G at *
 unfold ybZ
 generalize ((a - mc.sg : Nat) : Int) = AM at *
 generalize hF : G [.ref p,.int e,.int AM] h = R
 simp [z,S.ob,fs,fc,z2,zax S n1 ep,i0F,eqF,i1,i2,le,sb,hF,-fEq,-fIx,-fGe,-fSub]
 cases R<;>first | rfl | simp
theorem bk_l {h h1 : AH} {p d n a c e : Nat} {v : Int} {ps : List Pc} {m mc : Ms} (S : ShelfAt h p ps) (n1 : 1 <= n) (em : (meas ps)[n]? = some m) (ec : (meas ps)[c]? = some mc) (ep : ps[n - 1]? = some (.fork c e)) (a0 : ¬ a = 0) (ea : ¬ a = m.sg) (hl : ¬ mc.sg <= a) (ev : yau d [.ref p,.int c,.int a] h = .ok (.int v) h1) :
  yau (d + 1) [.ref p,.int n,.int a] h = yaq [.ref p,.int v,.int e] h1:=by
 have z : fEq (.int a) (.int 0) h = .ok (.bl false) h:=by simp [a0]
 have fs:=zam S em
 have fc:=zam S ec
 have z2 : fEq (.int a) (.int m.sg) h = .ok (.bl false) h:=by
  have : ¬ (a : Int) = m.sg:=by lia
  simp [this]
 have le : fGe (.int a) (.int mc.sg) h = .ok (.bl false) h:=by
  simp; lia
 unfold yau ybZ
 generalize yau d = G at *
 generalize hF : yaq [.ref p,.int v,.int e] h1 = R
 simp [z,S.ob,fs,fc,z2,zax S n1 ep,i0F,eqF,i1,i2,le,ev,hF,-fEq,-fIx,-fGe]
 cases R<;>first | rfl | simp
end Sk
namespace Sk
open PySem PySem.Spec L2 Sm
theorem zb8 (z : Str) (n : Nat) : (repS z n).cps.toList = (List.replicate n z.cps.toList).flatten:=rfl
theorem zb9 (z : Str) (a b : Nat) : repS z a++repS z b = repS z (a + b):=zad (by rw [zah,zb8,zb8,zb8,<- List.flatten_append,List.replicate_append_replicate])
theorem zdl (z : Str) : repS z 1 = z:=zad (by rw [zb8]; simp)
theorem zcH (z : Str) : repS z 0 = "" := zad rfl
theorem zdm (z : Str) : ∀ n,(repS z n).length = z.length * n
 | 0=>by rw [zcH]; rfl
 | n + 1=>by rw [<- zb9,zai,zdm z n,zdl,Nat.mul_succ]
theorem zfO : ∀ n,repS "" n = ""
 | 0=>zcH _
 | n + 1=>by
  rw [<- zb9,zfO n,zdl]
  exact zad (by rw [zah]; rfl)
theorem db_0 {h : AH} {p n d : Nat} : yaW (d + 1) [.ref p,.int n,.int (0 : Nat)] h = .ok (.int (0 : Nat)) h:=by
 have z : fEq (.int 0) (.int 0) h = .ok (.bl true) h:=by simp
 simp [yaW,yc9,z,-fEq]
theorem db_1 {h h1 : AH} {p n d k : Nat} {a : Int} (hk : ¬ k = 0) (hp : k % 2 = 0) (e1 : yaW d [.ref p,.int n,.int (k / 2 : Nat)] h = .ok (.int a) h1) : yaW (d + 1) [.ref p,.int n,.int k] h = yaq [.ref p,.int a,.int a] h1:=by
 have z : fEq (.int k) (.int 0) h = .ok (.bl false) h:=by simp [hk]
 have dv : fDiv (.int k) (.int 2) h = .ok (.int (k / 2 : Nat)) h:=rfl
 have md : ∀ h,fMod (.int k) (.int 2) h = .ok (.int 0) h:=fun h=>by
  have : (k : Int) % 2 = 0:=by lia
  show Out.ok (AV.int ((k : Int) % 2)) h = _
  rw [this]
 have z2 : ∀ h,fEq (.int 0) (.int 0) h = .ok (.bl true) h:=fun h=>by simp
 unfold yaW yc9
 generalize hF : yaq [.ref p,.int a,.int a] h1 = R
 generalize ((k / 2 : Nat) : Int) = K2 at *
 generalize yaW d = G at *
 simp [z,dv,e1,hF,-fEq,-fDiv,-fMod]
 cases R with
 | ok v h2=>simp [md,z2,-fEq,-fMod]
 | ex c h2=>rfl
 | bad=>rfl
theorem db_2 {h h1 : AH} {p n d k : Nat} {a : Int} (hk : ¬ k = 0) (hp : ¬ k % 2 = 0) (e1 : yaW d [.ref p,.int n,.int (k / 2 : Nat)] h = .ok (.int a) h1) : yaW (d + 1) [.ref p,.int n,.int k] h = (yaq [.ref p,.int a,.int a] h1).bind fun v h2=>yaq [.ref p,v,.int n] h2:=by
 have z : fEq (.int k) (.int 0) h = .ok (.bl false) h:=by simp [hk]
 have dv : fDiv (.int k) (.int 2) h = .ok (.int (k / 2 : Nat)) h:=rfl
 have md : ∀ h,fMod (.int k) (.int 2) h = .ok (.int 1) h:=fun h=>by
  have : (k : Int) % 2 = 1:=by lia
  show Out.ok (AV.int ((k : Int) % 2)) h = _
  rw [this]
 have z2 : ∀ h,fEq (.int 1) (.int 0) h = .ok (.bl false) h:=fun h=>by simp
 unfold yaW yc9
 generalize hF : yaq [.ref p,.int a,.int a] h1 = R
 generalize ((k / 2 : Nat) : Int) = K2 at *
 generalize yaW d = G at *
 simp [z,dv,e1,hF,-fEq,-fDiv,-fMod]
 cases R with
 | ok v h2 =>
  simp [md,z2,-fEq,-fMod]
  cases yaq [.ref p,v,.int n] h2<;>rfl
 | ex c h2=>rfl
 | bad=>rfl
theorem zeA {ps : List Pc} (g : Good ps) {a b : Nat} {x y : Str} (A : TxZ ps a x) (B : TxZ ps b y) : 16 * (max (htOf ps a) (htOf ps b) + 1).toNat <= 1400:=by
 have key : ∀ {n : Nat} {y : Str},TxZ ps n y -> htOf ps n <= 82:=fun {n y} t=>by
  rcases t with ⟨rfl,rfl⟩ | ⟨m,f,l,T⟩
  ·rw [za9]; lia
  ·rw [ybB T.ms]; exact ht82 g T
 have:=key A
 have:=key B
 lia
theorem zdQ {p : Nat} : ∀ (d e : Nat) {h : AH} {ps : List Pc} {n k : Nat} {x : Str},ShelfAt h p ps -> Good ps -> TxZ ps n x -> k < 2 ^ e -> e < d -> x.length * k <= 1000000000000000000 -> ps.length + 2800 * e < 15000000 ->
  ∃ (m : Nat) (ps' : List Pc) (h' : AH),Dn (yaW d [.ref p,.int n,.int k]) p h h' ps ps' (2800 * e) m /\ TxZ ps' m (repS x k)
 | 0,e,h,ps,n,k,x,S,g,T,hk,hd,hm,hz=>absurd hd (Nat.not_lt_zero _)
 | d + 1,e,h,ps,n,k,x,S,g,T,hk,hd,hm,hz=>by
  by_cases k0 : k = 0
  ·subst k0
   have dv : Dn (yaW (d + 1) [.ref p,.int n,.int (0 : Nat)]) p h h ps ps 0 0:=Dn.val S g fun hh pp S' _ pr=>db_0
   exact ⟨0,ps,h,dv.as S g (fun _ _ _ _ _=>rfl) (Nat.zero_le _),.inl ⟨rfl,zcH x⟩⟩
  ·obtain ⟨e',rfl⟩ : ∃ e',e = e' + 1:=by
    cases e with
    | zero=>simp at hk; lia
    | succ e' => exact ⟨e',rfl⟩
   rw [Nat.pow_succ] at hk
   have kk : x.length * (k / 2) + x.length * (k / 2) + x.length * (k % 2) = x.length * k:=by
    rw [<- Nat.mul_add,<- Nat.mul_add]
    congr 1
    lia
   obtain ⟨a,ps1,h1,d1,T1⟩:=zdQ d e' (k:=k / 2) S g T (by lia) (by lia) (by lia) (by lia)
   have z1:=d1.dd.len
   have l1:=zdm x (k / 2)
   obtain ⟨b,ps2,h2,d2,T2⟩:=zcD d1.dd.sh d1.dd.gd T1 T1 (by lia) (by lia)
   have w2:=zeA d1.dd.gd T1 T1
   have z2:=d2.dd.len
   rw [zb9] at T2
   by_cases hp : k % 2 = 0
   ·have ek : k / 2 + k / 2 = k:=by lia
    rw [ek] at T2
    exact ⟨b,ps2,h2,Dn.seq' S g d1 d2 (fun hh hh1 pp S' _ pr ev=>db_1 k0 hp ev) (by lia),T2⟩
   ·have l2:=zdm x (k / 2 + k / 2)
    rw [Nat.mul_add] at l2
    have km : x.length * (k % 2) = x.length:=by rw [show k % 2 = 1 by lia,Nat.mul_one]
    have p12:=d1.dd.pre.trans d2.dd.pre
    obtain ⟨c,ps3,h3,d3,T3⟩:=zcD d2.dd.sh d2.dd.gd T2 (T.pre p12) (by lia) (by lia)
    have w3:=zeA d2.dd.gd T2 (T.pre p12)
    have ek : repS x (k / 2 + k / 2)++x = repS x k:=by
     conv=>lhs; rhs; rw [<- zdl x]
     rw [zb9]
     congr 1
     lia
    rw [ek] at T3
    have d23:=Dn.seq (F:=fun hh=>(yaq [.ref p,.int a,.int a] hh).bind fun v h2=>yaq [.ref p,v,.int n] h2) (F2:=fun v h2=>yaq [.ref p,v,.int n] h2) d1.dd.sh d1.dd.gd d2 d3 (fun _ _ _ _ _=>rfl) (k:=2800) (by lia)
    exact ⟨c,ps3,h3,Dn.seq' S g d1 d23 (fun hh hh1 pp S' _ pr ev=>db_2 k0 hp ev) (by lia),T3⟩
theorem yfV {h : AH} {p n k : Nat} {ps : List Pc} {m : Ms} (S : ShelfAt h p ps) (em : (meas ps)[n]? = some m) (hk : k < 2 ^ 63) (hm : m.sg * k <= 1000000000000000000) : ybD [.ref p,.int n,.int k] h = if n = 0 then .ok (.int (0 : Nat)) h else yaW 64 [.ref p,.int n,.int k] h:=by
 have fs:=zam S em
 have lt : fLt (.int k) (.int 0) h = .ok (.bl false) h:=by
  have : ¬ (k : Int) < 0:=by lia
  simp only [fLt,this,decide_false]
 have ml : fMul (.int m.sg) (.int k) h = .ok (.int ((m.sg * k : Nat) : Int)) h:=by
  have h2 : (k : Int).natAbs < 2 ^ 64:=by
   have : (2 : Nat) ^ 63 < 2 ^ 64:=by decide
   lia
  rw [ygV h2]; congr 2
 have ck:=zaV (i:=((m.sg * k : Nat) : Int)) (by lia) h
 unfold ybD
 generalize yaW 64 = G at *
 generalize ((m.sg * k : Nat) : Int) = MK at *
 by_cases z : n = 0
 ·subst z
  have z0 : fEq (.int 0) (.int 0) h = .ok (.bl true) h:=by simp
  have fs' : yaC [.ref p,.int 0] h = .ok (.int m.sg) h:=fs
  simp [S.ob,fs',lt,ml,ck,z0,-fLt,-fMul,-fEq]
 ·have z0 : fEq (.int n) (.int 0) h = .ok (.bl false) h:=by simp [z]
  rw [if_neg z]
  generalize hR : G [.ref p,.int n,.int k] h = R
  simp [S.ob,fs,lt,ml,ck,z0,hR,-fLt,-fMul,-fEq]
  cases R<;>rfl
theorem zgl {h : AH} {p : Nat} {ps : List Pc} {n k e : Nat} {x : Str} (S : ShelfAt h p ps) (g : Good ps) (T : TxZ ps n x) (hk : k < 2 ^ e) (he : e < 62) (hm : x.length * k <= 1000000000000000000) (hz : ps.length + 2800 * e < 15000000) :
  ∃ (m : Nat) (ps' : List Pc) (h' : AH),Dn (ybD [.ref p,.int n,.int k]) p h h' ps ps' (2800 * e) m /\ TxZ ps' m (repS x k):=by
 obtain ⟨m,em,sm⟩:=T.meas
 have k63 : k < 2 ^ 63:=Nat.lt_of_lt_of_le hk (Nat.pow_le_pow_right (by decide) (by lia))
 by_cases z : n = 0
 ·rcases T with ⟨_,rfl⟩ | ⟨_,_,_,T⟩
  ·have dv : Dn (ybD [.ref p,.int n,.int k]) p h h ps ps 0 0:=Dn.val S g fun hh pp S' _ pr=>by rw [yfV S' (zac pr em) k63 (by rw [sm]; exact hm),if_pos z]
   exact ⟨0,ps,h,dv.as S g (fun _ _ _ _ _=>rfl) (Nat.zero_le _),.inl ⟨rfl,zfO k⟩⟩
  ·exact absurd T.n1 (by lia)
 ·obtain ⟨c,ps',h',d,T'⟩:=zdQ 64 e S g T hk (by lia) hm hz
  exact ⟨c,ps',h',d.as S g (fun hh pp S' _ pr=>by rw [yfV S' (zac pr em) k63 (by rw [sm]; exact hm),if_neg z]) (Nat.le_refl _),T'⟩
theorem htZ {ps : List Pc} (g : Good ps) {n : Nat} {x : Str} (t : TxZ ps n x) : -1 <= htOf ps n /\ htOf ps n <= 82:=by
 refine ⟨zaN t,?_⟩
 rcases t with ⟨rfl,rfl⟩ | ⟨m,f,l,T⟩
 ·rw [za9]; lia
 ·rw [ybB T.ms]; exact ht82 g T
theorem zdR {h : AH} {p n b e : Nat} {ps : List Pc} {m : Ms} (S : ShelfAt h p ps) (em : (meas ps)[n]? = some m) (be : b <= e) (hm : e <= m.sg) : ybE [.ref p,.int n,.int b,.int e] h = .ok .non h:=by
 have fs:=zam S em
 have l1 : fLe (.int 0) (.int b) h = .ok (.bl true) h:=by
  have : (0 : Int) <= b:=by lia
  simp only [fLe,this,decide_true]
 have l2 : fLe (.int b) (.int e) h = .ok (.bl true) h:=by
  have : (b : Int) <= e:=by lia
  simp only [fLe,this,decide_true]
 have l3 : fLe (.int e) (.int m.sg) h = .ok (.bl true) h:=by
  have : (e : Int) <= m.sg:=by lia
  simp only [fLe,this,decide_true]
 simp [ybE,S.ob,fs,l1,l2,l3,-fLe]
theorem zfP {h : AH} {p n t : Nat} {ps : List Pc} {m : Ms} (S : ShelfAt h p ps) (em : (meas ps)[n]? = some m) (hm : t <= m.sg) : ycc [.ref p,.int n,.int t] h = .ok .non h:=by
 have fs:=zam S em
 have l1 : fLe (.int 0) (.int t) h = .ok (.bl true) h:=by
  have : (0 : Int) <= t:=by lia
  simp only [fLe,this,decide_true]
 have l2 : fLe (.int t) (.int m.sg) h = .ok (.bl true) h:=by
  have : (t : Int) <= m.sg:=by lia
  simp only [fLe,this,decide_true]
 simp [ycc,S.ob,fs,l1,l2,-fLe]
end Sk
namespace Sk
open PySem PySem.Spec L2 Sm
theorem zhi {h : AH} {p : Nat} {ps : List Pc} {a b : Nat} {ma mb fa la fb lb : Ms} {x y : Str} (S : ShelfAt h p ps) (g : Good ps) (A : Tx ps a ma x fa la) (B : Tx ps b mb y fb lb) (hc : ¬ 8 < la.sg + fb.sg) (hm : ma.sg + mb.sg <= 1000000000000000000) (hz : ps.length < 15000000) :
  ∃ (n : Nat) (ps' : List Pc) (h' : AH) (m f l : Ms),Dn (ybY [.ref p,.int a,.int b]) p h h' ps ps' (7 * (max ma.ht mb.ht).toNat + 2) n /\ Tx ps' n m (x++y) f l /\ m.ht <= max ma.ht mb.ht + 1 /\ max ma.ht mb.ht - 1 <= m.ht /\ fa.sg <= f.sg /\ lb.sg <= l.sg:=by
 obtain ⟨_,w,u,l1,el,ex,lw⟩:=g.ends a a (Nat.le_refl _) A
 obtain ⟨⟨v,t,f1,ef,ey,lv⟩,_⟩:=g.ends b b (Nat.le_refl _) B
 have a0:=A.ky.ht
 have b0:=B.ky.ht
 have ha:=ht82 g A
 have hb:=ht82 g B
 have px : yaD x = true:=A.ky.pl
 have py : yaD y = true:=B.ky.pl
 have pw : yaD w = true:=by rw [ex,zaJ,Bool.and_eq_true] at px; exact px.2
 have pv : yaD v = true:=by rw [ey,zaJ,Bool.and_eq_true] at py; exact py.1
 have la1:=A.ky.l1
 have fb1:=B.ky.f1
 have sx:=A.ky.sg
 have sy:=B.ky.sg
 have lx : x.length = u.length + w.length:=by rw [ex,zai]
 have ly : y.length = v.length + t.length:=by rw [ey,zai]
 have lwv : (w++v).length = w.length + v.length:=zai w v
 obtain ⟨L,ps1,h1,d1,N⟩:=zbo S g (zdP (w:=w) (v:=v) (by lia) (by lia) pw pv) (by lia)
 have z1:=d1.dd.len
 obtain ⟨n2,ps2,h2,m2,f2,u2,v2,d2,ex2,lv2,T2,k1,k2⟩:=zdi 90 d1.dd.sh d1.dd.gd (A.pre d1.dd.pre) N (by lia) (by lia) (by lia) (by lia)
 have z2:=d2.dd.len
 obtain ⟨rfl,rfl⟩ : u = u2 /\ w = v2:=zeu (ex.symm.trans ex2) (by lia)
 have s2 : m2.sg = u.length + (w.length + v.length):=by rw [T2.ky.sg,zai,zai]
 have p12:=d1.dd.pre.trans d2.dd.pre
 have lm : (lfMs (w++v) L).sg = w.length + v.length:=zai w v
 have tb : ∀ q : Int,0 <= q -> q <= max ma.ht mb.ht -> q.toNat <= (max ma.ht mb.ht).toNat:=fun q _ _=>by lia
 rcases zcC 90 d2.dd.sh d2.dd.gd (B.pre p12) (by lia) (by lia) with ⟨r1,r2,d3⟩ | ⟨r1,n3,ps3,h3,m3,f3,u3,v3,d3,ey3,lu3,T3,r2,r3,r4⟩
 ·have t0 : t.length = 0:=by lia
  have te : t = "" := zad (by rw [zag] at t0; rw [List.length_eq_zero_iff.mp t0]; rfl)
  have rd : u++(w++v) = x++y:=by
   rw [ex,ey,te,zae]
   congr 2
  rw [rd] at T2
  refine ⟨n2,ps2,h2,m2,f2,_,⟨?_,d1.dd.trans d2.dd (by lia),fun h4 ps4 S4 g4 p4=>?_⟩,T2,by lia,by lia,k2,?_⟩
  rotate_left 2
  ·obtain ⟨kk,cc⟩:=B.ky.cnt
   have : lb.sg <= mb.sg:=by rcases cc with cc | cc<;>lia
   lia
  ·rw [wd_1 S A.ms B.ms l1 f1 el ef (by lia) d1.ev d2.ev d3.ev]; rfl
  ·have q1:=d1.re h4 ps4 S4 g4 (d2.dd.pre.trans p4)
   have q2:=d2.re h4 ps4 S4 g4 p4
   have q3:=d3.re h4 ps4 S4 g4 p4
   rw [wd_1 S4 (zac (p12.trans p4) A.ms) (zac (p12.trans p4) B.ms) l1 f1 (yaK (p12.trans p4) el) (yaK (p12.trans p4) ef) (by lia) q1 q2 q3]; rfl
 ·obtain ⟨rfl,rfl⟩ : v = u3 /\ t = v3:=zdj (ey.symm.trans ey3) (by lia)
  have z3:=d3.dd.len
  have s3 : m3.sg = t.length:=T3.ky.sg
  have m30:=T3.ky.ht
  obtain ⟨n4,ps4,h4,m4,d4,T4,r5,r6⟩:=zaQ 90 (max ma.ht mb.ht).toNat d3.dd.sh d3.dd.gd (T2.pre d3.dd.pre) T3 (by lia) (by lia) (by lia) (by lia) (by lia)
  have rd : (u++(w++v))++t = x++y:=by rw [ex,ey,zae,zae,zae]
  rw [rd] at T4
  have n3z : ¬ (n3 : Int) = 0:=by have:=T3.n1; lia
  have p123:=p12.trans d3.dd.pre
  refine ⟨n4,ps4,h4,m4,f2,lb,⟨?_,((d1.dd.trans d2.dd (Nat.le_refl _)).trans d3.dd (Nat.le_refl _)).trans d4.dd (by lia),fun h5 ps5 S5 g5 p5=>?_⟩,T4,by lia,by lia,k2,Nat.le_refl _⟩
  ·rw [wd_1 S A.ms B.ms l1 f1 el ef (by lia) d1.ev d2.ev d3.ev,if_neg n3z]; exact d4.ev
  ·have p45:=d4.dd.pre.trans p5
   have q1:=d1.re h5 ps5 S5 g5 (d2.dd.pre.trans (d3.dd.pre.trans p45))
   have q2:=d2.re h5 ps5 S5 g5 (d3.dd.pre.trans p45)
   have q3:=d3.re h5 ps5 S5 g5 p45
   have q4:=d4.re h5 ps5 S5 g5 p5
   have pa:=p123.trans p45
   rw [wd_1 S5 (zac pa A.ms) (zac pa B.ms) l1 f1 (yaK pa el) (yaK pa ef) (by lia) q1 q2 q3,if_neg n3z]; exact q4
theorem zfQ {h : AH} {p : Nat} {ps : List Pc} {a b : Nat} {ma mb fa la fb lb : Ms} {x y : Str} (S : ShelfAt h p ps) (g : Good ps) (A : Tx ps a ma x fa la) (B : Tx ps b mb y fb lb) (q : 8 < la.sg + fb.sg) (hm : ma.sg + mb.sg <= 1000000000000000000) (hz : ps.length < 15000000) :
  ∃ (n : Nat) (ps' : List Pc) (h' : AH) (m : Ms),Dn (yaq [.ref p,.int a,.int b]) p h h' ps ps' (3 * (ma.ht - mb.ht).natAbs + 1) n /\ Tx ps' n m (x++y) fa lb /\ max ma.ht mb.ht <= m.ht /\ m.ht <= max ma.ht mb.ht + 1:=by
 have a0:=A.ky.ht
 have b0:=B.ky.ht
 have ha:=ht82 g A
 have hb:=ht82 g B
 obtain ⟨n,ps',h',m,d,T,h1,h2⟩:=zaQ 90 (ma.ht - mb.ht).natAbs S g A B q hm (Nat.le_refl _) (by lia) (by lia)
 exact ⟨n,ps',h',m,d.as S g (fun hh pp S' _ pr=>by rw [jn_2 S' A.n1 B.n1 (zac pr A.ms) (zac pr B.ms) (zac pr A.ky.ll) (zac pr B.ky.fl) hm,if_pos q]) (Nat.le_refl _),T,h1,h2⟩
theorem zfR {h : AH} {p : Nat} {ps : List Pc} {a b : Nat} {ma mb fa la fb lb : Ms} {x y : Str} (S : ShelfAt h p ps) (g : Good ps) (A : Tx ps a ma x fa la) (B : Tx ps b mb y fb lb) (q : ¬ 8 < la.sg + fb.sg) (hm : ma.sg + mb.sg <= 1000000000000000000) (hz : ps.length < 15000000) :
  ∃ (n : Nat) (ps' : List Pc) (h' : AH) (m f l : Ms),Dn (yaq [.ref p,.int a,.int b]) p h h' ps ps' (7 * (max ma.ht mb.ht).toNat + 2) n /\ Tx ps' n m (x++y) f l /\ m.ht <= max ma.ht mb.ht + 1 /\ max ma.ht mb.ht - 1 <= m.ht /\ fa.sg <= f.sg /\ lb.sg <= l.sg:=by
 obtain ⟨n,ps',h',m,f,l,d,T,h1,h2,h3,h4⟩:=zhi S g A B q hm hz
 exact ⟨n,ps',h',m,f,l,d.as S g (fun hh pp S' _ pr=>by rw [jn_2 S' A.n1 B.n1 (zac pr A.ms) (zac pr B.ms) (zac pr A.ky.ll) (zac pr B.ky.fl) hm,if_neg q]) (Nat.le_refl _),T,h1,h2,h3,h4⟩
theorem ln_a {h1 h2 hc he H : Int} (c0 : 0 <= hc) (e0 : 0 <= he) (r0 : 0 <= h1) (w1 : -1 <= hc - he) (w2 : hc - he <= 1) (hH : H = max hc he + 1) (r1 : h1 <= he) (g1 : max hc h1 <= h2) : (7 * h1.toNat + 9 * he.toNat + 1) + (3 * (hc - h1).natAbs + 1) <= 7 * h2.toNat + 9 * H.toNat + 1:=by lia
theorem ln_b {h2 hc he H : Int} (c0 : 0 <= hc) (e0 : 0 <= he) (hH : H = max hc he + 1) (g1 : max hc 0 - 1 <= h2) : (7 * (0 : Int).toNat + 9 * he.toNat + 1) + (7 * (max hc 0).toNat + 2) <= 7 * h2.toNat + 9 * H.toNat + 1:=by lia
theorem zcI {p : Nat} : ∀ (d : Nat) {h : AH} {ps : List Pc} {n a : Nat} {m f l : Ms} {x : Str},ShelfAt h p ps -> Good ps -> Tx ps n m x f l -> 1 <= a -> a <= x.length -> m.ht.toNat < d -> ps.length + 16 * m.ht.toNat + 1 < 14900000 ->
  ∃ (r : Nat) (ps' : List Pc) (h' : AH) (m' f' l' : Ms),Dn (yat d [.ref p,.int n,.int a]) p h h' ps ps' (7 * m'.ht.toNat + 9 * m.ht.toNat + 1) r /\ Tx ps' r m' (tkS x a) f' l' /\ m'.ht <= m.ht /\ (m'.ht = 0 \/ f.sg <= f'.sg)
 | 0,h,ps,n,a,m,f,l,x,S,g,T1,a1,ha,hd,hz=>absurd hd (Nat.not_lt_zero _)
 | d + 1,h,ps,n,a,m,f,l,x,S,g,T1,a1,ha,hd,hz=>by
  have a0 : ¬ a = 0:=by lia
  have sg:=T1.ky.sg
  have m0:=T1.ky.ht
  by_cases ea : a = m.sg
  ·have dv : Dn (yat (d + 1) [.ref p,.int n,.int a]) p h h ps ps 0 n:=Dn.val S g fun hh pp S' _ pr=>yg7 S' (zac pr T1.ms) a0 ea
   exact ⟨n,ps,h,m,f,l,dv.as S g (fun _ _ _ _ _=>rfl) (Nat.zero_le _),by rw [yg5 (by lia)]; exact T1,Int.le_refl _,.inr (Nat.le_refl _)⟩
  ·rcases g.kind T1 with ⟨e1,e2,e3,e4,e5⟩ | ⟨_,_,mx,my,_,_,_,_,_,_,_,_,_,X,Y,_,e5,_⟩
   ·have lt:=yc1 ha
    obtain ⟨r,ps',h',d1,L⟩:=zbo S g (x:=tkS x a) (by
     unfold ybf
     rw [zif T1.ky.pl,lt]
     simp; lia) (by lia)
    exact ⟨r,ps',h',_,_,_,d1.as S g (fun hh pp S' _ pr=>zjz S' T1.n1 (zac pr T1.ms) (yaK pr e1) a0 ea) (by lia),L,by show (0 : Int) <= _; lia,.inl rfl⟩
   ·have hpos : 0 < m.ht:=by
     have:=congrArg Ms.ht e5
     rw [fmH] at this
     have:=X.ky.ht
     lia
    obtain ⟨c,e,mc,me,y1,y2,lc,fe,ep,C,E,rfl,em,w1,w2,w3⟩:=g.cut T1 hpos
    have hh : m.ht = max mc.ht me.ht + 1:=by rw [em]; rfl
    have c0:=C.ky.ht
    have e0:=E.ky.ht
    have sc:=C.ky.sg
    have se:=E.ky.sg
    have la:=zai y1 y2
    by_cases hl : a <= mc.sg
    ·obtain ⟨r,ps',h',m',f',l',d1,T',q1,q2⟩:=zcI d (n:=c) (a:=a) (x:=y1) S g C a1 (by lia) (by lia) (by lia)
     exact ⟨r,ps',h',m',f',l',d1.as S g (fun hh pp S' _ pr=>fr_l S' T1.n1 (zac pr T1.ms) (zac pr C.ms) (yaK pr ep) a0 ea hl) (by lia),by rw [tk_l (by lia)]; exact T',by lia,q2⟩
    ·obtain ⟨r,ps1,h1,m1,f1,l1,d1,T',q1,q2⟩:=zcI d (n:=e) (a:=a - mc.sg) (x:=y2) S g E (by lia) (by lia) (by lia) (by lia)
     have z1:=d1.dd.len
     have r0:=T'.ky.ht
     have lt:=yc1 (x:=y2) (a:=a - mc.sg) (by lia)
     have s1:=T'.ky.sg
     have most:=T1.ky.most
     have C' := C.pre d1.dd.pre
     have tr : tkS (y1++y2) a = y1++tkS y2 (a - mc.sg):=by rw [tk_r (by lia),<- sc]
     rw [tr]
     by_cases q : 8 < lc.sg + f1.sg
     ·obtain ⟨s,ps2,h2,m2,d2,T2,g1,g2⟩:=zfQ d1.dd.sh d1.dd.gd C' T' q (by lia) (by lia)
      exact ⟨s,ps2,h2,m2,f,l1,Dn.seq' S g d1 d2 (fun hh hh1 pp S' _ pr ev=>fr_r S' T1.n1 (zac pr T1.ms) (zac pr C.ms) (yaK pr ep) a0 ea hl ev) (ln_a c0 e0 r0 w1 w2 hh q1 g1),T2,by lia,.inr (Nat.le_refl _)⟩
     ·have z : m1.ht = 0:=by
       rcases q2 with q2 | q2
       ·exact q2
       ·lia
      obtain ⟨s,ps2,h2,m2,f2,l2,d2,T2,g2,g1,g3,g4⟩:=zfR d1.dd.sh d1.dd.gd C' T' q (by lia) (by lia)
      rw [z] at d1 d2 g1 g2
      exact ⟨s,ps2,h2,m2,f2,l2,Dn.seq' S g d1 d2 (fun hh hh1 pp S' _ pr ev=>fr_r S' T1.n1 (zac pr T1.ms) (zac pr C.ms) (yaK pr ep) a0 ea hl ev) (ln_b c0 e0 hh g1),T2,by lia,.inr g3⟩
theorem ln_c {h1 h2 hc he H : Int} (c0 : 0 <= hc) (e0 : 0 <= he) (r0 : 0 <= h1) (w1 : -1 <= hc - he) (w2 : hc - he <= 1) (hH : H = max hc he + 1) (r1 : h1 <= hc) (g1 : max h1 he <= h2) : (7 * h1.toNat + 9 * hc.toNat + 1) + (3 * (h1 - he).natAbs + 1) <= 7 * h2.toNat + 9 * H.toNat + 1:=by lia
theorem ln_d {h2 hc he H : Int} (c0 : 0 <= hc) (e0 : 0 <= he) (hH : H = max hc he + 1) (g1 : max 0 he - 1 <= h2) : (7 * (0 : Int).toNat + 9 * hc.toNat + 1) + (7 * (max 0 he).toNat + 2) <= 7 * h2.toNat + 9 * H.toNat + 1:=by lia
theorem zdn {p : Nat} : ∀ (d : Nat) {h : AH} {ps : List Pc} {n a : Nat} {m f l : Ms} {x : Str},ShelfAt h p ps -> Good ps -> Tx ps n m x f l -> a < x.length -> m.ht.toNat < d -> ps.length + 16 * m.ht.toNat + 1 < 14900000 ->
  ∃ (r : Nat) (ps' : List Pc) (h' : AH) (m' f' l' : Ms),Dn (yau d [.ref p,.int n,.int a]) p h h' ps ps' (7 * m'.ht.toNat + 9 * m.ht.toNat + 1) r /\ Tx ps' r m' (dpS x a) f' l' /\ m'.ht <= m.ht /\ (m'.ht = 0 \/ l.sg <= l'.sg)
 | 0,h,ps,n,a,m,f,l,x,S,g,T1,ha,hd,hz=>absurd hd (Nat.not_lt_zero _)
 | d + 1,h,ps,n,a,m,f,l,x,S,g,T1,ha,hd,hz=>by
  have sg:=T1.ky.sg
  have m0:=T1.ky.ht
  by_cases a0 : a = 0
  ·subst a0
   have dv : Dn (yau (d + 1) [.ref p,.int n,.int (0 : Nat)]) p h h ps ps 0 n:=Dn.val S g fun hh pp S' _ pr=>bk_0
   exact ⟨n,ps,h,m,f,l,dv.as S g (fun _ _ _ _ _=>rfl) (Nat.zero_le _),by rw [dp_0]; exact T1,Int.le_refl _,.inr (Nat.le_refl _)⟩
  ·have ea : ¬ a = m.sg:=by lia
   rcases g.kind T1 with ⟨e1,e2,e3,e4,e5⟩ | ⟨_,_,mx,my,_,_,_,_,_,_,_,_,_,X,Y,_,e5,_⟩
   ·have lt:=ydv x a
    obtain ⟨r,ps',h',d1,L⟩:=zbo S g (x:=dpS x a) (by
     unfold ybf
     rw [zig T1.ky.pl,lt]
     simp; lia) (by lia)
    exact ⟨r,ps',h',_,_,_,d1.as S g (fun hh pp S' _ pr=>zjA S' T1.n1 (zac pr T1.ms) (yaK pr e1) (by lia) a0 ea) (by lia),L,by show (0 : Int) <= _; lia,.inl rfl⟩
   ·have hpos : 0 < m.ht:=by
     have:=congrArg Ms.ht e5
     rw [fmH] at this
     have:=X.ky.ht
     lia
    obtain ⟨c,e,mc,me,y1,y2,lc,fe,ep,C,E,rfl,em,w1,w2,w3⟩:=g.cut T1 hpos
    have hh : m.ht = max mc.ht me.ht + 1:=by rw [em]; rfl
    have c0:=C.ky.ht
    have e0:=E.ky.ht
    have sc:=C.ky.sg
    have se:=E.ky.sg
    have la:=zai y1 y2
    by_cases hl : mc.sg <= a
    ·obtain ⟨r,ps',h',m',f',l',d1,T',q1,q2⟩:=zdn d (n:=e) (a:=a - mc.sg) (x:=y2) S g E (by lia) (by lia) (by lia)
     refine ⟨r,ps',h',m',f',l',d1.as S g (fun hh pp S' _ pr=>bk_r S' T1.n1 (zac pr T1.ms) (zac pr C.ms) (yaK pr ep) a0 ea hl) (by lia),?_,by lia,q2⟩
     rw [dp_r (by lia),<- sc]
     exact T'
    ·obtain ⟨r,ps1,h1,m1,f1,l1,d1,T',q1,q2⟩:=zdn d (n:=c) (a:=a) (x:=y1) S g C (by lia) (by lia) (by lia)
     have z1:=d1.dd.len
     have r0:=T'.ky.ht
     have lt:=ydv y1 a
     have s1:=T'.ky.sg
     have most:=T1.ky.most
     have E' := E.pre d1.dd.pre
     have tr : dpS (y1++y2) a = dpS y1 a++y2:=dp_l (by lia)
     rw [tr]
     by_cases q : 8 < l1.sg + fe.sg
     ·obtain ⟨s,ps2,h2,m2,d2,T2,g1,g2⟩:=zfQ d1.dd.sh d1.dd.gd T' E' q (by lia) (by lia)
      exact ⟨s,ps2,h2,m2,f1,l,Dn.seq' S g d1 d2 (fun hh hh1 pp S' _ pr ev=>bk_l S' T1.n1 (zac pr T1.ms) (zac pr C.ms) (yaK pr ep) a0 ea hl ev) (ln_c c0 e0 r0 w1 w2 hh q1 g1),T2,by lia,.inr (Nat.le_refl _)⟩
     ·have z : m1.ht = 0:=by
       rcases q2 with q2 | q2
       ·exact q2
       ·lia
      obtain ⟨s,ps2,h2,m2,f2,l2,d2,T2,g2,g1,g3,g4⟩:=zfR d1.dd.sh d1.dd.gd T' E' q (by lia) (by lia)
      rw [z] at d1 d2 g1 g2
      exact ⟨s,ps2,h2,m2,f2,l2,Dn.seq' S g d1 d2 (fun hh hh1 pp S' _ pr ev=>bk_l S' T1.n1 (zac pr T1.ms) (zac pr C.ms) (yaK pr ep) a0 ea hl ev) (ln_d c0 e0 hh g1),T2,by lia,.inr g4⟩
end Sk
namespace Sk
open PySem PySem.Spec L2 Sm
theorem zbE {h : AH} {p n a : Nat} {ps : List Pc} {x : Str} (S : ShelfAt h p ps) (g : Good ps) (T : TxZ ps n x) (ha : a <= x.length) (hz : ps.length < 14000000) :
  ∃ (r : Nat) (ps' : List Pc) (h' : AH),Dn (yat 90 [.ref p,.int n,.int a]) p h h' ps ps' (32 * (htOf ps n + 1).toNat) r /\ TxZ ps' r (tkS x a) /\ htOf ps' r <= htOf ps n:=by
 by_cases a0 : a = 0
 ·subst a0
  have dv : Dn (yat 90 [.ref p,.int n,.int (0 : Nat)]) p h h ps ps 0 0:=Dn.val S g fun hh pp S' _ pr=>fr_0
  exact ⟨0,ps,h,dv.as S g (fun _ _ _ _ _=>rfl) (Nat.zero_le _),.inl ⟨rfl,tk_0 x⟩,by rw [za9]; exact zaN T⟩
 ·obtain ⟨m,f,l,T1⟩:=T.pos (by lia)
  have h82:=ht82 g T1
  have m0:=T1.ky.ht
  obtain ⟨r,ps',h',m',f',l',d,T',q1,_⟩:=zcI 90 (p:=p) (a:=a) S g T1 (by lia) ha (by lia) (by lia)
  have r0:=T'.ky.ht
  rw [ybB T1.ms]
  exact ⟨r,ps',h',d.as S g (fun _ _ _ _ _=>rfl) (by lia),.inr ⟨_,_,_,T'⟩,by rw [ybB T'.ms]; exact q1⟩
theorem zca {h : AH} {p n a : Nat} {ps : List Pc} {x : Str} (S : ShelfAt h p ps) (g : Good ps) (T : TxZ ps n x) (ha : a <= x.length) (hz : ps.length < 14000000) :
  ∃ (r : Nat) (ps' : List Pc) (h' : AH),Dn (yau 90 [.ref p,.int n,.int a]) p h h' ps ps' (32 * (htOf ps n + 1).toNat) r /\ TxZ ps' r (dpS x a) /\ htOf ps' r <= htOf ps n:=by
 by_cases a0 : a = 0
 ·subst a0
  have dv : Dn (yau 90 [.ref p,.int n,.int (0 : Nat)]) p h h ps ps 0 n:=Dn.val S g fun hh pp S' _ pr=>bk_0
  exact ⟨n,ps,h,dv.as S g (fun _ _ _ _ _=>rfl) (Nat.zero_le _),by rw [dp_0]; exact T,Int.le_refl _⟩
 ·obtain ⟨m,f,l,T1⟩:=T.pos (by lia)
  have sg:=T1.ky.sg
  by_cases ea : a = m.sg
  ·have dv : Dn (yau 90 [.ref p,.int n,.int a]) p h h ps ps 0 0:=Dn.val S g fun hh pp S' _ pr=>yg8 S' (zac pr T1.ms) a0 ea
   exact ⟨0,ps,h,dv.as S g (fun _ _ _ _ _=>rfl) (Nat.zero_le _),.inl ⟨rfl,yg6 (by lia)⟩,by rw [za9]; exact zaN T⟩
  ·have h82:=ht82 g T1
   have m0:=T1.ky.ht
   obtain ⟨r,ps',h',m',f',l',d,T',q1,_⟩:=zdn 90 (p:=p) (a:=a) S g T1 (by lia) (by lia) (by lia)
   have r0:=T'.ky.ht
   rw [ybB T1.ms]
   exact ⟨r,ps',h',d.as S g (fun _ _ _ _ _=>rfl) (by lia),.inr ⟨_,_,_,T'⟩,by rw [ybB T'.ms]; exact q1⟩
theorem zaS {ps ps' : List Pc} {n : Nat} {x : Str} (T : TxZ ps n x) (pr : ps <+: ps') : htOf ps' n = htOf ps n:=by
 obtain ⟨m,em,_⟩:=T.meas
 rw [ybB em,ybB (zac pr em)]
theorem yg9 {ps : List Pc} {n : Nat} (T : TxZ ps n "") : htOf ps n = -1:=by
 rcases T with ⟨rfl,_⟩ | ⟨m,f,l,T⟩
 ·exact za9 ps
 ·have a:=T.ky.sg
  obtain ⟨k,c⟩:=T.ky.cnt
  have f1:=T.ky.f1
  have : ("" : Str).length = 0:=rfl
  rcases c with c | c<;>lia
theorem yfG {ps : List Pc} {n : Nat} {x : Str} (T : TxZ ps n x) (h : htOf ps n = -1) : x = "" := by
 rcases T with ⟨_,rfl⟩ | ⟨m,f,l,T⟩
 ·rfl
 ·have:=T.ky.ht
  rw [ybB T.ms] at h
  lia
theorem yfH {h h1 h2 h3 h4 : AH} {p a b t r1 r2 r3 r : Nat} {ps : List Pc} {ma mb : Ms} (S : ShelfAt h p ps) (ema : (meas ps)[a]? = some ma) (emb : (meas ps)[b]? = some mb) (tx : t <= ma.sg) (hx : ma.sg + mb.sg <= 1000000000000000000)
  (e1 : yat 90 [.ref p,.int a,.int t] h = .ok (.int r1) h1) (e2 : yaq [.ref p,.int r1,.int b] h1 = .ok (.int r2) h2) (e3 : yau 90 [.ref p,.int a,.int t] h2 = .ok (.int r3) h3) (e4 : yaq [.ref p,.int r2,.int r3] h3 = .ok (.int r) h4) : ybz [.ref p,.int a,.int t,.int b] h = .ok (.int r) h4:=by
 have ck:=zfP S ema tx
 have f1:=zam S ema
 have f2:=zam S emb
 have lk:=zaV (i:=(ma.sg : Int) + mb.sg) (by lia) h
 have ob:=S.ob
 unfold ybz
 generalize yat 90 = FF at *
 generalize yau 90 = FB at *
 simp [ob,f1,f2,ck,lk,e1,e2,e3,e4]
theorem yha {h : AH} {p a b t : Nat} {ps : List Pc} {x y : Str} (S : ShelfAt h p ps) (g : Good ps) (A : TxZ ps a x) (B : TxZ ps b y) (tx : t <= x.length) (hx : x.length + y.length <= 1000000000000000000) (hz : ps.length < 13000000) :
  ∃ (r : Nat) (ps' : List Pc) (h' : AH),Dn (ybz [.ref p,.int a,.int t,.int b]) p h h' ps ps' (200 * (1 + max (htOf ps a) (htOf ps b)).toNat) r /\ TxZ ps' r ((tkS x t++y)++dpS x t):=by
 obtain ⟨ma,ema,sma⟩:=A.meas
 obtain ⟨mb,emb,smb⟩:=B.meas
 have ha:=htZ g A
 have hb:=htZ g B
 obtain ⟨r1,ps1,h1,d1,T1,q1⟩:=zbE (a:=t) S g A tx (by lia)
 have z1:=d1.dd.len
 have l1:=yc1 tx
 have g1:=zaN T1
 obtain ⟨r2,ps2,h2,d2,T2,q2⟩:=zbV d1.dd.sh d1.dd.gd T1 (B.pre d1.dd.pre) (by lia) (by lia)
 rw [zaS B d1.dd.pre] at d2 q2
 have z2:=d2.dd.len
 have g2:=zaN T2
 have l2:=zai (tkS x t) y
 have p12:=d1.dd.pre.trans d2.dd.pre
 obtain ⟨r3,ps3,h3,d3,T3,q3⟩:=zca (a:=t) d2.dd.sh d2.dd.gd (A.pre p12) tx (by lia)
 rw [zaS A p12] at d3 q3
 have z3:=d3.dd.len
 have l3:=ydv x t
 have g3:=zaN T3
 obtain ⟨r,ps4,h4,d4,T4,_⟩:=zbV d3.dd.sh d3.dd.gd (T2.pre d3.dd.pre) T3 (by lia) (by lia)
 rw [zaS T2 d3.dd.pre] at d4
 have re : ∀ h5 ps5,ShelfAt h5 p ps5 -> Good ps5 -> ps4 <+: ps5 -> ybz [.ref p,.int a,.int t,.int b] h5 = .ok (.int r) h5:=fun h5 ps5 S5 g5 p5=>by
  have q4:=d4.dd.pre.trans p5
  have q3:=d3.dd.pre.trans q4
  have q2' := d2.dd.pre.trans q3
  have q1' := d1.dd.pre.trans q2'
  exact yfH S5 (zac q1' ema) (zac q1' emb) (by lia) (by lia) (d1.re h5 ps5 S5 g5 q2') (d2.re h5 ps5 S5 g5 q3) (d3.re h5 ps5 S5 g5 q4) (d4.re h5 ps5 S5 g5 p5)
 refine ⟨r,ps4,h4,⟨yfH S ema emb (by lia) (by lia) d1.ev d2.ev d3.ev d4.ev,((d1.dd.trans d2.dd (Nat.le_refl _)).trans d3.dd (Nat.le_refl _)).trans d4.dd ?_,re⟩,T4⟩
 by_cases m : max (htOf ps a) (htOf ps b) = -1
 ·have xa : x = "" := yfG A (by lia)
  have yb : y = "" := yfG B (by lia)
  have e2 : htOf ps2 r2 = -1:=by
   have t0 : t = 0:=by
    rw [xa] at tx
    have : ("" : Str).length = 0:=rfl
    lia
   have : tkS x t++y = "" := by
    rw [yb,t0,tk_0]
    exact zad (by rw [zah]; rfl)
   rw [this] at T2
   exact yg9 T2
  lia
 ·lia
theorem zeB {h h1 h2 h3 : AH} {p n b e r1 r2 r : Nat} {ps : List Pc} {m : Ms} (S : ShelfAt h p ps) (em : (meas ps)[n]? = some m) (be : b <= e) (hm : e <= m.sg) (e1 : yat 90 [.ref p,.int n,.int b] h = .ok (.int r1) h1) (e2 : yau 90 [.ref p,.int n,.int e] h1 = .ok (.int r2) h2) (e3 : yaq [.ref p,.int r1,.int r2] h2 = .ok (.int r) h3) : ybk [.ref p,.int n,.int b,.int e] h = .ok (.int r) h3:=by
 have ck:=zdR S em be hm
 unfold ybk
 generalize yat 90 = FF at *
 generalize yau 90 = FB at *
 simp [ck,e1,e2,e3]
theorem zih {h : AH} {p n b e : Nat} {ps : List Pc} {x : Str} (S : ShelfAt h p ps) (g : Good ps) (T : TxZ ps n x) (be : b <= e) (ex : e <= x.length) (hx : x.length <= 1000000000000000000) (hz : ps.length < 13000000) :
  ∃ (r : Nat) (ps' : List Pc) (h' : AH),Dn (ybk [.ref p,.int n,.int b,.int e]) p h h' ps ps' (200 * (1 + htOf ps n).toNat) r /\ TxZ ps' r (tkS x b++dpS x e):=by
 obtain ⟨m,em,sm⟩:=T.meas
 have ht:=htZ g T
 obtain ⟨r1,ps1,h1,d1,T1,q1⟩:=zbE (a:=b) S g T (by lia) (by lia)
 have z1:=d1.dd.len
 obtain ⟨r2,ps2,h2,d2,T2,q2⟩:=zca (a:=e) d1.dd.sh d1.dd.gd (T.pre d1.dd.pre) ex (by lia)
 rw [zaS T d1.dd.pre] at d2 q2
 have z2:=d2.dd.len
 have l1:=yc1 (x:=x) (a:=b) (by lia)
 have l2:=ydv x e
 obtain ⟨r,ps3,h3,d3,T3,_⟩:=zbV d2.dd.sh d2.dd.gd (T1.pre d2.dd.pre) T2 (by lia) (by lia)
 rw [zaS T1 d2.dd.pre] at d3
 have g1:=zaN T1
 have g2:=zaN T2
 exact ⟨r,ps3,h3,⟨zeB S em be (by lia) d1.ev d2.ev d3.ev,(d1.dd.trans d2.dd (Nat.le_refl _)).trans d3.dd (by lia),fun h5 ps5 S5 g5 p5 =>
  zeB S5 (zac (d1.dd.pre.trans (d2.dd.pre.trans (d3.dd.pre.trans p5))) em) be (by lia) (d1.re h5 ps5 S5 g5 (d2.dd.pre.trans (d3.dd.pre.trans p5))) (d2.re h5 ps5 S5 g5 (d3.dd.pre.trans p5)) (d3.re h5 ps5 S5 g5 p5)⟩,T3⟩
theorem zfS {h h1 h2 : AH} {p n b e r1 r2 : Nat} {ps : List Pc} {m : Ms} (S : ShelfAt h p ps) (em : (meas ps)[n]? = some m) (be : b <= e) (hm : e <= m.sg) (e1 : yat 90 [.ref p,.int n,.int e] h = .ok (.int r1) h1) (e2 : yau 90 [.ref p,.int r1,.int b] h1 = .ok (.int r2) h2) : ybv [.ref p,.int n,.int b,.int e] h = .ok (.int r2) h2:=by
 have ck:=zdR S em be hm
 unfold ybv
 generalize yat 90 = FF at *
 generalize yau 90 = FB at *
 simp [ck,e1,e2]
theorem zjB {h : AH} {p n b e : Nat} {ps : List Pc} {x : Str} (S : ShelfAt h p ps) (g : Good ps) (T : TxZ ps n x) (be : b <= e) (ex : e <= x.length) (hz : ps.length < 13000000) :
  ∃ (r : Nat) (ps' : List Pc) (h' : AH),Dn (ybv [.ref p,.int n,.int b,.int e]) p h h' ps ps' (200 * (1 + htOf ps n).toNat) r /\ TxZ ps' r (dpS (tkS x e) b):=by
 obtain ⟨m,em,sm⟩:=T.meas
 have ht:=htZ g T
 obtain ⟨r1,ps1,h1,d1,T1,q1⟩:=zbE (a:=e) S g T ex (by lia)
 have z1:=d1.dd.len
 have l1:=yc1 ex
 have g1:=zaN T1
 obtain ⟨r2,ps2,h2,d2,T2,q2⟩:=zca (a:=b) d1.dd.sh d1.dd.gd T1 (by lia) (by lia)
 exact ⟨r2,ps2,h2,⟨zfS S em be (by lia) d1.ev d2.ev,d1.dd.trans d2.dd (by lia),fun h5 ps5 S5 g5 p5 =>
  zfS S5 (zac (d1.dd.pre.trans (d2.dd.pre.trans p5)) em) be (by lia) (d1.re h5 ps5 S5 g5 (d2.dd.pre.trans p5)) (d2.re h5 ps5 S5 g5 p5)⟩,T2⟩
theorem yfI {h h1 h2 : AH} {p n t r1 r2 : Nat} {ps : List Pc} {m : Ms} (S : ShelfAt h p ps) (em : (meas ps)[n]? = some m) (tm : t <= m.sg) (e1 : yat 90 [.ref p,.int n,.int t] h = .ok (.int r1) h1) (e2 : yau 90 [.ref p,.int n,.int t] h1 = .ok (.int r2) h2) : ybp [.ref p,.int n,.int t] h = .ok (.tup [.int r1,.int r2]) h2:=by
 have ck:=zfP S em tm
 unfold ybp
 generalize yat 90 = FF at *
 generalize yau 90 = FB at *
 simp [ck,e1,e2]
theorem yhb {h : AH} {p n t : Nat} {ps : List Pc} {x : Str} (S : ShelfAt h p ps) (g : Good ps) (T : TxZ ps n x) (tx : t <= x.length) (hz : ps.length < 13000000) :
  ∃ (r1 r2 : Nat) (ps' : List Pc) (h' : AH),ybp [.ref p,.int n,.int t] h = .ok (.tup [.int r1,.int r2]) h' /\ Dd p h h' ps ps' (64 * (htOf ps n + 1).toNat) /\ TxZ ps' r1 (tkS x t) /\ TxZ ps' r2 (dpS x t) /\ (∀ h2 ps2,ShelfAt h2 p ps2 -> Good ps2 -> ps' <+: ps2 -> ybp [.ref p,.int n,.int t] h2 = .ok (.tup [.int r1,.int r2]) h2):=by
 obtain ⟨m,em,sm⟩:=T.meas
 have hb:=htZ g T
 obtain ⟨r1,ps1,h1,d1,T1,_⟩:=zbE (a:=t) S g T tx (by lia)
 have z1:=d1.dd.len
 obtain ⟨r2,ps2,h2,d2,T2,_⟩:=zca (a:=t) d1.dd.sh d1.dd.gd (T.pre d1.dd.pre) tx (by lia)
 rw [zaS T d1.dd.pre] at d2
 refine ⟨r1,r2,ps2,h2,yfI S em (by lia) d1.ev d2.ev,d1.dd.trans d2.dd (by lia),T1.pre d2.dd.pre,T2,fun h3 ps3 S3 g3 p3=>?_⟩
 exact yfI S3 (zac ((d1.dd.pre.trans d2.dd.pre).trans p3) em) (by lia) (d1.re h3 ps3 S3 g3 (d2.dd.pre.trans p3)) (d2.re h3 ps3 S3 g3 p3)
end Sk
namespace Sk
open PySem PySem.Spec L2 Sm
abbrev prV (q : Nat × Str) : AV:=.tup [.int (q.1 : Int),.str q.2]
abbrev iN (e : Nat) : AV:=.int (e : Int)
abbrev dV (w : Str) (a : Nat) (x : Str) (b : Nat) (y : Str) (t e : Nat) : AV:=.tup [.str w,.fl [prV (a,x),prV (b,y)],.int (t : Int),.int (e : Int)]
inductive DK93 (ps : List Pc) : AV -> List Str -> Prop
 | bu {z : Str} (p : yaD z = true) (l : z.length <= 30) : DK93 ps (.tup [.str "built",.fl [],.str z,.int 0]) [z]
 | jo {a b t e : Nat} {x y : Str} (A : TxZ ps a x) (B : TxZ ps b y) (lx : x.length <= 1500) (ly : y.length <= 1500) : DK93 ps (dV "joined" a x b y t e) [x++y]
 | cu {a b t e : Nat} {x y : Str} (A : TxZ ps a x) (lx : x.length <= 1500) (tx : t <= x.length) : DK93 ps (dV "cut" a x b y t e) [tkS x t,dpS x t]
 | pu {a b t e : Nat} {x y : Str} (A : TxZ ps a x) (B : TxZ ps b y) (lx : x.length <= 1500) (ly : y.length <= 1500) (tx : t <= x.length) : DK93 ps (dV "put" a x b y t e) [(tkS x t++y)++dpS x t]
 | ta {a b t e : Nat} {x y : Str} (A : TxZ ps a x) (lx : x.length <= 1500) (te : t <= e) (ex : e <= x.length) : DK93 ps (dV "taken" a x b y t e) [tkS x t++dpS x e]
 | ke {a b t e : Nat} {x y : Str} (A : TxZ ps a x) (lx : x.length <= 1500) (te : t <= e) (ex : e <= x.length) : DK93 ps (dV "kept" a x b y t e) [dpS (tkS x e) t]
 | re {a b k : Nat} {x y : Str} (A : TxZ ps a x) (lx : x.length <= 1500) (hk : k <= 5) : DK93 ps (dV "repeated" a x b y k 0) [repS x k]
theorem zjC (a b : Str) (h : AH) : fEq (.str a) (.str b) h = .ok (.bl (decide (a = b))) h:=by simp
theorem zjD (a b : Str) (h : AH) : fNe (.str a) (.str b) h = .ok (.bl (!decide (a = b))) h:=by simp
theorem zbF {x y : Str} (h : AH) (l : x.length + y.length <= 10000) : fAdd (.str x) (.str y) h = .ok (.str (x++y)) h:=by
 have : x.length + y.length <= sizeLine:=Nat.le_trans l (by decide)
 simp only [fAdd,this,if_true]
theorem zii {x : Str} {b e : Nat} (be : b <= e) (ex : e <= x.length) (h : AH) : ybb (.str x) (some (b : Int)) (some (e : Int)) h = .ok (.str (dpS (tkS x e) b)) h:=by
 have : cutS x (some (b : Int)) (some (e : Int)) = dpS (tkS x e) b:=zad (by
  unfold cutS
  rw [HT.sIx_nat,HT.sIx_nat,ycs,ycr]
  rw [zag] at ex
  rw [Nat.min_eq_left ex,Nat.min_eq_left (by lia)]
  show (x.cps.toList.drop b).take (e - b) = _
  rw [List.drop_take])
 simp only [ybb,this]
theorem mulG {x : Str} {k : Nat} (lx : x.length <= 1500) (hk : k <= 5) (h : AH) : yel (.str x) (.int k) h = .ok (.str (repS x k)) h:=by
 have c1 : ((k : Nat) : Int).natAbs < 2 ^ 40:=by
  have : ((k : Nat) : Int).natAbs = k:=by lia
  rw [this]; exact Nat.lt_of_le_of_lt hk (by decide)
 have c2 : ((k : Nat) : Int).toNat = k:=by lia
 have c3 : x.length * k <= 1000000:=Nat.le_trans (Nat.mul_le_mul lx hk) (by decide)
 show (if ((k : Nat) : Int).natAbs < 2 ^ 40 /\ x.length * ((k : Nat) : Int).toNat <= 1000000 then Out.ok (AV.str (repS x ((k : Nat) : Int).toNat)) h else .bad) = _
 rw [c2,if_pos ⟨c1,c3⟩]
def wEq (a b : Str) : Bool:=decide (a = b)
theorem ybK : wEq "built" "built" = true /\ wEq "joined" "built" = false /\ wEq "joined" "joined" = true /\ wEq "cut" "built" = false /\ wEq "cut" "joined" = false /\ wEq "cut" "cut" = true /\ wEq "put" "built" = false /\ wEq "put" "joined" = false /\ wEq "put" "cut" = false /\ wEq "put" "put" = true /\
  wEq "taken" "built" = false /\ wEq "taken" "joined" = false /\ wEq "taken" "cut" = false /\ wEq "taken" "put" = false /\ wEq "taken" "taken" = true /\ wEq "kept" "built" = false /\ wEq "kept" "joined" = false /\ wEq "kept" "cut" = false /\ wEq "kept" "put" = false /\ wEq "kept" "taken" = false /\ wEq "kept" "kept" = true /\
  wEq "repeated" "built" = false /\ wEq "repeated" "joined" = false /\ wEq "repeated" "cut" = false /\ wEq "repeated" "put" = false /\ wEq "repeated" "taken" = false /\ wEq "repeated" "kept" = false /\ wEq "repeated" "repeated" = true /\
  wEq "joined" "repeated" = false /\ wEq "cut" "repeated" = false /\ wEq "put" "repeated" = false /\ wEq "taken" "repeated" = false /\ wEq "kept" "repeated" = false /\ wEq "joined" "put" = false /\ wEq "joined" "cut" = false:=by decide +kernel
theorem zaq (a b : Str) (h : AH) : fEq (.str a) (.str b) h = .ok (.bl (wEq a b)) h:=zjC a b h
theorem zcb (a b : Str) (h : AH) : fNe (.str a) (.str b) h = .ok (.bl (!wEq a b)) h:=zjD a b h
theorem ix_0 (u w : AV) (hh : AH) : fIx (.fl [u,w]) (.int 0) hh = .ok u hh:=rfl
theorem ix_1 (u w : AV) (hh : AH) : fIx (.fl [u,w]) (.int 1) hh = .ok w hh:=rfl
theorem yct (u w : AV) (hh : AH) : fIx (.tup [u,w]) (.int 0) hh = .ok u hh:=rfl
theorem yda (u w : AV) (hh : AH) : fIx (.tup [u,w]) (.int 1) hh = .ok w hh:=rfl
theorem zjE {ps : List Pc} {d : AV} {zs : List Str} (D : DK93 ps d zs) (h : AH) : ybe [d] h = .ok (.fl (zs.map AV.str)) h:=by
 obtain ⟨w1,w2,w3,w4,w5,w6,w7,w8,w9,w10,w11,w12,w13,w14,w15,w16,w17,w18,w19,w20,w21,w22,w23,w24,w25,w26,w27,w28,_⟩:=ybK
 cases D with
 | bu p l=>simp [ybe,zaq,w1,-fEq]
 | @jo a b t e x y A B lx ly =>
  have ad:=zbF (x:=x) (y:=y) h (by lia)
  simp [ybe,zaq,w2,w3,ix_0,ix_1,yda,ad,-fEq,-fIx,-fAdd]
 | @cu a b t e x y A lx tx =>
  have c1:=yer (x:=x) (a:=t) h
  have c2:=yes tx h
  simp [ybe,zaq,w4,w5,w6,ix_0,ix_1,yda,c1,c2,-fEq,-fIx,-ybb]
 | @pu a b t e x y A B lx ly tx =>
  have c1:=yer (x:=x) (a:=t) h
  have c2:=yes tx h
  have tl:=yc1 tx
  have dl:=ydv x t
  have al:=zai (tkS x t) y
  have ad:=zbF (x:=tkS x t) (y:=y) h (by lia)
  have ad2:=zbF (x:=tkS x t++y) (y:=dpS x t) h (by lia)
  simp [ybe,zaq,w7,w8,w9,w10,ix_0,ix_1,yda,c1,c2,ad,ad2,-fEq,-fIx,-ybb,-fAdd]
 | @ta a b t e x y A lx te ex =>
  have c1:=yer (x:=x) (a:=t) h
  have c2:=yes ex h
  have tl:=yc1 (x:=x) (a:=t) (by lia)
  have dl:=ydv x e
  have ad:=zbF (x:=tkS x t) (y:=dpS x e) h (by lia)
  simp [ybe,zaq,w11,w12,w13,w14,w15,ix_0,ix_1,yda,c1,c2,ad,-fEq,-fIx,-ybb,-fAdd]
 | @ke a b t e x y A lx te ex =>
  have c1:=zii te ex h
  simp [ybe,zaq,w16,w17,w18,w19,w20,w21,ix_0,ix_1,yda,c1,-fEq,-fIx,-ybb]
 | @re a b k x y A lx hk =>
  have mu:=mulG lx hk h
  simp [ybe,zaq,w22,w23,w24,w25,w26,w27,ix_0,ix_1,yda,mu,-fEq,-fIx,-yel]
end Sk
namespace Sk
open PySem PySem.Spec L2 Sm
def TT (ps : List Pc) (rs : List Nat) (zs : List Str) : Prop:=rs.length = zs.length /\ ∀ (j : Nat) (r : Nat) (z : Str),rs[j]? = some r -> zs[j]? = some z -> TxZ ps r z
theorem TT.pre {ps ps' : List Pc} {rs : List Nat} {zs : List Str} (t : TT ps rs zs) (h : ps <+: ps') : TT ps' rs zs:=⟨t.1,fun j r z e1 e2=>(t.2 j r z e1 e2).pre h⟩
theorem TT.one {ps : List Pc} {r : Nat} {z : Str} (t : TxZ ps r z) : TT ps [r] [z]:=⟨rfl,fun j r' z' e1 e2=>by
 cases j with
 | zero=>cases e1; cases e2; exact t
 | succ j=>cases e1⟩
theorem TT.two {ps : List Pc} {r s : Nat} {z y : Str} (t : TxZ ps r z) (u : TxZ ps s y) : TT ps [r,s] [z,y]:=⟨rfl,fun j r' z' e1 e2=>by
 cases j with
 | zero=>cases e1; cases e2; exact t
 | succ j =>
  cases j with
  | zero=>cases e1; cases e2; exact u
  | succ j=>cases e1⟩
def Again (ps : List Pc) (d : AV) (rs : List Nat) : Prop:=∀ h2 ps2,ShelfAt h2 0 ps2 -> Good ps2 -> ps <+: ps2 -> yaB [.ref 0,d] h2 = .ok (.fl (rs.map iN)) h2
theorem Again.pre {ps ps' : List Pc} {d : AV} {rs : List Nat} (a : Again ps d rs) (h : ps <+: ps') : Again ps' d rs:=fun h2 ps2 S g p=>a h2 ps2 S g (h.trans p)
theorem zaY {F : AH -> Out AV} {d : AV} {h h' : AH} {ps ps' : List Pc} {k n K : Nat} {z : Str} (dn : Dn F 0 h h' ps ps' k n) (hk : k <= K) (T : TxZ ps' n z) (ev : ∀ hh h2,F hh = .ok (.int n) h2 -> yaB [.ref 0,d] hh = .ok (.fl [.int n]) h2) :
  yaB [.ref 0,d] h = .ok (.fl ([n].map iN)) h' /\ Dd 0 h h' ps ps' K /\ TT ps' [n] [z] /\ Again ps' d [n] :=
 ⟨ev h h' dn.ev,{ dn.dd with len:=Nat.le_trans dn.dd.len (Nat.add_le_add_left hk _) },.one T,fun h2 ps2 S g p=>ev h2 h2 (dn.re h2 ps2 S g p)⟩
theorem max2 (a b : Int) (h : AH) : yce [.int a,.int b] h = .ok (.int (max a b)) h:=by
 have : (if a < b then b else a) = max a b:=by split<;>lia
 simp [yce,this]
theorem yh0 {h h2 : AH} {n : Nat} {z : Str} (e : ych [.ref 0,.str z] h = .ok (.int n) h2) : yaB [.ref 0,.tup [.str "built",.fl [],.str z,.int 0]] h = .ok (.fl [.int n]) h2:=by
 unfold yaB
 generalize ych = FB at *
 simp [zaq,ybK,e,-fEq]
theorem yh1 {h h2 : AH} {n a b t e : Nat} {x y : Str} (q : yaq [.ref 0,.int a,.int b] h = .ok (.int n) h2) : yaB [.ref 0,dV "joined" a x b y t e] h = .ok (.fl [.int n]) h2:=by
 unfold yaB
 generalize yaq = FB at *
 simp [zaq,ybK,ix_0,ix_1,yct,q,-fEq,-fIx]
theorem yfW {h h2 : AH} {r1 r2 a b t e : Nat} {x y : Str} (q : ybp [.ref 0,.int a,.int t] h = .ok (.tup [.int r1,.int r2]) h2) : yaB [.ref 0,dV "cut" a x b y t e] h = .ok (.fl ([r1,r2].map iN)) h2:=by
 unfold yaB
 generalize ybp = FB at *
 generalize yaq = FJ at *
 simp [zaq,ybK,ix_0,ix_1,yct,q,-fEq,-fIx]
theorem yh2 {h h2 : AH} {n a b t e : Nat} {x y : Str} (q : ybz [.ref 0,.int a,.int t,.int b] h = .ok (.int n) h2) : yaB [.ref 0,dV "put" a x b y t e] h = .ok (.fl [.int n]) h2:=by
 unfold yaB
 generalize ybz = FB at *
 generalize ybp = FC at *
 generalize yaq = FJ at *
 simp [zaq,ybK,ix_0,ix_1,yct,q,-fEq,-fIx]
theorem yh3 {h h2 : AH} {n a b t e : Nat} {x y : Str} (q : ybk [.ref 0,.int a,.int t,.int e] h = .ok (.int n) h2) : yaB [.ref 0,dV "taken" a x b y t e] h = .ok (.fl [.int n]) h2:=by
 unfold yaB
 generalize ybk = FB at *
 generalize ybz = FP at *
 generalize ybp = FC at *
 generalize yaq = FJ at *
 simp [zaq,ybK,ix_0,ix_1,yct,q,-fEq,-fIx]
theorem yh4 {h h2 : AH} {n a b t e : Nat} {x y : Str} (q : ybv [.ref 0,.int a,.int t,.int e] h = .ok (.int n) h2) : yaB [.ref 0,dV "kept" a x b y t e] h = .ok (.fl [.int n]) h2:=by
 unfold yaB
 generalize ybv = FB at *
 generalize ybk = FT at *
 generalize ybz = FP at *
 generalize ybp = FC at *
 generalize yaq = FJ at *
 simp [zaq,ybK,ix_0,ix_1,yct,q,-fEq,-fIx]
theorem yh5 {h h2 : AH} {n a b k : Nat} {x y : Str} (q : ybD [.ref 0,.int a,.int k] h = .ok (.int n) h2) : yaB [.ref 0,dV "repeated" a x b y k 0] h = .ok (.fl [.int n]) h2:=by
 unfold yaB
 generalize ybD = FB at *
 generalize ybv = FK at *
 generalize ybk = FT at *
 generalize ybz = FP at *
 generalize ybp = FC at *
 generalize yaq = FJ at *
 simp [zaq,ybK,ix_0,ix_1,yct,q,-fEq,-fIx]
theorem yh6 {h : AH} {z : Str} : yaQ [.ref 0,.tup [.str "built",.fl [],.str z,.int 0]] h = .ok (.int (-1)) h:=by
 simp [yaQ,zaq,ybK,-fEq]
theorem yh7 {h : AH} {a b k : Nat} {x y : Str} : yaQ [.ref 0,dV "repeated" a x b y k 0] h = .ok (.int (-1)) h:=by
 simp [yaQ,zaq,ybK,-fEq]
theorem yfc (h : AH) : (∀ i : Int,fMul (.int 16) (.int i) h = .ok (.int (16 * i)) h) /\ (∀ i : Int,fMul (.int 64) (.int i) h = .ok (.int (64 * i)) h) /\ (∀ i : Int,fMul (.int 200) (.int i) h = .ok (.int (200 * i)) h) /\ (∀ i : Int,fAdd (.int i) (.int 1) h = .ok (.int (i + 1)) h) /\
  fIx (.fl [.int 64,.int 200]) (.int 0) h = .ok (.int 64) h /\ fIx (.fl [.int 64,.int 200]) (.int 1) h = .ok (.int 200) h /\ fInt [.bl false] h = .ok (.int 0) h /\ fInt [.bl true] h = .ok (.int 1) h :=
 ⟨fun _=>yeW (by decide),fun _=>yeW (by decide),fun _=>yeW (by decide),fun _=>rfl,rfl,rfl,rfl,rfl⟩
theorem yh8 {h : AH} {ps : List Pc} {a b t e : Nat} {x y : Str} (S : ShelfAt h 0 ps) (A : TxZ ps a x) (B : TxZ ps b y) : yaQ [.ref 0,dV "joined" a x b y t e] h = .ok (.int (16 * (max (htOf ps a) (htOf ps b) + 1))) h:=by
 have ob:=S.ob
 have ha:=za2 S A
 have hb:=za2 S B
 have mx:=max2 (htOf ps a) (htOf ps b) h
 have ar:=yfc h
 clear S A B
 generalize max (htOf ps a) (htOf ps b) = MX at *
 unfold yaQ
 generalize yaz = FH at *
 simp [zaq,ybK,ix_0,ix_1,yct,ob,ha,hb,mx,ar,-fEq,-fIx,-yce,-fMul,-fAdd]
theorem yh9 {h : AH} {ps : List Pc} {a b t e : Nat} {x y : Str} (S : ShelfAt h 0 ps) (A : TxZ ps a x) (B : TxZ ps b y) : yaQ [.ref 0,dV "put" a x b y t e] h = .ok (.int (200 * (max (htOf ps a) (htOf ps b) + 1))) h:=by
 have ob:=S.ob
 have ha:=za2 S A
 have hb:=za2 S B
 have mx:=max2 (htOf ps a) (htOf ps b) h
 have ar:=yfc h
 clear S A B
 generalize max (htOf ps a) (htOf ps b) = MX at *
 unfold yaQ
 generalize yaz = FH at *
 simp [zaq,zcb,ybK,ix_0,ix_1,yct,ob,ha,hb,mx,ar,-fEq,-fNe,-fIx,-yce,-fMul,-fAdd,-fInt]
theorem rm_1 {h : AH} {ps : List Pc} {a b t e : Nat} {x y : Str} (S : ShelfAt h 0 ps) (A : TxZ ps a x) : yaQ [.ref 0,dV "cut" a x b y t e] h = .ok (.int (64 * (htOf ps a + 1))) h /\ yaQ [.ref 0,dV "taken" a x b y t e] h = .ok (.int (200 * (htOf ps a + 1))) h /\ yaQ [.ref 0,dV "kept" a x b y t e] h = .ok (.int (200 * (htOf ps a + 1))) h:=by
 have ob:=S.ob
 have ha:=za2 S A
 have ar:=yfc h
 have w1 : wEq "cut" "put" = false /\ wEq "kept" "put" = false:=by decide +kernel
 clear S A
 generalize htOf ps a = MX at *
 unfold yaQ
 generalize yaz = FH at *
 refine ⟨?_,?_,?_⟩
 ·simp [zaq,zcb,ybK,w1,ix_0,ix_1,yct,ob,ha,ar,-fEq,-fNe,-fIx,-fMul,-fAdd,-fInt]
 ·simp [zaq,zcb,ybK,w1,ix_0,ix_1,yct,ob,ha,ar,-fEq,-fNe,-fIx,-fMul,-fAdd,-fInt]
 ·simp [zaq,zcb,ybK,w1,ix_0,ix_1,yct,ob,ha,ar,-fEq,-fNe,-fIx,-fMul,-fAdd,-fInt]
theorem zij {h : AH} {ps : List Pc} {d : AV} {zs : List Str} (S : ShelfAt h 0 ps) (g : Good ps) (D : DK93 ps d zs) (hz : ps.length < 12000000) :
  ∃ (rs : List Nat) (ps' : List Pc) (h' : AH) (R : Int),yaQ [.ref 0,d] h = .ok (.int R) h /\ (yaB [.ref 0,d] h = .ok (.fl (rs.map iN)) h' /\ Dd 0 h h' ps ps' 20000 /\ TT ps' rs zs /\ Again ps' d rs) /\ (R < 0 \/ (ps'.length : Int) - ps.length <= R) /\ (rs.length = 1 \/ rs.length = 2):=by
 cases D with
 | @bu z p l =>
  obtain ⟨n,ps',h',dn,T⟩:=zjm S g p (by lia) (by lia)
  exact ⟨[n],ps',h',-1,yh6,zaY dn (by lia) T (fun _ _=>yh0),.inl (by decide),.inl rfl⟩
 | @jo a b t e x y A B lx ly =>
  have ra:=htZ g A
  have rb:=htZ g B
  obtain ⟨n,ps',h',dn,T⟩:=zcD S g A B (by lia) (by lia)
  have lk:=dn.dd.len
  exact ⟨[n],ps',h',_,yh8 S A B,zaY dn (by lia) T (fun _ _=>yh1),.inr (by lia),.inl rfl⟩
 | @cu a b t e x y A lx tx =>
  have ra:=htZ g A
  obtain ⟨r1,r2,ps',h',ev,D1,T1,T2,re⟩:=yhb S g A tx (by lia)
  have lk:=D1.len
  exact ⟨[r1,r2],ps',h',_,(rm_1 S A).1,⟨yfW ev,{ D1 with len:=by lia },.two T1 T2,fun h2 ps2 S2 g2 p2=>yfW (re h2 ps2 S2 g2 p2)⟩,.inr (by lia),.inr rfl⟩
 | @pu a b t e x y A B lx ly tx =>
  have ra:=htZ g A
  have rb:=htZ g B
  obtain ⟨n,ps',h',dn,T⟩:=yha S g A B tx (by lia) (by lia)
  have lk:=dn.dd.len
  exact ⟨[n],ps',h',_,yh9 S A B,zaY dn (by lia) T (fun _ _=>yh2),.inr (by lia),.inl rfl⟩
 | @ta a b t e x y A lx te ex =>
  have ra:=htZ g A
  obtain ⟨n,ps',h',dn,T⟩:=zih S g A te ex (by lia) (by lia)
  have lk:=dn.dd.len
  exact ⟨[n],ps',h',_,(rm_1 S A).2.1,zaY dn (by lia) T (fun _ _=>yh3),.inr (by lia),.inl rfl⟩
 | @ke a b t e x y A lx te ex =>
  have ra:=htZ g A
  obtain ⟨n,ps',h',dn,T⟩:=zjB S g A te ex (by lia)
  have lk:=dn.dd.len
  exact ⟨[n],ps',h',_,(rm_1 S A).2.2,zaY dn (by lia) T (fun _ _=>yh4),.inr (by lia),.inl rfl⟩
 | @re a b k x y A lx hk =>
  have lm : x.length * k <= 7500:=Nat.le_trans (Nat.mul_le_mul lx hk) (by decide)
  obtain ⟨n,ps',h',dn,T⟩:=zgl (e:=3) (k:=k) S g A (Nat.lt_of_le_of_lt hk (by decide)) (by decide) (by lia) (by lia)
  exact ⟨[n],ps',h',-1,yh7,zaY dn (by lia) T (fun _ _=>yh5),.inl (by decide),.inl rfl⟩
end Sk
namespace Sk
open PySem PySem.Spec L2 Sm
structure Gx (p : Nat) (M : List Nat) (h h' : AH) (ps ps' : List Pc) (k : Nat) : Prop where
 sh : ShelfAt h' p ps'
 gd : Good ps'
 pre : ps <+: ps'
 len : ps'.length <= ps.length + k
 fr : ∀ i,(i < p \/ p + 8 < i) -> i ∉ M -> i < h.length -> h'[i]? = h[i]?
 hl : h.length <= h'.length
theorem Gx.refl {p : Nat} {h : AH} {ps : List Pc} (S : ShelfAt h p ps) (g : Good ps) (M : List Nat) : Gx p M h h ps ps 0:=⟨S,g,List.prefix_refl _,by lia,fun _ _ _ _=>rfl,Nat.le_refl _⟩
theorem Gx.trans {p : Nat} {M : List Nat} {h h' h'' : AH} {ps ps' ps'' : List Pc} {k k' k2 : Nat} (a : Gx p M h h' ps ps' k) (b : Gx p M h' h'' ps' ps'' k') (hk : k + k' <= k2) : Gx p M h h'' ps ps'' k2 :=
 ⟨b.sh,b.gd,a.pre.trans b.pre,by have:=a.len; have:=b.len; lia,fun i hi hn hl=>(b.fr i hi hn (Nat.lt_of_lt_of_le hl a.hl)).trans (a.fr i hi hn hl),Nat.le_trans a.hl b.hl⟩
theorem Gx.set {p L : Nat} {h : AH} {ps : List Pc} (S : ShelfAt h p ps) (g : Good ps) (hL : L < p \/ p + 8 < L) (M : List Nat) (hM : L ∈ M) (v : AO) : Gx p M h (h.set L v) ps ps 0 :=
 ⟨S.keep fun i i1 i8=>List.getElem?_set_ne (by lia),g,List.prefix_refl _,by lia,fun i _ hn _=>List.getElem?_set_ne (fun (z : L = i)=>hn (z ▸ hM)),by simp⟩
theorem Gx.dd {p : Nat} {M : List Nat} {h h' : AH} {ps ps' : List Pc} {k k2 : Nat} (d : Dd p h h' ps ps' k) (hk : k <= k2) : Gx p M h h' ps ps' k2 :=
 ⟨d.sh,d.gd,d.pre,Nat.le_trans d.len (Nat.add_le_add_left hk _),fun i hi _ _=>d.fr i (hi.imp Nat.le_of_lt id),by rw [d.hl]; exact Nat.le_refl _⟩
theorem Gx.app {p : Nat} {M : List Nat} {h h' : AH} {ps ps' : List Pc} {k : Nat} (a : Gx p M h h' ps ps' k) (r : AH) : Gx p M h (h' ++ r) ps ps' k :=
 ⟨a.sh.app r,a.gd,a.pre,a.len,fun i hi hn hl=>by rw [List.getElem?_append_left (Nat.lt_of_lt_of_le hl a.hl)]; exact a.fr i hi hn hl,by rw [List.length_append]; exact Nat.le_trans a.hl (Nat.le_add_right _ _)⟩
theorem Gx.more {p : Nat} {M M' : List Nat} {h h' : AH} {ps ps' : List Pc} {k : Nat} (a : Gx p M h h' ps ps' k) (s : ∀ i ∈ M,i ∈ M') : Gx p M' h h' ps ps' k :=
 ⟨a.sh,a.gd,a.pre,a.len,fun i hi hn hl=>a.fr i hi (fun z=>hn (s i z)) hl,a.hl⟩
theorem zjF (y : Str) (h : AH) : fNe (.str y) (.str y) h = .ok (.bl false) h:=by simp
theorem zdo {h : AH} {ps : List Pc} {n : Nat} {z : Str} (S : ShelfAt h 0 ps) (g : Good ps) (T : TxZ ps n z) (l : z.length <= 1500) (o1 o2 o3 o4 o5 : Option AV) :
  ∃ r : AH,ybq [some (.ref 0),o1,o2,o3,o4,o5,some (.int n),some (.str z)] h = .nx [some (.ref 0),o1,o2,o3,o4,o5,some (.int n),some (.str z)] (h++r):=by
 obtain ⟨r1,e1⟩:=yeq S g T (by lia)
 obtain ⟨r2,e2⟩:=zjx (S.app r1) g T (by lia)
 refine ⟨r1++r2,?_⟩
 have ne:=zjF z (h++r1)
 rw [List.append_assoc] at e2
 clear S T
 unfold ybq
 generalize ybc = FR at *
 generalize ybP = FS at *
 generalize h++(r1++r2) = h2 at *
 generalize h++r1 = h1 at *
 simp [e1,e2,ne,-fNe]
theorem zhj {h : AH} {ps : List Pc} {d : AV} {zs : List Str} (S : ShelfAt h 0 ps) (g : Good ps) (D : DK93 ps d zs) (hl : ∀ z ∈ zs,z.length <= 1500) (hz : ps.length < 12000000) :
  ∃ (rs : List Nat) (ps' : List Pc) (h' : AH),ycd [.ref 0,d,.fl (zs.map AV.str)] h = .ok (.fl (rs.map iN)) h' /\ Gx 0 [] h h' ps ps' 20000 /\ TT ps' rs zs /\ Again ps' d rs /\ (rs.length = 1 \/ rs.length = 2):=by
 obtain ⟨rs,ps',h1,R,rm,⟨dn,D1,T,ag⟩,hR,l2⟩:=zij S g D hz
 have m0:=yeo S
 have m1:=yeo D1.sh
 have ob:=S.ob
 have ob1:=D1.sh.ob
 have ge : ∃ b,fGe (.int R) (.int 0) h1 = .ok (.bl b) h1 /\ (b = true -> fGt (.int ((ps'.length : Int) - ps.length)) (.int R) h1 = .ok (.bl false) h1):=by
  by_cases q : 0 <= R
  ·refine ⟨true,by simp [q],fun _=>?_⟩
   have : ¬ R < (ps'.length : Int) - ps.length:=by rcases hR with z | z<;>lia
   simp only [fGt,this,decide_false]
  ·exact ⟨false,by simp [q],nofun⟩
 obtain ⟨b,ge1,ge2⟩:=ge
 have loop : ∃ (r : AH) (o6 o7 : Option AV),ydy (yem (sVar 5) (sVar 2)) (.tup [6,7]) ybq [some (.ref 0),some d,some (.fl (zs.map AV.str)),some (.int ps.length),some (.int R),some (.fl (rs.map iN)),none,none] h1 =
   .nx [some (.ref 0),some d,some (.fl (zs.map AV.str)),some (.int ps.length),some (.int R),some (.fl (rs.map iN)),o6,o7] (h1++r):=by
  have lz:=T.1
  rcases l2 with q | q
  ·match rs,zs,q,lz,T,hl with
   | [n],[z],_,_,T,hl =>
    obtain ⟨r,e⟩:=zdo D1.sh D1.gd (T.2 0 n z rfl rfl) (hl z (by simp)) (some d) (some (.fl [.str z])) (some (.int ps.length)) (some (.int R)) (some (.fl [iN n]))
    refine ⟨r,some (.int n),some (.str z),?_⟩
    clear T hl D rm dn ge2 ge1 ag
    generalize ybq = BB at *
    simp [ydy,ya7,ybj,ybi,e]
  ·match rs,zs,q,lz,T,hl with
   | [n,m],[z,y],_,_,T,hl =>
    obtain ⟨r,e⟩:=zdo D1.sh D1.gd (T.2 0 n z rfl rfl) (hl z (by simp)) (some d) (some (.fl [.str z,.str y])) (some (.int ps.length)) (some (.int R)) (some (.fl [iN n,iN m]))
    obtain ⟨r2,e2⟩:=zdo (D1.sh.app r) D1.gd (T.2 1 m y rfl rfl) (hl y (by simp)) (some d) (some (.fl [.str z,.str y])) (some (.int ps.length)) (some (.int R)) (some (.fl [iN n,iN m]))
    rw [List.append_assoc] at e2
    refine ⟨r++r2,some (.int m),some (.str y),?_⟩
    clear T hl D rm dn ge2 ge1 ag
    generalize ybq = BB at *
    generalize h1++(r++r2) = h3 at *
    generalize h1++r = h2 at *
    simp [ydy,ya7,ybj,ybi,e,e2]
 obtain ⟨r,o6,o7,lp⟩:=loop
 refine ⟨rs,ps',h1++r,?_,(Gx.dd D1 (Nat.le_refl _)).app r,T,ag,l2⟩
 have sb : fSub (.int ps'.length) (.int ps.length) h1 = .ok (.int ((ps'.length : Int) - ps.length)) h1:=rfl
 clear T ag D hl hR S D1
 unfold ycd
 generalize yaQ = FR at *
 generalize yaB = FD at *
 generalize hF : ydy (yem (sVar 5) (sVar 2)) (.tup [6,7]) ybq = FG at *
 generalize (ps'.length : Int) - ps.length = PD at *
 generalize (ps'.length : Int) = P1 at *
 generalize (ps.length : Int) = P0 at *
 generalize zs.map AV.str = ZS at *
 generalize rs.map iN = RS at *
 generalize h1++r = h2 at *
 cases b with
 | true =>
  have ge3:=ge2 rfl
  simp [m0,m1,ob,ob1,rm,dn,ge1,sb,ge3,lp,-fGe,-fGt,-fSub]
 | false=>simp [m0,m1,ob,ob1,rm,dn,ge1,lp,-fGe,-fGt,-fSub]
def Rw (L : Nat) (h : AH) (row : AV) (qs : List (Nat × Str)) : Prop:=row = .fl (qs.map prV) \/ ∃ R,row = .ref R /\ 9 < R /\ R < L /\ h[R]? = some (.lst (qs.map prV))
theorem Rw.keep {L : Nat} {h h' : AH} {ps ps' : List Pc} {k : Nat} {row : AV} {qs : List (Nat × Str)} (w : Rw L h row qs) (G : Gx 0 [L] h h' ps ps' k) : Rw L h' row qs:=by
 rcases w with e | ⟨R,e,a,b,c⟩
 ·exact .inl e
 ·exact .inr ⟨R,e,a,b,(G.fr R (.inr (by lia)) (by simp; lia) (ya3 c)).trans c⟩
theorem Rw.len {L : Nat} {h : AH} {row : AV} {qs : List (Nat × Str)} (w : Rw L h row qs) : fLen [row] h = .ok (.int qs.length) h:=by
 rcases w with rfl | ⟨R,rfl,_,_,c⟩
 ·simp only [fLen,List.length_map]
 ·simp only [fLen,c,List.length_map]
theorem Rw.ix {L : Nat} {h : AH} {row : AV} {qs : List (Nat × Str)} (w : Rw L h row qs) {u : Nat} {q : Nat × Str} (e : qs[u]? = some q) : fIx row (.int u) h = .ok (prV q) h:=by
 rcases w with rfl | ⟨R,rfl,_,_,c⟩
 ·simp only [fIx,zeo (f:=prV) e]
 ·simp only [fIx,c,zeo (f:=prV) e]
def FP (ps : List Pc) (qs : List (Nat × Str)) : Prop:=∀ q ∈ qs,TxZ ps q.1 q.2 /\ q.2.length <= 1500
theorem tk93 {h : AH} {L : Nat} {ps : List Pc} (S : ShelfAt h 0 ps) (g : Good ps) (hL : 0 + 8 < L) (e : ∃ N : Int,h[L]? = some (.lst [.int N])) (m : Nat) (hm : 0 < m) (hm2 : m <= 10 ^ 50) :
  ∃ (v : Nat) (h' : AH),v < m /\ yax [.ref L,.int m] h = .ok (.int v) h' /\ Gx 0 [L] h h' ps ps 0 /\ ∃ N : Int,h'[L]? = some (.lst [.int N]):=by
 obtain ⟨N,e⟩:=e
 obtain ⟨v,N',hv,t⟩:=zbq m e hm hm2
 exact ⟨v,_,hv,t,Gx.set S g (.inr hL) [L] (by simp) _,N',List.getElem?_set_self (ya3 e)⟩
end Sk
namespace Sk
open PySem PySem.Spec L2 Sm
theorem ydP (h : AH) : fIx (.fl [.str "joined",.str "cut",.str "put",.str "taken",.str "kept"]) (.int 0) h = .ok (.str "joined") h /\ fIx (.fl [.str "joined",.str "cut",.str "put",.str "taken",.str "kept"]) (.int 1) h = .ok (.str "cut") h /\ fIx (.fl [.str "joined",.str "cut",.str "put",.str "taken",.str "kept"]) (.int 2) h = .ok (.str "put") h /\
  fIx (.fl [.str "joined",.str "cut",.str "put",.str "taken",.str "kept"]) (.int 3) h = .ok (.str "taken") h /\ fIx (.fl [.str "joined",.str "cut",.str "put",.str "taken",.str "kept"]) (.int 4) h = .ok (.str "kept") h:=⟨rfl,rfl,rfl,rfl,rfl⟩
theorem zjG {ps : List Pc} {kd a b t e : Nat} {x y : Str} (k1 : 1 <= kd) (k5 : kd <= 5) (A : TxZ ps a x) (B : TxZ ps b y) (lx : x.length <= 1500) (ly : y.length <= 1500) (te : t <= e) (ex : e <= x.length) :
  ∃ (w : Str) (zs : List Str),(∀ h,fIx (.fl [.str "joined",.str "cut",.str "put",.str "taken",.str "kept"]) (.int ((kd : Int) - 1)) h = .ok (.str w) h) /\ DK93 ps (dV w a x b y t e) zs:=by
 have : kd = 1 \/ kd = 2 \/ kd = 3 \/ kd = 4 \/ kd = 5:=by lia
 rcases this with rfl | rfl | rfl | rfl | rfl
 ·exact ⟨_,_,fun h=>(ydP h).1,.jo A B lx ly⟩
 ·exact ⟨_,_,fun h=>(ydP h).2.1,.cu A lx (by lia)⟩
 ·exact ⟨_,_,fun h=>(ydP h).2.2.1,.pu A B lx ly (by lia)⟩
 ·exact ⟨_,_,fun h=>(ydP h).2.2.2.1,.ta A lx te ex⟩
 ·exact ⟨_,_,fun h=>(ydP h).2.2.2.2,.ke A lx te ex⟩
theorem zjH (v : Nat) (hv : v < 3) : ∃ m : Nat,m <= 30 /\ ∀ h,fIx (.fl [.int 3,.int 9,.int 30]) (.int v) h = .ok (.int m) h:=by
 have : v = 0 \/ v = 1 \/ v = 2:=by lia
 rcases this with rfl | rfl | rfl
 ·exact ⟨3,by decide,fun _=>rfl⟩
 ·exact ⟨9,by decide,fun _=>rfl⟩
 ·exact ⟨30,by decide,fun _=>rfl⟩
theorem zhk {h : AH} {L : Nat} {ps : List Pc} {row : AV} {qs : List (Nat × Str)} (S : ShelfAt h 0 ps) (g : Good ps) (hL : 9 < L) (st : ∃ N : Int,h[L]? = some (.lst [.int N])) (W : Rw L h row qs) (F : FP ps qs) (l2 : qs.length <= 8) :
  ∃ (d : AV) (zs : List Str) (h' : AH),ybu [row,.ref L] h = .ok d h' /\ DK93 ps d zs /\ Gx 0 [L] h h' ps ps 0 /\ ∃ N : Int,h'[L]? = some (.lst [.int N]):=by
 obtain ⟨kd,h1,hk,t1,G1,r1⟩:=tk93 S g (by lia) st 7 (by decide) (by decide)
 have t1' : yax [.ref L,.int 7] h = .ok (.int kd) h1:=t1
 have W1:=W.keep G1
 have f1:=W1.len
 have eq0 : fEq (.int kd) (.int 0) h1 = .ok (.bl (decide (kd = 0))) h1:=by
  have : decide ((kd : Int) = 0) = decide (kd = 0):=by congr 1; exact propext ⟨fun e=>by lia,fun e=>by lia⟩
  simp [this]
 have lt2 : fLt (.int qs.length) (.int 2) h1 = .ok (.bl (decide (qs.length < 2))) h1:=by
  have : decide ((qs.length : Int) < 2) = decide (qs.length < 2):=by congr 1; exact propext ⟨fun e=>by lia,fun e=>by lia⟩
  simp only [fLt,this]
 by_cases q : qs.length < 2 \/ kd = 0
 ·obtain ⟨v,h2,hv,t2,G2,N2,r2⟩:=tk93 G1.sh g (by lia) r1 3 (by decide) (by decide)
  have t2' : yax [.ref L,.int 3] h1 = .ok (.int v) h2:=t2
  obtain ⟨m,hm,im⟩:=zjH v hv
  obtain ⟨z,N3,e3,pz,lz⟩:=zgk m (by lia) r2
  have G3 : Gx 0 [L] h2 (h2.set L (.lst [.int N3])) ps ps 0:=Gx.set G2.sh g (.inr (by lia)) [L] (by simp) _
  refine ⟨_,[z],h2.set L (.lst [.int N3]),?_,.bu pz (by lia),(G1.trans G2 (Nat.le_refl _)).trans G3 (Nat.le_refl _),N3,List.getElem?_set_self (ya3 r2)⟩
  have im2:=im h2
  clear G1 G2 G3 S W W1 F im
  generalize h2.set L (.lst [.int N3]) = h3 at *
  unfold ybu
  generalize yax = FT at *
  generalize yca = FPl at *
  rcases q with q | q
  ·simp [t1',f1,lt2,q,t2',im2,e3,-fLen,-fLt,-fEq,-fIx]
  ·by_cases q2 : qs.length < 2
   ·simp [t1',f1,lt2,q2,t2',im2,e3,-fLen,-fLt,-fEq,-fIx]
   ·have e0 : fEq (.int kd) (.int 0) h1 = .ok (.bl true) h1:=by rw [eq0,decide_eq_true q]
    have l0 : fLt (.int qs.length) (.int 2) h1 = .ok (.bl false) h1:=by rw [lt2,decide_eq_false q2]
    clear q eq0 lt2
    simp [t1',f1,l0,e0,t2',im2,e3,-fLen,-fLt,-fEq,-fIx]
 ·have q1 : ¬ qs.length < 2:=fun z=>q (.inl z)
  have q0 : ¬ kd = 0:=fun z=>q (.inr z)
  obtain ⟨u,h2,hu,t2,G2,r2⟩:=tk93 G1.sh g (by lia) r1 qs.length (by lia) (Nat.le_trans l2 (by decide))
  have W2:=W1.keep G2
  obtain ⟨⟨a,x⟩,ea⟩ : ∃ q,qs[u]? = some q:=⟨_,List.getElem?_eq_getElem hu⟩
  have i2:=W2.ix ea
  have f2:=W2.len
  obtain ⟨w,h3,hw,t3,G3,r3⟩:=tk93 G2.sh g (by lia) r2 qs.length (by lia) (Nat.le_trans l2 (by decide))
  have W3:=W2.keep G3
  obtain ⟨⟨b,y⟩,eb⟩ : ∃ q,qs[w]? = some q:=⟨_,List.getElem?_eq_getElem hw⟩
  have i3:=W3.ix eb
  have A:=F _ (List.mem_of_getElem? ea)
  have B:=F _ (List.mem_of_getElem? eb)
  have A1 : TxZ ps a x:=A.1
  have B1 : TxZ ps b y:=B.1
  have A2 : x.length <= 1500:=A.2
  have B2 : y.length <= 1500:=B.2
  obtain ⟨t,h4,ht,t4,G4,r4⟩:=tk93 G3.sh g (by lia) r3 (x.length + 1) (by lia) (Nat.le_trans (m:=1501) (by lia) (by decide))
  have t4' : yax [.ref L,.int ((x.length : Int) + 1)] h3 = .ok (.int t) h4:=t4
  have adl : fAdd (.int x.length) (.int 1) h3 = .ok (.int ((x.length : Int) + 1)) h3:=rfl
  have lnx : fLen [.str x] h3 = .ok (.int x.length) h3:=rfl
  have G14:=((G1.trans G2 (Nat.le_refl _)).trans G3 (Nat.le_refl _)).trans G4 (Nat.le_refl _)
  by_cases k6 : kd < 6
  ·obtain ⟨c,h5,hc,t5,G5,r5⟩:=tk93 G4.sh g (by lia) r4 (x.length - t + 1) (by lia) (Nat.le_trans (m:=1501) (by lia) (by decide))
   have sb5 : fSub (.int x.length) (.int t) h4 = .ok (.int ((x.length : Int) - t)) h4:=rfl
   have ad5 : fAdd (.int ((x.length : Int) - t)) (.int 1) h4 = .ok (.int (x.length - t + 1 : Nat)) h4:=by
    have : (x.length : Int) - t + 1 = ((x.length - t + 1 : Nat) : Int):=by lia
    simp only [fAdd,this]
   have ade : fAdd (.int t) (.int c) h5 = .ok (.int (t + c : Nat)) h5:=rfl
   obtain ⟨wd,zs,iw,D⟩:=zjG (kd:=kd) (t:=t) (e:=t + c) (by lia) (by lia) A1 B1 A2 B2 (by lia) (by lia)
   have iw4:=iw h4
   have sk : fSub (.int kd) (.int 1) h4 = .ok (.int ((kd : Int) - 1)) h4:=rfl
   have lt6 : fLt (.int kd) (.int 6) h4 = .ok (.bl true) h4:=by
    have : (kd : Int) < 6:=by lia
    simp only [fLt,this,decide_true]
   refine ⟨_,zs,h5,?_,D,G14.trans G5 (Nat.le_refl _),r5⟩
   clear G1 G2 G3 G4 G5 G14 S W W1 W2 W3 F A B A1 B1 iw D
   have e0 : fEq (.int kd) (.int 0) h1 = .ok (.bl false) h1:=by rw [eq0,decide_eq_false q0]
   have l0 : fLt (.int qs.length) (.int 2) h1 = .ok (.bl false) h1:=by rw [lt2,decide_eq_false q1]
   unfold ybu
   generalize yax = FT at *
   generalize (x.length - t + 1 : Nat) = XT at *
   generalize (t + c : Nat) = TC at *
   generalize (kd : Int) - 1 = K1 at *
   generalize (x.length : Int) - t = XM at *
   generalize (x.length : Int) + 1 = XL at *
   simp [t1',f1,l0,e0,t2,i2,f2,t3,i3,ix_0,yda,lnx,adl,t4',lt6,sk,iw4,sb5,ad5,t5,ade,-fLen,-fLt,-fEq,-fIx,-fAdd,-fSub]
  ·obtain ⟨c,h5,hc,t5,G5,r5⟩:=tk93 G4.sh g (by lia) r4 6 (by decide) (by decide)
   have t5' : yax [.ref L,.int 6] h4 = .ok (.int c) h5:=t5
   have lt6 : fLt (.int kd) (.int 6) h4 = .ok (.bl false) h4:=by
    have : ¬ (kd : Int) < 6:=by lia
    simp only [fLt,this,decide_false]
   refine ⟨dV "repeated" a x b y c 0,[repS x c],h5,?_,.re A1 A2 (by lia),G14.trans G5 (Nat.le_refl _),r5⟩
   clear G1 G2 G3 G4 G5 G14 S W W1 W2 W3 F A B A1 B1
   have e0 : fEq (.int kd) (.int 0) h1 = .ok (.bl false) h1:=by rw [eq0,decide_eq_false q0]
   have l0 : fLt (.int qs.length) (.int 2) h1 = .ok (.bl false) h1:=by rw [lt2,decide_eq_false q1]
   unfold ybu
   generalize yax = FT at *
   generalize (x.length : Int) + 1 = XL at *
   simp [t1',f1,l0,e0,t2,i2,f2,t3,i3,ix_0,yda,lnx,adl,t4',lt6,t5',-fLen,-fLt,-fEq,-fIx,-fAdd,-fSub]
end Sk
namespace Sk
open PySem PySem.Spec L2 Sm
abbrev mV (m : AV × List Nat × List Str) : AV:=.tup [m.1,.fl (m.2.1.map iN),.fl (m.2.2.map AV.str)]
structure MO (ps : List Pc) (m : AV × List Nat × List Str) : Prop where
 ag : Again ps m.1 m.2.1
 tt : TT ps m.2.1 m.2.2
 ls : ∀ z ∈ m.2.2,z.length <= 1500
 l2 : m.2.1.length = 1 \/ m.2.1.length = 2
theorem MO.pre {ps ps' : List Pc} {m : AV × List Nat × List Str} (o : MO ps m) (h : ps <+: ps') : MO ps' m:=⟨o.ag.pre h,o.tt.pre h,o.ls,o.l2⟩
structure I93 (ps : List Pc) (h : AH) (row : AV) (qs : List (Nat × Str)) (ms : List (AV × List Nat × List Str)) : Prop where
 sh : ShelfAt h 0 ps
 gd : Good ps
 ls : h[9]? = some (.lst (ms.map mV))
 mo : ∀ m ∈ ms,MO ps m
 rw_ : Rw h.length h row qs
 fp : FP ps qs
 l8 : qs.length <= 8
theorem DK93.few {ps : List Pc} {d : AV} {zs : List Str} (D : DK93 ps d zs) : (∃ z,zs = [z]) \/ ∃ z y,zs = [z,y]:=by
 cases D
 ·exact .inl ⟨_,rfl⟩
 ·exact .inl ⟨_,rfl⟩
 ·exact .inr ⟨_,_,rfl⟩
 ·exact .inl ⟨_,rfl⟩
 ·exact .inl ⟨_,rfl⟩
 ·exact .inl ⟨_,rfl⟩
 ·exact .inl ⟨_,rfl⟩
theorem yhc {zs : List Str} (q : (∃ z,zs = [z]) \/ ∃ z y,zs = [z,y]) (en : En) (h : AH) (e : en[8]? = some (some (.fl (zs.map AV.str)))) :
  ∃ M : Int,yaf yd1 (sCons (ybA [] (iVal (sVar 8)) sYes (yaf fLen (sCons (sVar 0) sNil))) sNil) en h = .ok (.int M) h /\ (M <= 1500 -> ∀ z ∈ zs,z.length <= 1500):=by
 have sz0 : (0 : Nat) < sizeLine:=by decide
 have sz1 : (1 : Nat) < sizeLine:=by decide
 have e8 : sVar 8 en h = .ok (.fl (zs.map AV.str)) h:=by simp [e]
 rcases q with ⟨z,rfl⟩ | ⟨z,y,rfl⟩
 ·refine ⟨z.length,?_,fun l w hw=>by rw [List.mem_singleton.mp hw]; lia⟩
  generalize sVar 8 = V8 at *
  simp [ybA,yaX,ybi,e8,sz0]
 ·refine ⟨if (y.length : Int) > z.length then y.length else z.length,?_,fun l w hw=>?_⟩
  ·generalize sVar 8 = V8 at *
   simp [ybA,yaX,ybi,e8,sz0,sz1]
  ·rcases List.mem_cons.mp hw with rfl | hw
   ·split at l<;>lia
   ·rw [List.mem_singleton.mp hw]
    split at l<;>lia
theorem zeC : ∀ (rs : List Nat) (zs : List Str),ybj (rs.map iN) (zs.map AV.str) = (rs.zip zs).map prV
 | [],_=>by simp [ybj]
 | _ :: _,[]=>by simp [ybj]
 | r :: rs,z :: zs=>by
  show AV.tup [iN r,.str z] :: ybj (rs.map iN) (zs.map AV.str) = _
  rw [zeC rs zs]; rfl
theorem yhd {ps : List Pc} {rs : List Nat} {zs : List Str} (T : TT ps rs zs) (l : ∀ z ∈ zs,z.length <= 1500) : FP ps (rs.zip zs):=fun q hq=>by
 obtain ⟨j,hj⟩:=List.mem_iff_getElem?.mp hq
 obtain ⟨e1,e2⟩:=List.getElem?_zip_eq_some.mp hj
 exact ⟨T.2 j _ _ e1 e2,l _ (List.mem_of_getElem? e2)⟩
theorem zjI {h : AH} {ps : List Pc} {L R : Nat} {qs : List (Nat × Str)} (S : ShelfAt h 0 ps) (g : Good ps) (hL : 9 < L) (hR : 9 < R) (ne : L ≠ R) (st : ∃ N : Int,h[L]? = some (.lst [.int N])) (eR : h[R]? = some (.lst (qs.map prV))) (lq : qs.length <= 10) (o0 o1 o3 o4 o5 o7 o8 o9 o10 : Option AV) :
  ∃ (h' : AH) (qs' : List (Nat × Str)),ybs (yaj (sOp2 fGt (yaf fLen (sCons (sVar 2) sNil)) (sLit (.int 8)))) ycz yco [o0,o1,some (.ref R),o3,o4,o5,some (.ref L),o7,o8,o9,o10] h = .nx [o0,o1,some (.ref R),o3,o4,o5,some (.ref L),o7,o8,o9,o10] h' /\
   Gx 0 [L,R] h h' ps ps 0 /\ h'[R]? = some (.lst (qs'.map prV)) /\ qs'.length <= 8 /\ ∀ q ∈ qs',q ∈ qs:=by
 obtain ⟨e',h',w1,rfl,qs',G,e,l,s⟩:=zdg (c:=yaj (sOp2 fGt (yaf fLen (sCons (sVar 2) sNil)) (sLit (.int 8)))) (b:=ycz) (fuel:=yco) (n:=10) (en:=[o0,o1,some (.ref R),o3,o4,o5,some (.ref L),o7,o8,o9,o10]) (h:=h)
  (fun n en hh=>en = [o0,o1,some (.ref R),o3,o4,o5,some (.ref L),o7,o8,o9,o10] /\ ∃ qs' : List (Nat × Str),Gx 0 [L,R] h hh ps ps 0 /\ hh[R]? = some (.lst (qs'.map prV)) /\ (∃ N : Int,hh[L]? = some (.lst [.int N])) /\ qs'.length <= n /\ n <= 10 /\ ∀ q ∈ qs',q ∈ qs)
  (fun en hh=>en = [o0,o1,some (.ref R),o3,o4,o5,some (.ref L),o7,o8,o9,o10] /\ ∃ qs' : List (Nat × Str),Gx 0 [L,R] h hh ps ps 0 /\ hh[R]? = some (.lst (qs'.map prV)) /\ qs'.length <= 8 /\ ∀ q ∈ qs',q ∈ qs)
  ⟨rfl,qs,Gx.refl S g _,eR,st,lq,Nat.le_refl _,fun _ z=>z⟩ (by decide) (by
   rintro n en hh ⟨rfl,qs',G,e,sN,l,ln,s⟩
   have fl : fLen [.ref R] hh = .ok (.int qs'.length) hh:=by simp only [fLen,e,List.length_map]
   by_cases q : 8 < qs'.length
   ·have c1 : (yaj (sOp2 fGt (yaf fLen (sCons (sVar 2) sNil)) (sLit (.int 8)))) [o0,o1,some (.ref R),o3,o4,o5,some (.ref L),o7,o8,o9,o10] hh = .ok true hh:=by
     have : fGt (.int qs'.length) (.int 8) hh = .ok (.bl true) hh:=by
      have : (8 : Int) < qs'.length:=by lia
      simp only [fGt,this,decide_true]
     simp [fl,this,-fLen,-fGt]
    rw [c1]
    obtain ⟨v,N',hv,t⟩:=(let ⟨N,e⟩:=sN; zbq qs'.length e (by lia) (Nat.le_trans (m:=10) (by lia) (by decide)))
    obtain ⟨N,eL⟩:=sN
    have e2 : (hh.set L (.lst [.int N']))[R]? = some (.lst (qs'.map prV)):=by rw [List.getElem?_set_ne ne]; exact e
    have il : yaI (.ref R) hh = true:=by simp only [yaI,ya5,e]; rfl
    have il2 : yaI (.ref R) (hh.set L (.lst [.int N'])) = true:=by simp only [yaI,ya5,e2]; rfl
    obtain ⟨y,ey⟩ : ∃ y,qs'[v]? = some y:=⟨_,List.getElem?_eq_getElem hv⟩
    have pp : ydt (.ref R) [.int v] (hh.set L (.lst [.int N'])) = .ok (prV y) ((hh.set L (.lst [.int N'])).set R (.lst ((qs'.eraseIdx v).map prV))):=by
     have a1 : (0 : Int) <= v /\ (v : Int) < 2 ^ 40:=⟨by lia,by lia⟩
     have a2 : (v : Int).toNat = v:=by lia
     have a3 : (qs'.map prV)[v]? = some (prV y):=by rw [List.getElem?_map,ey]; rfl
     have a4 : (qs'.map prV).eraseIdx v = (qs'.eraseIdx v).map prV:=by rw [List.eraseIdx_eq_take_drop_succ,List.eraseIdx_eq_take_drop_succ,List.map_append,List.map_take,List.map_drop]
     simp only [ydt,e2,a1,and_self,if_true,a2,a3,a4]
    have bd : ycz [o0,o1,some (.ref R),o3,o4,o5,some (.ref L),o7,o8,o9,o10] hh = .nx [o0,o1,some (.ref R),o3,o4,o5,some (.ref L),o7,o8,o9,o10] ((hh.set L (.lst [.int N'])).set R (.lst ((qs'.eraseIdx v).map prV))):=by
     generalize (hh.set L (.lst [.int N'])).set R (.lst ((qs'.eraseIdx v).map prV)) = h3 at *
     generalize hh.set L (.lst [.int N']) = h2 at *
     clear G e2
     unfold ycz
     generalize yax = FT at *
     simp [fl,t,il,il2,pp,-fLen,-yaI,-ydt]
    show thn (ycz [o0,o1,some (.ref R),o3,o4,o5,some (.ref L),o7,o8,o9,o10] hh) _
    rw [bd]
    have G2 : Gx 0 [L,R] hh (hh.set L (.lst [.int N'])) ps ps 0:=Gx.set G.sh g (.inr (by lia)) _ (by simp) _
    have G3 : Gx 0 [L,R] (hh.set L (.lst [.int N'])) ((hh.set L (.lst [.int N'])).set R (.lst ((qs'.eraseIdx v).map prV))) ps ps 0:=Gx.set G2.sh g (.inr (by lia)) _ (by simp) _
    refine ⟨n - 1,by lia,rfl,qs'.eraseIdx v,(G.trans G2 (Nat.le_refl _)).trans G3 (Nat.le_refl _),List.getElem?_set_self (ya3 e2),⟨N',?_⟩,?_,by lia,fun q hq=>s q (List.mem_of_mem_eraseIdx hq)⟩
    ·rw [List.getElem?_set_ne (Ne.symm ne)]; exact List.getElem?_set_self (ya3 eL)
    ·rw [List.length_eraseIdx,if_pos hv]; lia
   ·have c1 : (yaj (sOp2 fGt (yaf fLen (sCons (sVar 2) sNil)) (sLit (.int 8)))) [o0,o1,some (.ref R),o3,o4,o5,some (.ref L),o7,o8,o9,o10] hh = .ok false hh:=by
     have : fGt (.int qs'.length) (.int 8) hh = .ok (.bl false) hh:=by
      have : ¬ (8 : Int) < qs'.length:=by lia
      simp only [fGt,this,decide_false]
     simp [fl,this,-fLen,-fGt]
    rw [c1]
    exact ⟨rfl,qs',G,e,by lia,s⟩)
 exact ⟨h',qs',w1,G,e,l,s⟩
end Sk
namespace Sk
open PySem PySem.Spec L2 Sm
theorem Rw.lst {L : Nat} {h : AH} {row : AV} {qs : List (Nat × Str)} (w : Rw L h row qs) : ya5 row h = some (qs.map prV):=by
 rcases w with rfl | ⟨R,rfl,_,_,c⟩
 ·rfl
 ·simp only [ya5,c]
theorem zik {rs : List Nat} (l : rs.length = 1 \/ rs.length = 2) (h : AH) : fEq (.fl (rs.map iN)) (.fl []) h = .ok (.bl false) h:=by
 have e:=zjn (rs.map fun n : Nat=>(n : Int)) [] h
 rw [List.map_map] at e
 have e2 : decide ((rs.map fun n : Nat=>(n : Int)) = []) = false:=decide_eq_false (fun z=>by
  have : rs = []:=List.map_eq_nil_iff.mp z
  rw [this] at l; simp at l)
 rw [e2] at e
 exact e
theorem yhe {h : AH} {ps : List Pc} {row : AV} {qs : List (Nat × Str)} {ms : List (AV × List Nat × List Str)} (I : I93 ps h row qs ms) (lm : ms.length <= 1000) (hz : ps.length < 11000000) (c k : Int) (o0 o6 o7 o8 o9 o10 : Option AV) :
  ∃ (h' : AH) (ps' : List Pc) (row' : AV) (qs' : List (Nat × Str)) (ms' : List (AV × List Nat × List Str)) (a6 a7 a8 a9 : Option AV),yci [o0,some (.ref 0),some row,some (.ref 9),some (.int k),some (.int c),o6,o7,o8,o9,o10] h = .nx [o0,some (.ref 0),some row',some (.ref 9),some (.int k),some (.int c),a6,a7,a8,a9,o10] h' /\
   I93 ps' h' row' qs' ms' /\ ms'.length <= ms.length + 1 /\ ps'.length <= ps.length + 20000:=by
 have n9:=ya3 I.ls
 obtain ⟨n,ow⟩:=yhZ c k h
 obtain ⟨L,eL⟩ : ∃ L,L = h.length:=⟨_,rfl⟩
 have S0:=I.sh.app [.lst [.int n]]
 have s0 : ∃ N : Int,(h++[AO.lst [.int n]])[L]? = some (.lst [.int N]):=⟨n,by rw [eL]; simp⟩
 have W0 : Rw L (h++[AO.lst [.int n]]) row qs:=by
  rcases I.rw_ with e | ⟨R,e,a,b,d⟩
  ·exact .inl e
  ·exact .inr ⟨R,e,a,by lia,by rw [List.getElem?_append_left b]; exact d⟩
 have e90 : (h++[AO.lst [.int n]])[9]? = some (.lst (ms.map mV)):=by rw [List.getElem?_append_left n9]; exact I.ls
 have l0 : (h++[AO.lst [.int n]]).length = L + 1:=by rw [List.length_append,eL]; rfl
 rw [<- eL] at ow
 have n9L : 9 < L:=by lia
 clear eL n9
 generalize h++[AO.lst [.int n]] = h0 at *
 obtain ⟨d,zs,h1,dr,D,G1,s1⟩:=zhk S0 I.gd n9L s0 W0 I.fp I.l8
 have due:=zjE D h1
 have W1:=W0.keep G1
 have e91 : h1[9]? = some (.lst (ms.map mV)):=(G1.fr 9 (.inr (by lia)) (by simp; lia) (ya3 e90)).trans e90
 have h1l:=G1.hl
 obtain ⟨M,em,hM⟩:=yhc D.few [o0,some (.ref 0),some row,some (.ref 9),some (.int k),some (.int c),some (.ref L),some d,some (.fl (zs.map AV.str)),o9,o10] h1 rfl
 by_cases q : M <= 1500
 ·have le : fLe (.int M) (.int 1500) h1 = .ok (.bl true) h1:=by simp only [fLe,q,decide_true]
  have lz:=hM q
  obtain ⟨rs,ps2,h2,ri,G2,T,ag,l2⟩:=zhj G1.sh I.gd D lz (by lia)
  have ne:=zik l2 h2
  have e92 : h2[9]? = some (.lst (ms.map mV)):=(G2.fr 9 (.inr (by lia)) (by simp) (ya3 e91)).trans e91
  have W2 : Rw L h2 row qs:=W1.keep (G2.more (by simp))
  have s2 : ∃ N : Int,h2[L]? = some (.lst [.int N]):=by
   obtain ⟨N,e⟩:=s1
   exact ⟨N,(G2.fr L (.inr (by lia)) (by simp) (ya3 e)).trans e⟩
  have il : yaI (.ref 9) h2 = true:=by simp only [yaI,ya5,e92]; rfl
  have sz : (ms.map mV).length < sizeLine:=Nat.lt_of_le_of_lt (m:=1000) (by rw [List.length_map]; exact lm) (by decide)
  have ap : yaR (.ref 9) [.tup [d,.fl (rs.map iN),.fl (zs.map AV.str)]] h2 = .ok .non (h2.set 9 (.lst ((ms++[(d,rs,zs)]).map mV))):=by
   simp only [yaR,e92,sz,if_true,List.map_append,List.map_cons,List.map_nil]
  have S3 : ShelfAt (h2.set 9 (.lst ((ms++[(d,rs,zs)]).map mV))) 0 ps2:=G2.sh.keep fun i _ i8=>List.getElem?_set_ne (by lia)
  have e93 : (h2.set 9 (.lst ((ms++[(d,rs,zs)]).map mV)))[9]? = some (.lst ((ms++[(d,rs,zs)]).map mV)):=List.getElem?_set_self (ya3 e92)
  have s3 : ∃ N : Int,(h2.set 9 (.lst ((ms++[(d,rs,zs)]).map mV)))[L]? = some (.lst [.int N]):=by
   obtain ⟨N,e⟩:=s2
   exact ⟨N,by rw [List.getElem?_set_ne (by lia)]; exact e⟩
  have W3 : Rw L (h2.set 9 (.lst ((ms++[(d,rs,zs)]).map mV))) row qs:=by
   rcases W2 with e | ⟨R,e,a,b,d⟩
   ·exact .inl e
   ·exact .inr ⟨R,e,a,b,by rw [List.getElem?_set_ne (by lia)]; exact d⟩
  have l3 : (h2.set 9 (.lst ((ms++[(d,rs,zs)]).map mV))).length = h2.length:=List.length_set ..
  generalize h2.set 9 (.lst ((ms++[(d,rs,zs)]).map mV)) = h3 at *
  have l1:=T.1
  have lq : (qs++rs.zip zs).length <= 10:=by rw [List.length_append,List.length_zip]; have:=I.l8; rcases l2 with z | z<;>lia
  have zp : ycY (sVar 9) (sVar 8) [o0,some (.ref 0),some row,some (.ref 9),some (.int k),some (.int c),some (.ref L),some d,some (.fl (zs.map AV.str)),some (.fl (rs.map iN)),o10] h3 = .ok (.fl ((rs.zip zs).map prV)) h3:=by
   rw [<- zeC]; rfl
  have am : ydZ row (.fl ((rs.zip zs).map prV)) h3 = .ok (.ref h3.length) (h3++[.lst ((qs++rs.zip zs).map prV)]):=by
   have z1 : (qs.map prV).length + ((rs.zip zs).map prV).length <= sizeLine:=Nat.le_trans (m:=10) (by rw [List.length_map,List.length_map,<- List.length_append]; exact lq) (by decide)
   have z2 : ya5 (.fl ((rs.zip zs).map prV)) h3 = some ((rs.zip zs).map prV):=rfl
   simp only [ydZ,W3.lst,z2,z1,if_true,List.map_append]
  have S4:=S3.app [.lst ((qs++rs.zip zs).map prV)]
  have eR : (h3++[AO.lst ((qs++rs.zip zs).map prV)])[h3.length]? = some (.lst ((qs++rs.zip zs).map prV)):=by simp
  have s4 : ∃ N : Int,(h3++[AO.lst ((qs++rs.zip zs).map prV)])[L]? = some (.lst [.int N]):=by
   obtain ⟨N,e⟩:=s3
   exact ⟨N,by rw [List.getElem?_append_left (ya3 e)]; exact e⟩
  have e94 : (h3++[AO.lst ((qs++rs.zip zs).map prV)])[9]? = some (.lst ((ms++[(d,rs,zs)]).map mV)):=by rw [List.getElem?_append_left (ya3 e93)]; exact e93
  have lL : L < h3.length:=by obtain ⟨N,e⟩:=s3; exact ya3 e
  obtain ⟨R,hR⟩ : ∃ R,R = h3.length:=⟨_,rfl⟩
  rw [<- hR] at eR am lL
  have l4 : (h3++[AO.lst ((qs++rs.zip zs).map prV)]).length = R + 1:=by rw [List.length_append,hR]; rfl
  generalize h3++[AO.lst ((qs++rs.zip zs).map prV)] = h4 at *
  obtain ⟨h5,qs5,wh,G5,e5,l5,sub⟩:=zjI S4 G2.gd n9L (show 9 < R by lia) (by lia) s4 eR lq o0 (some (.ref 0)) (some (.ref 9)) (some (.int k)) (some (.int c)) (some d) (some (.fl (zs.map AV.str))) (some (.fl (rs.map iN))) o10
  refine ⟨h5,ps2,.ref R,qs5,ms++[(d,rs,zs)],some (.ref L),some d,some (.fl (zs.map AV.str)),some (.fl (rs.map iN)),?_,⟨G5.sh,G2.gd,?_,fun m hm=>?_,.inr ⟨R,rfl,by lia,?_,e5⟩,fun q hq=>?_,l5⟩,by simp,G2.len⟩
  ·generalize hmv : (ms++[(d,rs,zs)]).map mV = MV at *
   clear I S0 W0 W1 W2 W3 G1 G2 G5 S3 S4 T ag D hM l1 e92 e93 e94 e90 e91 eR s0 s1 s2 s3 s4 e5 sub
   unfold yci
   generalize yaf yd1 (sCons (ybA [] (iVal (sVar 8)) sYes (yaf fLen (sCons (sVar 0) sNil))) sNil) = MX at *
   generalize ycY (sVar 9) (sVar 8) = LZ at *
   generalize ybs (yaj (sOp2 fGt (yaf fLen (sCons (sVar 2) sNil)) (sLit (.int 8)))) ycz yco = WH at *
   generalize ybX = FO at *
   generalize ybu = FD at *
   generalize ybe = FU at *
   generalize ycd = FR at *
   generalize zs.map AV.str = ZS at *
   generalize rs.map iN = RS at *
   generalize (rs.zip zs).map prV = RZ at *
   simp [ow,dr,due,em,le,ri,ne,il,ap,zp,am,wh,-fLe,-fEq,-yaI,-yaR,-ydZ]
  ·exact (G5.fr 9 (.inr (by lia)) (by simp; lia) (ya3 e94)).trans e94
  ·rcases List.mem_append.mp hm with z | z
   ·exact (I.mo m z).pre G2.pre
   ·rw [List.mem_singleton.mp z]; exact ⟨ag,T,lz,l2⟩
  ·have:=G5.hl; lia
  ·rcases List.mem_append.mp (sub q hq) with z | z
   ·exact ⟨(I.fp q z).1.pre G2.pre,(I.fp q z).2⟩
   ·exact yhd T lz q z
 ·have le : fLe (.int M) (.int 1500) h1 = .ok (.bl false) h1:=by simp only [fLe,q,decide_false]
  refine ⟨h1,ps,row,qs,ms,some (.ref L),some d,some (.fl (zs.map AV.str)),o9,?_,⟨G1.sh,I.gd,e91,I.mo,?_,I.fp,I.l8⟩,by lia,by lia⟩
  ·clear I S0 W0 W1 G1 D hM e90 e91 s0 s1
   unfold yci
   generalize yaf yd1 (sCons (ybA [] (iVal (sVar 8)) sYes (yaf fLen (sCons (sVar 0) sNil))) sNil) = MX at *
   generalize ybX = FO at *
   generalize ybu = FD at *
   generalize ybe = FU at *
   generalize zs.map AV.str = ZS at *
   simp [ow,dr,due,em,le,-fLe]
  ·rcases W1 with e | ⟨R,e,a,b,d⟩
   ·exact .inl e
   ·exact .inr ⟨R,e,a,by lia,d⟩
end Sk
namespace Sk
open PySem PySem.Spec L2 Sm
theorem yia (x : Int) (h : AH) : fNe (.fl [.int x]) (.fl [.int x]) h = .ok (.bl false) h:=by simp [toD,toDs,PyData.eqv,PyData.eqvAll]
theorem yib (x y : Int) (h : AH) : fNe (.fl [.int x,.int y]) (.fl [.int x,.int y]) h = .ok (.bl false) h:=by simp [toD,toDs,PyData.eqv,PyData.eqvAll]
theorem yic (x : Str) (h : AH) : fNe (.fl [.str x]) (.fl [.str x]) h = .ok (.bl false) h:=by simp [toD,toDs,PyData.eqv,PyData.eqvAll]
theorem yid (x y : Str) (h : AH) : fNe (.fl [.str x,.str y]) (.fl [.str x,.str y]) h = .ok (.bl false) h:=by simp [toD,toDs,PyData.eqv,PyData.eqvAll]
theorem zjJ {h : AH} {ps : List Pc} {m : AV × List Nat × List Str} (S : ShelfAt h 0 ps) (g : Good ps) (o : MO ps m) (o0 o2 o3 o4 o5 o6 o10 : Option AV) :
  ∃ r : AH,ycj [o0,some (.ref 0),o2,o3,o4,o5,o6,some m.1,some (.fl (m.2.2.map AV.str)),some (.fl (m.2.1.map iN)),o10] h = .nx [o0,some (.ref 0),o2,o3,o4,o5,o6,some m.1,some (.fl (m.2.2.map AV.str)),some (.fl (m.2.1.map iN)),o10] (h++r):=by
 obtain ⟨d,rs,zs⟩:=m
 obtain ⟨ag,tt,ls,l2⟩:=o
 have sz0 : (0 : Nat) < sizeLine:=by decide
 have sz1 : (1 : Nat) < sizeLine:=by decide
 have dn:=ag h ps S g (List.prefix_refl _)
 have lz:=tt.1
 dsimp only at dn tt ls l2 lz ⊢
 rcases l2 with q | q
 ·match rs,zs,q,lz,tt,ls,dn with
  | [n],[z],_,_,T,hl,dn =>
   obtain ⟨r,e⟩:=yeq S g (T.2 0 n z rfl rfl) (Nat.le_trans (hl z (by simp)) (by decide))
   refine ⟨r,?_⟩
   have n1:=yia n h
   have n2:=yic z (h++r)
   have dn' : yaB [.ref 0,d] h = .ok (.fl [.int n]) h:=dn
   clear T hl ls tt ag dn S
   unfold ycj
   generalize yaB = FD at *
   generalize ybc = FR at *
   generalize h++r = h2 at *
   simp [dn',n1,ybA,yaX,ybi,e,sz0,n2,-fNe]
 ·match rs,zs,q,lz,tt,ls,dn with
  | [n,m],[z,y],_,_,T,hl,dn =>
   obtain ⟨r,e⟩:=yeq S g (T.2 0 n z rfl rfl) (Nat.le_trans (hl z (by simp)) (by decide))
   obtain ⟨r2,e2⟩:=yeq (S.app r) g (T.2 1 m y rfl rfl) (Nat.le_trans (hl y (by simp)) (by decide))
   rw [List.append_assoc] at e2
   refine ⟨r++r2,?_⟩
   have n1:=yib n m h
   have n2:=yid z y (h++(r++r2))
   have dn' : yaB [.ref 0,d] h = .ok (.fl [.int n,.int m]) h:=dn
   clear T hl ls tt ag dn S
   unfold ycj
   generalize yaB = FD at *
   generalize ybc = FR at *
   generalize h++(r++r2) = h3 at *
   generalize h++r = h2 at *
   simp [dn',n1,ybA,yaX,ybi,e,e2,sz0,sz1,n2,-fNe]
end Sk
namespace Sk
open PySem PySem.Spec L2 Sm
theorem law_true (ns : List Int) (hl : ns.length <= 63) : ∃ h',yfb [.fl (ns.map AV.int)] [] = .ok (.bl true) h' := by
 have mk:=yg0 [some (.fl (ns.map AV.int)),none,none,none,none,none,none,none,none,none,none] []
 have l0 : ([] : AH).length = 0:=rfl
 rw [l0,List.nil_append] at mk
 have S0 : ShelfAt (yd2 0) 0 []:=by have:=yg1 [] []; simpa using this
 obtain ⟨H1,eH1⟩ : ∃ H,H = yd2 0++[AO.lst []]:=⟨_,rfl⟩
 have I1 : I93 [] H1 (.fl []) [] []:=⟨eH1 ▸ S0.app _,.nil,by rw [eH1]; rfl,nofun,.inl rfl,nofun,by decide⟩
 obtain ⟨sc,esc⟩ : ∃ sc : Option AV,sc = some (.fl (ns.map AV.int)):=⟨_,rfl⟩
 obtain ⟨cells,ecl⟩ : ∃ cells : List Int,cells = ns++[0,1,2]:=⟨_,rfl⟩
 have lc : cells.length <= 66:=by rw [ecl]; simp; lia
 obtain ⟨e',H2,r1,r2⟩:=yeJ (w:=none) (all:=Sm.numbered 0 (cells.map AV.int)) (t:=.tup [4,5]) (b:=yci) (xs:=Sm.numbered 0 (cells.map AV.int)) (en:=[sc,some (.ref 0),some (.fl []),some (.ref 9),none,none,none,none,none,none,none]) (h:=H1)
  (fun i en h' => i <= 66 -> ∃ (o4 o5 o6 o7 o8 o9 : Option AV) (ps : List Pc) (row : AV) (qs : List (Nat × Str)) (ms : List (AV × List Nat × List Str)),en = [sc,some (.ref 0),some row,some (.ref 9),o4,o5,o6,o7,o8,o9,none] /\ I93 ps h' row qs ms /\ ms.length <= i /\ ps.length <= 20000 * i)
  (fun _=>⟨none,none,none,none,none,none,[],.fl [],[],[],rfl,I1,Nat.le_refl _,Nat.le_refl _⟩) (fun _ _ _ _=>rfl) (by
   intro j u en h' hu hp
   rw [Sm.numbered_get,List.getElem?_map] at hu
   obtain ⟨v,ev,rfl⟩:=Option.map_eq_some_iff.mp hu
   obtain ⟨c,ec,rfl⟩:=Option.map_eq_some_iff.mp ev
   have hj : j < cells.length:=(List.getElem?_eq_some_iff.mp ec).1
   obtain ⟨o4,o5,o6,o7,o8,o9,ps,row,qs,ms,rfl,I,b1,lp⟩:=hp (by lia)
   obtain ⟨h2,ps2,row2,qs2,ms2,a6,a7,a8,a9,e,I2,c1,lp2⟩:=yhe I (by lia) (by lia) c ((0 + j : Nat) : Int) sc o6 o7 o8 o9 none
   obtain ⟨BB,hB⟩ : ∃ BB,BB = yci:=⟨_,rfl⟩
   rw [<- hB] at e ⊢
   show thn (BB [sc,some (.ref 0),some row,some (.ref 9),some (.int ((0 + j : Nat) : Int)),some (.int c),o6,o7,o8,o9,none] h') _
   rw [e]
   exact fun _=>⟨_,_,a6,a7,a8,a9,ps2,row2,qs2,ms2,rfl,I2,by lia,by lia⟩)
 rw [Sm.numbered_length,List.length_map] at r2
 obtain ⟨o4,o5,o6,o7,o8,o9,ps,row,qs,ms,rfl,I2,b1,lp⟩:=r2 lc
 have it1 : Sm.iEnum (sOp2 fAdd (sVar 0) (sLst (sCons (sLit (.int 0)) (sCons (sLit (.int 1)) (sCons (sLit (.int 2)) sNil))))) [some (.fl (ns.map AV.int)),some (.ref 0),some (.fl []),some (.ref 9),none,none,none,none,none,none,none] H1 = .ok (Sm.numbered 0 (cells.map AV.int),none) H1:=by
  have a2 : fAdd (.fl (ns.map AV.int)) (.fl [.int 0,.int 1,.int 2]) H1 = .ok (.fl (cells.map AV.int)) H1:=by
   have sl : (ns.map AV.int).length + ([AV.int 0,AV.int 1,AV.int 2] : List AV).length <= sizeLine:=Nat.le_trans (m:=66) (by rw [List.length_map]; show _ + 3 <= 66; lia) (by decide)
   show (if (ns.map AV.int).length + ([AV.int 0,AV.int 1,AV.int 2] : List AV).length <= sizeLine then Out.ok (AV.fl (ns.map AV.int++[AV.int 0,AV.int 1,AV.int 2])) H1 else .bad) = _
   rw [if_pos sl,ecl,List.map_append]; rfl
  clear r1
  generalize cells.map AV.int = Z2 at *
  generalize ns.map AV.int = Z3 at *
  simp [a2,-fAdd]
 subst esc
 have f1:=(yen (t:=.tup [4,5]) (b:=yci) it1).trans r1
 have n9:=ya3 I2.ls
 have m2:=yeo I2.sh
 obtain ⟨e2',H3,u1,u2⟩:=yeJ (w:=some 9) (all:=ms.map mV) (t:=.tup [7,9,8]) (b:=ycj) (xs:=ms.map mV) (en:=[some (.fl (ns.map AV.int)),some (.ref 0),some row,some (.ref 9),o4,o5,o6,o7,o8,o9,some (.int ps.length)]) (h:=H2)
  (fun _ en hh=>∃ (a7 a8 a9 : Option AV),en = [some (.fl (ns.map AV.int)),some (.ref 0),some row,some (.ref 9),o4,o5,o6,a7,a8,a9,some (.int ps.length)] /\ ShelfAt hh 0 ps /\ hh[9]? = some (.lst (ms.map mV)))
  ⟨o7,o8,o9,rfl,I2.sh,I2.ls⟩ (by
   rintro j en hh ⟨_,_,_,_,_,e9⟩
   simp [e9]) (by
   rintro j u en hh hu ⟨a7,a8,a9,rfl,S,e9⟩
   rw [List.getElem?_map] at hu
   obtain ⟨m,eq,rfl⟩:=Option.map_eq_some_iff.mp hu
   obtain ⟨r,e⟩:=zjJ S I2.gd (I2.mo m (List.mem_of_getElem? eq)) (some (.fl (ns.map AV.int))) (some row) (some (.ref 9)) o4 o5 o6 (some (.int ps.length))
   obtain ⟨BB,hB⟩ : ∃ BB,BB = ycj:=⟨_,rfl⟩
   rw [<- hB] at e ⊢
   show thn (BB [some (.fl (ns.map AV.int)),some (.ref 0),some row,some (.ref 9),o4,o5,o6,some m.1,some (.fl (m.2.2.map AV.str)),some (.fl (m.2.1.map iN)),some (.int ps.length)] hh) _
   rw [e]
   exact ⟨_,_,_,rfl,S.app r,by rw [List.getElem?_append_left (ya3 e9)]; exact e9⟩)
 obtain ⟨a7,a8,a9,rfl,S3,_⟩:=u2
 have it2 : yeg (sVar 3) [some (.fl (ns.map AV.int)),some (.ref 0),some row,some (.ref 9),o4,o5,o6,o7,o8,o9,some (.int ps.length)] H2 = .ok (ms.map mV,some 9) H2:=by
  have e9:=I2.ls
  clear I2 f1 r1 u1 S3
  generalize ms.map mV = MM at *
  simp [e9]
 have f2:=(yen (t:=.tup [7,9,8]) (b:=ycj) it2).trans u1
 have m3:=yeo S3
 have ob2:=I2.sh.ob
 have ob3:=S3.ob
 refine ⟨H3,?_⟩
 have lm : (ybG sNil) [some (.fl (ns.map AV.int)),some (.ref 0),some (.fl []),none,none,none,none,none,none,none,none] (yd2 0) = .ok (.ref 9) H1:=by rw [eH1]; rfl
 have eq : fEq (.int ps.length) (.int ps.length) H3 = .ok (.bl true) H3:=by simp
 generalize hmk : yeC 0 8 ybW sNil = MK at mk
 generalize hLM : ybG sNil = LM at lm
 generalize hF1 : sFor (Sm.iEnum (sOp2 fAdd (sVar 0) (sLst (sCons (sLit (.int 0)) (sCons (sLit (.int 1)) (sCons (sLit (.int 2)) sNil)))))) (.tup [4,5]) yci = F1 at f1
 generalize hF2 : sFor (yeg (sVar 3)) (.tup [7,9,8]) ycj = F2 at f2
 clear I2 S3 r1 u1 it1 it2 I1
 unfold yfb
 rw [hmk,hLM,hF1,hF2]
 generalize ybl = FM at *
 generalize (ps.length : Int) = PL at *
 simp [mk,lm,f1,m2,ob2,f2,m3,ob3,eq,-fEq]
end Sk
namespace Sk
open PySem PySem.Spec L2 Sm
theorem zjK : bootBuiltins "list" = some (.type "list"):=by decide +kernel
def top (i : Nat) : Stmt:=PySem.Challenge.pw_skeinwood_k93_whole_deeds_of_all_kinds.main.body.getD i (.Pass ⟨0,0,0,0⟩)
abbrev yc2 : Stmt:=ybd (top 18) 0
abbrev yc3 : Stmt:=ybd (top 18) 3
abbrev ydc : Stmt:=top 44
abbrev ydQ : Stmt:=top 46
abbrev ydB : Stmt:=top 45
abbrev ydd : Stmt:=top 47
abbrev yde : Stmt:=top 48
abbrev ydf : Stmt:=top 52
abbrev ydR : Stmt:=top 54
abbrev ydC : Stmt:=top 11
abbrev yb6 : Stmt:=ybd (top 18) 11
abbrev ybQ : Stmt:=ybd (top 18) 12
abbrev yb0 : Stmt:=ybd (top 18) 13
abbrev ycA : Stmt:=ybd (top 18) 8
abbrev ydD : Stmt:=top 55
abbrev ycM : Stmt:=ybd (top 18) 5
abbrev ycB : Stmt:=top 23
abbrev yb7 : Stmt:=ybd (top 18) 10
abbrev yb1 : Stmt:=ybd (top 18) 9
abbrev ydg : Stmt:=top 24
abbrev ycN : Stmt:=ybd (top 18) 4
abbrev yb2 : Stmt:=ybd (top 18) 14
abbrev ydh : Stmt:=ybd (top 18) 17
abbrev ycf : Stmt:=ybd (top 18) 16
abbrev yc4 : Stmt:=ybd (top 18) 2
abbrev ydi : Stmt:=top 29
abbrev ycO : Stmt:=top 26
abbrev ycu : Stmt:=top 30
abbrev ycC : Stmt:=top 27
abbrev yd7 : Stmt:=top 25
abbrev ycv : Stmt:=top 13
abbrev ycU : Stmt:=top 12
abbrev ydE : Stmt:=top 14
abbrev ydS : Stmt:=top 15
abbrev ycg : Stmt:=ybd (top 18) 15
abbrev yc5 : Stmt:=ybd (top 18) 1
abbrev yd8 : Stmt:=top 28
abbrev yd9 : Stmt:=top 20
abbrev ydT : Stmt:=top 32
abbrev ydF : Stmt:=top 22
abbrev yea : Stmt:=top 31
abbrev yd4 : Stmt:=top 21
abbrev ydj : Stmt:=top 34
abbrev ydG : Stmt:=top 41
abbrev ydU : Stmt:=top 42
abbrev yeb : Stmt:=top 37
abbrev yec : Stmt:=top 38
abbrev ycw : Stmt:=top 35
abbrev ydk : Stmt:=top 39
abbrev ydl : Stmt:=top 40
abbrev ydH : Stmt:=top 53
abbrev ydI : Stmt:=top 51
abbrev ydJ : Stmt:=top 49
abbrev ydm : Stmt:=top 50
abbrev ydn : Stmt:=top 56
abbrev yd5 : Stmt:=top 57
def flds : Nat -> List Str
 | 0=>["pieces", "numbers", "sign_counts", "end_counts", "leaf_counts", "heights", "first_leaves", "last_leaves"]
 | _=>[]
theorem zjL : ∀ c,(flds c).Nodup
 | 0=>by decide +kernel
 | _ + 1=>List.nodup_nil
theorem zil : ∀ c,(flds c).length <= 500
 | 0=>by decide +kernel
 | _ + 1=>Nat.zero_le _
abbrev mkT (K : PySem.W.Frag) (cls exc : Nat -> Option Addr) : Tb:=⟨K,cls,exc,flds,zjL,zil⟩
structure Facts (P : Program) (w : World) (K : PySem.W.Frag) (cls exc : Nat -> Option Addr) (mg : Str -> Option Value) (base : Heap) : Prop where
 b_abs : mg "abs" = none
 b_all : mg "all" = none
 b_bool : mg "bool" = none
 b_enumerate : mg "enumerate" = none
 b_int : mg "int" = none
 b_isinstance : mg "isinstance" = none
 b_len : mg "len" = none
 b_list : mg "list" = none
 b_max : mg "max" = none
 b_range : mg "range" = none
 b_str : mg "str" = none
 b_zip : mg "zip" = none
 c_LEAF_SIGNS : ∃ t,mg "LEAF_SIGNS" = some (.int 8 t)
 c_MOST_PLAIN : ∃ t,mg "MOST_PLAIN" = some (.int 10000 t)
 c_MOST_SIGNS : ∃ t,mg "MOST_SIGNS" = some (.int 1000000000000000000 t)
 cf_Shelf : CF (mkT K cls exc) 0
 x_NoText : GX (mkT K cls exc) mg base 1 "NoText"
 x_NoPiece : GX (mkT K cls exc) mg base 2 "NoPiece"
 x_Loose : GX (mkT K cls exc) mg base 3 "Loose"
 x_Unlevel : GX (mkT K cls exc) mg base 4 "Unlevel"
 x_TooLong : GX (mkT K cls exc) mg base 5 "TooLong"
 x_NoPlace : GX (mkT K cls exc) mg base 6 "NoPlace"
 d_Shelf_init : DI K cls mg 0 "Shelf" "Shelf.__init__" yc2 ["self"]
 d_Shelf_many : DMm K cls 0 "many" "Shelf.many" yc3 ["self"]
 d_law_mixed : DG K mg "_law_mixed" ydc ["cell", "k"]
 d_law_own : DG K mg "_law_own" ydQ ["cell", "k"]
 d_law_take : DG K mg "_law_take" ydB ["stream", "many"]
 d_law_signs : DG K mg "_law_signs" ydd ["kind"]
 d_law_plain : DG K mg "_law_plain" yde ["stream", "most"]
 d_law_drawn : DG K mg "_law_drawn" ydf ["row", "stream"]
 d_law_due : DG K mg "_law_due" ydR ["deed"]
 d_is_whole : DG K mg "is_whole" ydC ["thing"]
 d_Shelf_has_piece : DMm K cls 0 "has_piece" "Shelf.has_piece" yb6 ["self", "number"]
 d_Shelf_check_piece : DMm K cls 0 "check_piece" "Shelf.check_piece" ybQ ["self", "number"]
 d_Shelf_check_text : DMm K cls 0 "check_text" "Shelf.check_text" yb0 ["self", "text"]
 d_Shelf_height : DMm K cls 0 "height" "Shelf.height" ycA ["self", "text"]
 d_law_room : DG K mg "_law_room" ydD ["shelf", "deed"]
 d_Shelf_signs : DMm K cls 0 "signs" "Shelf.signs" ycM ["self", "text"]
 d_check_length : DG K mg "check_length" ycB ["signs"]
 d_Shelf_last_leaf : DMm K cls 0 "last_leaf" "Shelf.last_leaf" yb7 ["self", "text"]
 d_Shelf_first_leaf : DMm K cls 0 "first_leaf" "Shelf.first_leaf" yb1 ["self", "text"]
 d_are_close : DG K mg "are_close" ydg ["shelf", "one", "other"]
 d_Shelf_piece : DMm K cls 0 "piece" "Shelf.piece" ycN ["self", "number"]
 d_Shelf_check_fork : DMm K cls 0 "check_fork" "Shelf.check_fork" yb2 ["self", "one", "other"]
 d_Shelf_lay : DMm K cls 0 "lay" "Shelf.lay" ydh ["self", "made"]
 d_Shelf_lay_fork : DMm K cls 0 "lay_fork" "Shelf.lay_fork" ycf ["self", "made"]
 d_Shelf_fork : DMm K cls 0 "fork" "Shelf.fork" yc4 ["self", "one", "other"]
 d_with_last : DG K mg "with_last" ydi ["shelf", "text", "leaf"]
 d_turned_left : DG K mg "turned_left" ycO ["shelf", "one", "other"]
 d_without_first : DG K mg "without_first" ycu ["shelf", "text"]
 d_turned_right : DG K mg "turned_right" ycC ["shelf", "one", "other"]
 d_linked : DG K mg "linked" yd7 ["shelf", "one", "other"]
 d_is_plain_sign : DG K mg "is_plain_sign" ycv ["sign"]
 d_is_plain : DG K mg "is_plain" ycU ["thing"]
 d_is_short : DG K mg "is_short" ydE ["thing"]
 d_ends_in : DG K mg "ends_in" ydS ["plain"]
 d_Shelf_lay_leaf : DMm K cls 0 "lay_leaf" "Shelf.lay_leaf" ycg ["self", "made"]
 d_Shelf_leaf : DMm K cls 0 "leaf" "Shelf.leaf" yc5 ["self", "plain"]
 d_welded : DG K mg "welded" yd8 ["shelf", "one", "other"]
 d_joined : DG K mg "joined" yd9 ["shelf", "one", "other"]
 d_doubled : DG K mg "doubled" ydT ["shelf", "text", "many"]
 d_repeated : DG K mg "repeated" ydF ["shelf", "text", "many"]
 d_halved : DG K mg "halved" yea ["shelf", "leaves"]
 d_built : DG K mg "built" yd4 ["shelf", "plain"]
 d_check_gap : DG K mg "check_gap" ydj ["shelf", "text", "at"]
 d_front_of : DG K mg "front_of" ydG ["shelf", "text", "at"]
 d_back_of : DG K mg "back_of" ydU ["shelf", "text", "at"]
 d_cut_at : DG K mg "cut_at" yeb ["shelf", "text", "at"]
 d_put_in : DG K mg "put_in" yec ["shelf", "text", "at", "other"]
 d_check_stretch : DG K mg "check_stretch" ycw ["shelf", "text", "begin", "end"]
 d_taken_out : DG K mg "taken_out" ydk ["shelf", "text", "begin", "end"]
 d_kept_part : DG K mg "kept_part" ydl ["shelf", "text", "begin", "end"]
 d_law_done : DG K mg "_law_done" ydH ["shelf", "deed"]
 d_law_read : DG K mg "_law_read" ydI ["shelf", "text"]
 d_law_look : DG K mg "_law_look" ydJ ["shelf", "number", "known"]
 d_law_sound : DG K mg "_law_sound" ydm ["shelf", "text"]
 d_law_right : DG K mg "_law_right" ydn ["shelf", "deed", "plains"]
 d_law : DG K mg "law" yd5 ["script"]
theorem zdZ : FnScope ["self"] ["self"] (yag yc2):=fsk
theorem zd0 : FnScope ["self"] ["self"] (yag yc3):=fsk
theorem zeD : FnScope ["cell", "k", "one"] ["cell", "k"] (yag ydc):=fsk
theorem zgm : FnScope ["cell", "k", "found", "j"] ["cell", "k"] (yag ydQ):=fsk
theorem zeW : FnScope ["stream", "many", "digit"] ["stream", "many"] (yag ydB):=fsk
theorem zeE : FnScope ["kind", "many"] ["kind"] (yag ydd):=fsk
theorem zeF : FnScope ["stream", "most", "signs", "found", "k"] ["stream", "most"] (yag yde):=fsk
theorem zeG : FnScope ["row", "stream", "kind", "some", "length", "at"] ["row", "stream"] (yag ydf):=fsk
theorem zgn : FnScope ["deed", "word", "some", "at", "to", "one", "other"] ["deed"] (yag ydR):=fsk
theorem zeX : FnScope ["thing"] ["thing"] (yag ydC):=fsk
theorem zbW : FnScope ["self", "number"] ["self", "number"] (yag yb6):=fsk
theorem zbG : FnScope ["self", "number"] ["self", "number"] (yag ybQ):=fsk
theorem zbK : FnScope ["self", "text"] ["self", "text"] (yag yb0):=fsk
theorem zcW : FnScope ["self", "text"] ["self", "text"] (yag ycA):=fsk
theorem zeY : FnScope ["shelf", "deed", "word", "some", "at", "to", "high"] ["shelf", "deed"] (yag ydD):=fsk
theorem zdp : FnScope ["self", "text"] ["self", "text"] (yag ycM):=fsk
theorem zcX : FnScope ["signs"] ["signs"] (yag ycB):=fsk
theorem zbX : FnScope ["self", "text"] ["self", "text"] (yag yb7):=fsk
theorem zbL : FnScope ["self", "text"] ["self", "text"] (yag yb1):=fsk
theorem zeH : FnScope ["shelf", "one", "other"] ["shelf", "one", "other"] (yag ydg):=fsk
theorem zdq : FnScope ["self", "number"] ["self", "number"] (yag ycN):=fsk
theorem zbM : FnScope ["self", "one", "other", "seam"] ["self", "one", "other"] (yag yb2):=fsk
theorem zeI : FnScope ["self", "made", "number"] ["self", "made"] (yag ydh):=fsk
theorem zcd : FnScope ["self", "made", "one", "other"] ["self", "made"] (yag ycf):=fsk
theorem zd1 : FnScope ["self", "one", "other", "made"] ["self", "one", "other"] (yag yc4):=fsk
theorem zbY : FnScope ["shelf", "text", "leaf", "piece"] ["shelf", "text", "leaf"] (yag ydi):=fsk
theorem zdr : FnScope ["shelf", "one", "other", "piece", "near", "far", "inner"] ["shelf", "one", "other"] (yag ycO):=fsk
theorem zbc : FnScope ["shelf", "text", "piece", "rest"] ["shelf", "text"] (yag ycu):=fsk
theorem zcY : FnScope ["shelf", "one", "other", "piece", "far", "near", "inner"] ["shelf", "one", "other"] (yag ycC):=fsk
theorem zdS : FnScope ["shelf", "one", "other", "tilt", "piece"] ["shelf", "one", "other"] (yag yd7):=fsk
theorem zcJ : FnScope ["sign"] ["sign"] (yag ycv):=fsk
theorem zeZ : FnScope ["thing"] ["thing"] (yag ycU):=fsk
theorem ze0 : FnScope ["thing"] ["thing"] (yag ydE):=fsk
theorem zgo : FnScope ["plain"] ["plain"] (yag ydS):=fsk
theorem zce : FnScope ["self", "made", "number", "plain"] ["self", "made"] (yag ycg):=fsk
theorem zd2 : FnScope ["self", "plain", "made"] ["self", "plain"] (yag yc5):=fsk
theorem zhl : FnScope ["shelf", "one", "other", "seam", "front", "back"] ["shelf", "one", "other"] (yag yd8):=fsk
theorem zhm : FnScope ["shelf", "one", "other"] ["shelf", "one", "other"] (yag yd9):=fsk
theorem zcZ : FnScope ["shelf", "text", "many", "half", "twice"] ["shelf", "text", "many"] (yag ydT):=fsk
theorem ze1 : FnScope ["shelf", "text", "many", "signs"] ["shelf", "text", "many"] (yag ydF):=fsk
theorem zdT : FnScope ["shelf", "leaves", "middle"] ["shelf", "leaves"] (yag yea):=fsk
theorem zim : FnScope ["shelf", "plain", "leaves"] ["shelf", "plain"] (yag yd4):=fsk
theorem zeJ : FnScope ["shelf", "text", "at", "signs"] ["shelf", "text", "at"] (yag ydj):=fsk
theorem zcn : FnScope ["shelf", "text", "at", "piece", "ahead"] ["shelf", "text", "at"] (yag ydG):=fsk
theorem zc0 : FnScope ["shelf", "text", "at", "piece", "ahead"] ["shelf", "text", "at"] (yag ydU):=fsk
theorem zhn : FnScope ["shelf", "text", "at"] ["shelf", "text", "at"] (yag yeb):=fsk
theorem zho : FnScope ["shelf", "text", "at", "other", "together", "front"] ["shelf", "text", "at", "other"] (yag yec):=fsk
theorem zcK : FnScope ["shelf", "text", "begin", "end", "signs"] ["shelf", "text", "begin", "end"] (yag ycw):=fsk
theorem zeK : FnScope ["shelf", "text", "begin", "end"] ["shelf", "text", "begin", "end"] (yag ydk):=fsk
theorem zeL : FnScope ["shelf", "text", "begin", "end"] ["shelf", "text", "begin", "end"] (yag ydl):=fsk
theorem ze2 : FnScope ["shelf", "deed", "word", "some", "at", "to", "one", "other"] ["shelf", "deed"] (yag ydH):=fsk
theorem ze3 : FnScope ["shelf", "text", "found", "waiting", "number", "piece"] ["shelf", "text"] (yag ydI):=fsk
theorem zco : FnScope ["shelf", "number", "known", "piece", "found", "one", "other"] ["shelf", "number", "known"] (yag ydJ):=fsk
theorem zeM : FnScope ["shelf", "text"] ["shelf", "text"] (yag ydm):=fsk
theorem zeN : FnScope ["shelf", "deed", "plains", "many", "room", "texts", "text", "plain"] ["shelf", "deed", "plains"] (yag ydn):=fsk
theorem yhf : FnScope ["script", "shelf", "row", "made", "k", "cell", "stream", "deed", "plains", "texts", "many"] ["script"] (yag yd5):=fsk
section
variable {P : Program} {w : World} {K : PySem.W.Frag} {cls exc : Nat -> Option Addr} {mg : Str -> Option Value} {base : Heap} (Z : Facts P w K cls exc mg base)
include Z
theorem zeO : GK P w (mkT K cls exc) mg base 1 0 "Shelf" ybW:=gk Z.d_Shelf_init zdZ fun hr C hu nd =>
 (zab (zaI rfl Z.cf_Shelf (yaa 0) (ybI yab))
  (zab (zaI rfl Z.cf_Shelf (yaa 0) ziZ)
  (zab (zaI rfl Z.cf_Shelf (yaa 0) (ybI (zaa yac yab)))
  (zab (zaI rfl Z.cf_Shelf (yaa 0) (ybI (zaa yac yab)))
  (zab (zaI rfl Z.cf_Shelf (yaa 0) (ybI (zaa yac yab)))
  (zab (zaI rfl Z.cf_Shelf (yaa 0) (ybI (zaa (ye6 yac) yab)))
  (zab (zaI rfl Z.cf_Shelf (yaa 0) (ybI (zaa yac yab)))
  (yad (zaI rfl Z.cf_Shelf (yaa 0) (ybI (zaa yac yab)))))))))))
theorem zaW : GM P w (mkT K cls exc) mg base 1 0 "many" ybl:=gm Z.d_Shelf_many zd0 (show ("many" : Str) ∉ flds 0 by decide +kernel) fun hr C hu nd =>
 (yad (yai (r_bi (b_len rfl) rfl Z.b_len PySem.boot_len (zaa (yaG rfl Z.cf_Shelf (yaa 0)) yab))))
theorem ze4 : GF P w (mkT K cls exc) mg base 1 "_law_mixed" ycF:=gf Z.d_law_mixed zeD fun hr C hu nd =>
 (zab (yap (i:=2) nd (yar ydx (yar ycD (yar (yaO rfl) (yar (yaO rfl) (yar ydx (yaa 0) yac) (yar ycD yac (yaa 1))) yac) yac) yac))
  (yad (yai (yar ydx (yar ycD (yar ydx (yar ycD (yaa 2) (yaa 2)) yac) yac) yac))))
theorem zhp : GF P w (mkT K cls exc) mg base 2 "_law_own" ybX:=gf Z.d_law_own zgm fun hr C hu nd =>
 (zab (yap (i:=0) nd (yar ydx (yaa 0) (yar ycD (yar ye5 yac yac) (yar ye5 yac yac))))
  (zab (r_if (yan o_ge (yaa 0) (yar ye5 yac yac) (yal _)) (yad (yai (ybI (zaa (yaa 0) yab)))) yao)
  (zab (yap (i:=2) nd yac)
  (zab (yeF rfl (zdE (E:=EN) rfl Z.b_range yac) (zfs (i:=3) nd) (yad (yap (i:=2) nd (yar (yaO rfl) (yar ycD (yaa 2) yac) (yah rfl (C.nox) (ze4 Z) hr.m rfl (zaa (yar (yaO rfl) (yaa 0) (yar ycD yac (yaa 1))) (zaa (yaa 3) yab)))))))
  (yad (yai (ybI (zaa (yaa 2) yab))))))))
theorem zay : GF P w (mkT K cls exc) mg base 1 "_law_take" yax:=gf Z.d_law_take zeW fun hr C hu nd =>
 (zab (yap (i:=2) nd (yar ydx (r_ix rfl hu (yaa 0) yac) (yaa 1)))
  (zab (zdd hu (yaa 0) yac (yar ye4 (r_ix rfl hu (yaa 0) yac) (yaa 1)))
  (yad (yai (yaa 2)))))
theorem ze5 : GF P w (mkT K cls exc) mg base 1 "_law_signs" ycG:=gf Z.d_law_signs zeE fun hr C hu nd =>
 (zab (yap (i:=1) nd yaw)
  (yad (yai (r_ix rfl hu (ya6 (zaa yaw (zaa (yar (yaO rfl) yaw yaw) (zaa (yar (yaO rfl) (yar (yaO rfl) (yar (yaO rfl) (yar (yaO rfl) (yaa 1) yaw) yaw) yaw) yaw) (zaa yaw yab))))) (yaa 0)))))
theorem ze6 : GF P w (mkT K cls exc) mg base 2 "_law_plain" yca:=gf Z.d_law_plain zeF fun hr C hu nd =>
 (zab (yap (i:=2) nd (yah rfl C (ze5 Z) hr.m rfl (zaa (yah rfl C (zay Z) hr.m rfl (zaa (yaa 0) (zaa yac yab))) yab)))
  (zab (yap (i:=3) nd yaw)
  (zab (yeF rfl (zdE (E:=EN) rfl Z.b_range (yah rfl (C.nox) (zay Z) hr.m rfl (zaa (yaa 0) (zaa (yar (yaO rfl) (yaa 1) yac) yab)))) (zfs (i:=4) nd) (yad (yap (i:=3) nd (yar (yaO rfl) (yaa 3) (r_ix rfl hu (yaa 2) (yah rfl (C.nox) (zay Z) hr.m rfl (zaa (yaa 0) (zaa (r_bi (b_len rfl) rfl Z.b_len PySem.boot_len (zaa (yaa 2) yab)) yab))))))))
  (yad (yai (yaa 3))))))
theorem ze7 : GF P w (mkT K cls exc) mg base 3 "_law_drawn" ybu:=gf Z.d_law_drawn zeG fun hr C hu nd =>
 (zab (yap (i:=2) nd (yah rfl C (zay Z) hr.m rfl (zaa (yaa 1) (zaa yac yab))))
  (zab (r_if (rt_w (yeh (yan o_lt (r_bi (b_len rfl) rfl Z.b_len PySem.boot_len (zaa (yaa 0) yab)) yac (yal _)) (ydN (yan (o_eq rfl hu) (yaa 2) yac (yal _))))) (yad (yai (yb5 (zaa yaw (zaa (ya6 yab) (zaa (yah rfl C (ze6 Z) hr.m rfl (zaa (yaa 1) (zaa (r_ix rfl hu (ya6 (zaa yac (zaa yac (zaa yac yab)))) (yah rfl C (zay Z) hr.m rfl (zaa (yaa 1) (zaa yac yab)))) yab))) (zaa yac yab))))))) yao)
  (zab (yap (i:=3) nd (ya6 (zaa (r_ix rfl hu (yaa 0) (yah rfl C (zay Z) hr.m rfl (zaa (yaa 1) (zaa (r_bi (b_len rfl) rfl Z.b_len PySem.boot_len (zaa (yaa 0) yab)) yab)))) (zaa (r_ix rfl hu (yaa 0) (yah rfl C (zay Z) hr.m rfl (zaa (yaa 1) (zaa (r_bi (b_len rfl) rfl Z.b_len PySem.boot_len (zaa (yaa 0) yab)) yab)))) yab))))
  (zab (yap (i:=4) nd (r_bi (b_len rfl) rfl Z.b_len PySem.boot_len (zaa (r_ix rfl hu (r_ix rfl hu (yaa 3) yac) yac) yab)))
  (zab (yap (i:=5) nd (yah rfl C (zay Z) hr.m rfl (zaa (yaa 1) (zaa (yar (yaO rfl) (yaa 4) yac) yab))))
  (zab (r_if (yan o_lt (yaa 2) yac (yal _)) (yad (yai (yb5 (zaa (r_ix rfl hu (ya6 (zaa yaw (zaa yaw (zaa yaw (zaa yaw (zaa yaw yab)))))) (yar ycm (yaa 2) yac)) (zaa (yaa 3) (zaa (yaa 5) (zaa (yar (yaO rfl) (yaa 5) (yah rfl C (zay Z) hr.m rfl (zaa (yaa 1) (zaa (yar (yaO rfl) (yar ycm (yaa 4) (yaa 5)) yac) yab)))) yab))))))) yao)
  (yad (yai (yb5 (zaa yaw (zaa (yaa 3) (zaa (yah rfl C (zay Z) hr.m rfl (zaa (yaa 1) (zaa yac yab))) (zaa yac yab)))))))))))))
theorem zhq : GF P w (mkT K cls exc) mg base 1 "_law_due" ybe:=gf Z.d_law_due zgn fun hr C hu nd =>
 (zab (yeQ (yaa 0) (ydr rfl rfl (zap (i:=1) nd (zap (i:=2) nd (zap (i:=3) nd (zap (i:=4) nd za7))))))
  (zab (r_if (yan (o_eq rfl hu) (yaa 1) yaw (yal _)) (yad (yai (ya6 (zaa (yaa 3) yab)))) yao)
  (zab (yap (i:=5) nd (r_ix rfl hu (r_ix rfl hu (yaa 2) yac) yac))
  (zab (yap (i:=6) nd (r_ix rfl hu (r_ix rfl hu (yaa 2) yac) yac))
  (zab (r_if (yan (o_eq rfl hu) (yaa 1) yaw (yal _)) (yad (yai (ya6 (zaa (yar (yaO rfl) (yaa 5) (yaa 6)) yab)))) yao)
  (zab (r_if (yan (o_eq rfl hu) (yaa 1) yaw (yal _)) (yad (yai (ya6 (zaa (zaC rfl (yaa 5) zaH (zaA (yaa 3))) (zaa (zaC rfl (yaa 5) (zaA (yaa 3)) zaH) yab))))) yao)
  (zab (r_if (yan (o_eq rfl hu) (yaa 1) yaw (yal _)) (yad (yai (ya6 (zaa (yar (yaO rfl) (yar (yaO rfl) (zaC rfl (yaa 5) zaH (zaA (yaa 3))) (yaa 6)) (zaC rfl (yaa 5) (zaA (yaa 3)) zaH)) yab)))) yao)
  (zab (r_if (yan (o_eq rfl hu) (yaa 1) yaw (yal _)) (yad (yai (ya6 (zaa (yar (yaO rfl) (zaC rfl (yaa 5) zaH (zaA (yaa 3))) (zaC rfl (yaa 5) (zaA (yaa 4)) zaH)) yab)))) yao)
  (zab (r_if (yan (o_eq rfl hu) (yaa 1) yaw (yal _)) (yad (yai (ya6 (zaa (zaC rfl (yaa 5) (zaA (yaa 3)) (zaA (yaa 4))) yab)))) yao)
  (yad (yai (ya6 (zaa (yar ygP (yaa 5) (yaa 3)) yab)))))))))))))
theorem zgp : GF P w (mkT K cls exc) mg base 1 "is_whole" ycP:=gf Z.d_is_whole zeX fun hr C hu nd =>
 (yad (yai (ye7 (yeG rfl rfl Z.b_isinstance (yaa 0) rfl Z.b_int yfn (by decide)) (yei (yhK (yeG rfl rfl Z.b_isinstance (yaa 0) rfl Z.b_bool ziS (by decide)))))))
theorem zcf : GM P w (mkT K cls exc) mg base 2 0 "has_piece" ybH:=gm Z.d_Shelf_has_piece zbW (show ("has_piece" : Str) ∉ flds 0 by decide +kernel) fun hr C hu nd =>
 (yad (yai (ye7 (yah rfl C (zgp Z) hr.m rfl (zaa (yaa 1) yab)) (yei (zdb o_le o_le yac (yaa 1) (r_bi (b_len rfl) rfl Z.b_len PySem.boot_len (zaa (yaG rfl Z.cf_Shelf (yaa 0)) yab)))))))
theorem zaB : GM P w (mkT K cls exc) mg base 3 0 "check_piece" yaZ:=gm Z.d_Shelf_check_piece zbG (show ("check_piece" : Str) ∉ flds 0 by decide +kernel) fun hr C hu nd =>
 (yad (r_if (ycX (zaP rfl (yam rfl C (zcf Z) hr.m (yaa 0) (zaa (yaa 1) yab)))) (yad (zaG Z.x_NoPiece zaF rfl (zaa yaw yab))) yao))
theorem zaE : GM P w (mkT K cls exc) mg base 4 0 "check_text" yaU:=gm Z.d_Shelf_check_text zbK (show ("check_text" : Str) ∉ flds 0 by decide +kernel) fun hr C hu nd =>
 (yad (r_if (yan (o_ne rfl hu) (yaa 1) yac (yal _)) (yad (yaH (yam rfl C (zaB Z) hr.m (yaa 0) (zaa (yaa 1) yab)))) yao))
theorem zan : GM P w (mkT K cls exc) mg base 5 0 "height" yaz:=gm Z.d_Shelf_height zcW (show ("height" : Str) ∉ flds 0 by decide +kernel) fun hr C hu nd =>
 (zab (yaH (yam rfl C (zaE Z) hr.m (yaa 0) (zaa (yaa 1) yab)))
  (yad (yai (r_ix rfl hu (yaG rfl Z.cf_Shelf (yaa 0)) (yaa 1)))))
theorem zgq : GF P w (mkT K cls exc) mg base 6 "_law_room" yaQ:=gf Z.d_law_room zeY fun hr C hu nd =>
 (zab (yeQ (yaa 1) (ydr rfl rfl (zap (i:=2) nd (zap (i:=3) nd (zap (i:=4) nd (zap (i:=5) nd za7))))))
  (zab (r_if (rt_w (yeh (yan (o_eq rfl hu) (yaa 2) yaw (yal _)) (ydN (yan (o_eq rfl hu) (yaa 2) yaw (yal _))))) (yad (yai (ye6 yac))) yao)
  (zab (yap (i:=6) nd (yam rfl C (zan Z) hr.m (yaa 0) (zaa (r_ix rfl hu (r_ix rfl hu (yaa 3) yac) yac) yab)))
  (zab (r_if (rt_w (yeh (yan (o_eq rfl hu) (yaa 2) yaw (yal _)) (ydN (yan (o_eq rfl hu) (yaa 2) yaw (yal _))))) (yad (yap (i:=6) nd (r_bi (yeU) rfl Z.b_max PyProof.Rows.boot_max (zaa (yaa 6) (zaa (yam rfl C (zan Z) hr.m (yaa 0) (zaa (r_ix rfl hu (r_ix rfl hu (yaa 3) yac) yac) yab)) yab))))) yao)
  (zab (r_if (yan (o_eq rfl hu) (yaa 2) yaw (yal _)) (yad (yai (yar ycD yac (yar (yaO rfl) (yaa 6) yac)))) yao)
  (yad (yai (yar ycD (r_ix rfl hu (ya6 (zaa yac (zaa yac yab))) (r_ty (b_int) rfl Z.b_int yfn (zaa (ydW (o_ne rfl hu) (yaa 2) yaw (yal _)) yab))) (yar (yaO rfl) (yaa 6) yac)))))))))
theorem zao : GM P w (mkT K cls exc) mg base 5 0 "signs" yaC:=gm Z.d_Shelf_signs zdp (show ("signs" : Str) ∉ flds 0 by decide +kernel) fun hr C hu nd =>
 (zab (yaH (yam rfl C (zaE Z) hr.m (yaa 0) (zaa (yaa 1) yab)))
  (yad (yai (r_ix rfl hu (yaG rfl Z.cf_Shelf (yaa 0)) (yaa 1)))))
theorem zaZ : GF P w (mkT K cls exc) mg base 1 "check_length" ybw:=gf Z.d_check_length zcX fun hr C hu nd =>
 (yad (r_if (yan o_gt (yaa 0) (r_gI rfl Z.c_MOST_SIGNS) (yal _)) (yad (zaG Z.x_TooLong zaF rfl (zaa yaw yab))) yao))
theorem za4 : GM P w (mkT K cls exc) mg base 5 0 "last_leaf" ybt:=gm Z.d_Shelf_last_leaf zbX (show ("last_leaf" : Str) ∉ flds 0 by decide +kernel) fun hr C hu nd =>
 (zab (yaH (yam rfl C (zaE Z) hr.m (yaa 0) (zaa (yaa 1) yab)))
  (yad (yai (r_ix rfl hu (yaG rfl Z.cf_Shelf (yaa 0)) (yaa 1)))))
theorem za3 : GM P w (mkT K cls exc) mg base 5 0 "first_leaf" ybm:=gm Z.d_Shelf_first_leaf zbL (show ("first_leaf" : Str) ∉ flds 0 by decide +kernel) fun hr C hu nd =>
 (zab (yaH (yam rfl C (zaE Z) hr.m (yaa 0) (zaa (yaa 1) yab)))
  (yad (yai (r_ix rfl hu (yaG rfl Z.cf_Shelf (yaa 0)) (yaa 1)))))
theorem ze8 : GF P w (mkT K cls exc) mg base 6 "are_close" ycH:=gf Z.d_are_close zeH fun hr C hu nd =>
 (yad (yai (ydW o_gt (yar (yaO rfl) (yam rfl C (zao Z) hr.m (yaa 0) (zaa (yam rfl C (za4 Z) hr.m (yaa 0) (zaa (yaa 1) yab)) yab)) (yam rfl C (zao Z) hr.m (yaa 0) (zaa (yam rfl C (za3 Z) hr.m (yaa 0) (zaa (yaa 2) yab)) yab))) (r_gI rfl Z.c_LEAF_SIGNS) (yal _))))
theorem zaj : GM P w (mkT K cls exc) mg base 4 0 "piece" yaA:=gm Z.d_Shelf_piece zdq (show ("piece" : Str) ∉ flds 0 by decide +kernel) fun hr C hu nd =>
 (zab (yaH (yam rfl C (zaB Z) hr.m (yaa 0) (zaa (yaa 1) yab)))
  (yad (yai (r_ix rfl hu (yaG rfl Z.cf_Shelf (yaa 0)) (yar ycm (yaa 1) yac)))))
theorem zbZ : GM P w (mkT K cls exc) mg base 4 0 "check_fork" yaV:=gm Z.d_Shelf_check_fork zbM (show ("check_fork" : Str) ∉ flds 0 by decide +kernel) fun hr C hu nd =>
 (zab (yaH (yam rfl C (zaB Z) hr.m (yaa 0) (zaa (yaa 1) yab)))
  (zab (yaH (yam rfl C (zaB Z) hr.m (yaa 0) (zaa (yaa 2) yab)))
  (zab (yap (i:=3) nd (yar (yaO rfl) (r_ix rfl hu (yaG rfl Z.cf_Shelf (yaa 0)) (r_ix rfl hu (yaG rfl Z.cf_Shelf (yaa 0)) (yaa 1))) (r_ix rfl hu (yaG rfl Z.cf_Shelf (yaa 0)) (r_ix rfl hu (yaG rfl Z.cf_Shelf (yaa 0)) (yaa 2)))))
  (zab (r_if (yan o_le (yaa 3) (r_gI rfl Z.c_LEAF_SIGNS) (yal _)) (yad (zaG Z.x_Loose zaF rfl (zaa yaw yab))) yao)
  (zab (r_if (yan o_gt (r_bi (b_abs) rfl Z.b_abs PyProof.Rows.boot_abs (zaa (yar ycm (r_ix rfl hu (yaG rfl Z.cf_Shelf (yaa 0)) (yaa 1)) (r_ix rfl hu (yaG rfl Z.cf_Shelf (yaa 0)) (yaa 2))) yab)) yac (yal _)) (yad (zaG Z.x_Unlevel zaF rfl (zaa yaw yab))) yao)
  (yad (r_if (yan o_gt (yar (yaO rfl) (r_ix rfl hu (yaG rfl Z.cf_Shelf (yaa 0)) (yaa 1)) (r_ix rfl hu (yaG rfl Z.cf_Shelf (yaa 0)) (yaa 2))) (r_gI rfl Z.c_MOST_SIGNS) (yal _)) (yad (zaG Z.x_TooLong zaF rfl (zaa yaw yab))) yao)))))))
theorem zcp : GM P w (mkT K cls exc) mg base 1 0 "lay" ycb:=gm Z.d_Shelf_lay zeI (show ("lay" : Str) ∉ flds 0 by decide +kernel) fun hr C hu nd =>
 (zab (yaH (r_bm rfl PySem.F.plainAttrs_list PySem.F.slot_list_append PySem.F.type_list_append (zaw) zat (yaG rfl Z.cf_Shelf (yaa 0)) (zaa (yaa 1) yab)))
  (zab (yap (i:=2) nd (r_bi (b_len rfl) rfl Z.b_len PySem.boot_len (zaa (yaG rfl Z.cf_Shelf (yaa 0)) yab)))
  (zab (zdd hu (yaG rfl Z.cf_Shelf (yaa 0)) (yaa 1) (yaa 2))
  (yad (yai (yaa 2))))))
theorem zcL : GM P w (mkT K cls exc) mg base 2 0 "lay_fork" ybx:=gm Z.d_Shelf_lay_fork zcd (show ("lay_fork" : Str) ∉ flds 0 by decide +kernel) fun hr C hu nd =>
 (zab (yaH (yam rfl C (zcp Z) hr.m (yaa 0) (zaa (yaa 1) yab)))
  (zab (yap (i:=2) nd (r_ix rfl hu (yaa 1) yac))
  (zab (yap (i:=3) nd (r_ix rfl hu (yaa 1) yac))
  (zab (yaH (r_bm rfl PySem.F.plainAttrs_list PySem.F.slot_list_append PySem.F.type_list_append (zaw) zat (yaG rfl Z.cf_Shelf (yaa 0)) (zaa (yar (yaO rfl) (r_ix rfl hu (yaG rfl Z.cf_Shelf (yaa 0)) (yaa 2)) (r_ix rfl hu (yaG rfl Z.cf_Shelf (yaa 0)) (yaa 3))) yab)))
  (zab (yaH (r_bm rfl PySem.F.plainAttrs_list PySem.F.slot_list_append PySem.F.type_list_append (zaw) zat (yaG rfl Z.cf_Shelf (yaa 0)) (zaa (yar (yaO rfl) (r_ix rfl hu (yaG rfl Z.cf_Shelf (yaa 0)) (yaa 2)) (r_ix rfl hu (yaG rfl Z.cf_Shelf (yaa 0)) (yaa 3))) yab)))
  (zab (yaH (r_bm rfl PySem.F.plainAttrs_list PySem.F.slot_list_append PySem.F.type_list_append (zaw) zat (yaG rfl Z.cf_Shelf (yaa 0)) (zaa (yar (yaO rfl) (r_ix rfl hu (yaG rfl Z.cf_Shelf (yaa 0)) (yaa 2)) (r_ix rfl hu (yaG rfl Z.cf_Shelf (yaa 0)) (yaa 3))) yab)))
  (zab (yaH (r_bm rfl PySem.F.plainAttrs_list PySem.F.slot_list_append PySem.F.type_list_append (zaw) zat (yaG rfl Z.cf_Shelf (yaa 0)) (zaa (yar (yaO rfl) (r_bi (yeU) rfl Z.b_max PyProof.Rows.boot_max (zaa (r_ix rfl hu (yaG rfl Z.cf_Shelf (yaa 0)) (yaa 2)) (zaa (r_ix rfl hu (yaG rfl Z.cf_Shelf (yaa 0)) (yaa 3)) yab))) yac) yab)))
  (zab (yaH (r_bm rfl PySem.F.plainAttrs_list PySem.F.slot_list_append PySem.F.type_list_append (zaw) zat (yaG rfl Z.cf_Shelf (yaa 0)) (zaa (r_ix rfl hu (yaG rfl Z.cf_Shelf (yaa 0)) (yaa 2)) yab)))
  (yad (yaH (r_bm rfl PySem.F.plainAttrs_list PySem.F.slot_list_append PySem.F.type_list_append (zaw) zat (yaG rfl Z.cf_Shelf (yaa 0)) (zaa (r_ix rfl hu (yaG rfl Z.cf_Shelf (yaa 0)) (yaa 3)) yab))))))))))))
theorem zak : GM P w (mkT K cls exc) mg base 5 0 "fork" yae:=gm Z.d_Shelf_fork zd1 (show ("fork" : Str) ∉ flds 0 by decide +kernel) fun hr C hu nd =>
 (zab (yaH (yam rfl C (zbZ Z) hr.m (yaa 0) (zaa (yaa 1) (zaa (yaa 2) yab))))
  (zab (yap (i:=3) nd (yb5 (zaa yaw (zaa (yaa 1) (zaa (yaa 2) yab)))))
  (zab (r_if (yan (zfy rfl hu) (yaa 3) (yaG rfl Z.cf_Shelf (yaa 0)) rfl) (yad (yaH (yam rfl C (zcL Z) hr.m (yaa 0) (zaa (yaa 3) yab)))) yao)
  (yad (yai (r_ix rfl hu (yaG rfl Z.cf_Shelf (yaa 0)) (yaa 3)))))))
theorem zcq : ∀ d,GF P w (mkT K cls exc) mg base (5 + d + 1) "with_last" (ya2 d)
 | 0=>gf Z.d_with_last zbY fun _ _ _ _=>ycL
 | d + 1=>gf Z.d_with_last zbY fun hr C hu nd =>
  (zab (yap (i:=3) nd (yam rfl C (zaj Z) (hr.mono (show 4 <= 5 + (d + 1) by lia)) (yaa 0) (zaa (yaa 1) yab)))
  (zab (r_if (yan (o_eq rfl hu) (r_ix rfl hu (yaa 3) yac) yaw (yal _)) (yad (yai (yaa 2))) yao)
  (yad (yai (yam rfl C (zak Z) (hr.mono (show 5 <= 5 + (d + 1) by lia)) (yaa 0) (zaa (r_ix rfl hu (yaa 3) yac) (zaa (yah rfl C (zcq d) (hr.mono (by lia)) rfl (zaa (yaa 0) (zaa (r_ix rfl hu (yaa 3) yac) (zaa (yaa 2) yab)))) yab)))))))
theorem zbJ : GF P w (mkT K cls exc) mg base 6 "turned_left" yaL:=gf Z.d_turned_left zdr fun hr C hu nd =>
 (zab (r_if (yan o_lt (yar ycm (yam rfl C (zan Z) hr.m (yaa 0) (zaa (yaa 2) yab)) (yam rfl C (zan Z) hr.m (yaa 0) (zaa (yaa 1) yab))) yac (yal _)) (yad (yai (yam rfl C (zak Z) hr.m (yaa 0) (zaa (yaa 1) (zaa (yaa 2) yab))))) yao)
  (zab (yap (i:=3) nd (yam rfl C (zaj Z) hr.m (yaa 0) (zaa (yaa 2) yab)))
  (zab (yap (i:=4) nd (r_ix rfl hu (yaa 3) yac))
  (zab (yap (i:=5) nd (r_ix rfl hu (yaa 3) yac))
  (zab (r_if (yan o_le (yam rfl C (zan Z) hr.m (yaa 0) (zaa (yaa 4) yab)) (yam rfl C (zan Z) hr.m (yaa 0) (zaa (yaa 5) yab)) (yal _)) (yad (yai (yam rfl C (zak Z) hr.m (yaa 0) (zaa (yam rfl C (zak Z) hr.m (yaa 0) (zaa (yaa 1) (zaa (yaa 4) yab))) (zaa (yaa 5) yab))))) yao)
  (zab (yap (i:=6) nd (yam rfl C (zaj Z) hr.m (yaa 0) (zaa (yaa 4) yab)))
  (yad (yai (yam rfl C (zak Z) hr.m (yaa 0) (zaa (yam rfl C (zak Z) hr.m (yaa 0) (zaa (yaa 1) (zaa (r_ix rfl hu (yaa 6) yac) yab))) (zaa (yam rfl C (zak Z) hr.m (yaa 0) (zaa (r_ix rfl hu (yaa 6) yac) (zaa (yaa 5) yab))) yab)))))))))))
theorem zbi : ∀ d,GF P w (mkT K cls exc) mg base (6 + d + 1) "without_first" (yaE d)
 | 0=>gf Z.d_without_first zbc fun _ _ _ _=>ycL
 | d + 1=>gf Z.d_without_first zbc fun hr C hu nd =>
  (zab (yap (i:=2) nd (yam rfl C (zaj Z) (hr.mono (show 4 <= 6 + (d + 1) by lia)) (yaa 0) (zaa (yaa 1) yab)))
  (zab (r_if (yan (o_eq rfl hu) (r_ix rfl hu (yaa 2) yac) yaw (yal _)) (yad (yai yac)) yao)
  (zab (yap (i:=3) nd (yah rfl C (zbi d) (hr.mono (by lia)) rfl (zaa (yaa 0) (zaa (r_ix rfl hu (yaa 2) yac) yab))))
  (zab (r_if (yan (o_eq rfl hu) (yaa 3) yac (yal _)) (yad (yai (r_ix rfl hu (yaa 2) yac))) yao)
  (yad (yai (yah rfl C (zbJ Z) (hr.mono (show 6 <= 6 + (d + 1) by lia)) rfl (zaa (yaa 0) (zaa (yaa 3) (zaa (r_ix rfl hu (yaa 2) yac) yab))))))))))
theorem zds : GF P w (mkT K cls exc) mg base 6 "turned_right" yaS:=gf Z.d_turned_right zcY fun hr C hu nd =>
 (zab (r_if (yan o_lt (yar ycm (yam rfl C (zan Z) hr.m (yaa 0) (zaa (yaa 1) yab)) (yam rfl C (zan Z) hr.m (yaa 0) (zaa (yaa 2) yab))) yac (yal _)) (yad (yai (yam rfl C (zak Z) hr.m (yaa 0) (zaa (yaa 1) (zaa (yaa 2) yab))))) yao)
  (zab (yap (i:=3) nd (yam rfl C (zaj Z) hr.m (yaa 0) (zaa (yaa 1) yab)))
  (zab (yap (i:=4) nd (r_ix rfl hu (yaa 3) yac))
  (zab (yap (i:=5) nd (r_ix rfl hu (yaa 3) yac))
  (zab (r_if (yan o_le (yam rfl C (zan Z) hr.m (yaa 0) (zaa (yaa 5) yab)) (yam rfl C (zan Z) hr.m (yaa 0) (zaa (yaa 4) yab)) (yal _)) (yad (yai (yam rfl C (zak Z) hr.m (yaa 0) (zaa (yaa 4) (zaa (yam rfl C (zak Z) hr.m (yaa 0) (zaa (yaa 5) (zaa (yaa 2) yab))) yab))))) yao)
  (zab (yap (i:=6) nd (yam rfl C (zaj Z) hr.m (yaa 0) (zaa (yaa 5) yab)))
  (yad (yai (yam rfl C (zak Z) hr.m (yaa 0) (zaa (yam rfl C (zak Z) hr.m (yaa 0) (zaa (yaa 4) (zaa (r_ix rfl hu (yaa 6) yac) yab))) (zaa (yam rfl C (zak Z) hr.m (yaa 0) (zaa (r_ix rfl hu (yaa 6) yac) (zaa (yaa 2) yab))) yab)))))))))))
theorem zbH : ∀ d,GF P w (mkT K cls exc) mg base (6 + d + 1) "linked" (ya1 d)
 | 0=>gf Z.d_linked zdS fun _ _ _ _=>ycL
 | d + 1=>gf Z.d_linked zdS fun hr C hu nd =>
  (zab (yap (i:=3) nd (yar ycm (yam rfl C (zan Z) (hr.mono (show 5 <= 6 + (d + 1) by lia)) (yaa 0) (zaa (yaa 1) yab)) (yam rfl C (zan Z) (hr.mono (show 5 <= 6 + (d + 1) by lia)) (yaa 0) (zaa (yaa 2) yab))))
  (zab (r_if (yan o_gt (yaa 3) yac (yal _)) (zab (yap (i:=4) nd (yam rfl C (zaj Z) (hr.mono (show 4 <= 6 + (d + 1) by lia)) (yaa 0) (zaa (yaa 1) yab)))
  (yad (yai (yah rfl C (zbJ Z) (hr.mono (show 6 <= 6 + (d + 1) by lia)) rfl (zaa (yaa 0) (zaa (r_ix rfl hu (yaa 4) yac) (zaa (yah rfl C (zbH d) (hr.mono (by lia)) rfl (zaa (yaa 0) (zaa (r_ix rfl hu (yaa 4) yac) (zaa (yaa 2) yab)))) yab))))))) yao)
  (zab (r_if (yan o_lt (yaa 3) (ye6 yac) (yal _)) (zab (yap (i:=4) nd (yam rfl C (zaj Z) (hr.mono (show 4 <= 6 + (d + 1) by lia)) (yaa 0) (zaa (yaa 2) yab)))
  (yad (yai (yah rfl C (zds Z) (hr.mono (show 6 <= 6 + (d + 1) by lia)) rfl (zaa (yaa 0) (zaa (yah rfl C (zbH d) (hr.mono (by lia)) rfl (zaa (yaa 0) (zaa (yaa 1) (zaa (r_ix rfl hu (yaa 4) yac) yab)))) (zaa (r_ix rfl hu (yaa 4) yac) yab))))))) yao)
  (yad (yai (yam rfl C (zak Z) (hr.mono (show 5 <= 6 + (d + 1) by lia)) (yaa 0) (zaa (yaa 1) (zaa (yaa 2) yab))))))))
theorem zc1 : GF P w (mkT K cls exc) mg base 1 "is_plain_sign" ybC:=gf Z.d_is_plain_sign zcJ fun hr C hu nd =>
 (yad (yai (r_or (ydW (o_eq rfl hu) (yaa 0) yaw (yal _)) (yei (zdb o_le o_le yaw (yaa 0) yaw)))))
theorem zc2 : GF P w (mkT K cls exc) mg base 2 "is_plain" ycp:=gf Z.d_is_plain zeZ fun {f cdv A outer s H E} hr C hu nd =>
 (zab (r_if (ycX (zaP rfl (yeG rfl rfl Z.b_isinstance (yaa 0) rfl Z.b_str yfo (by decide)))) (yad (yai r_bl)) yao)
  (yad (yai (r_bi (b_all rfl) rfl Z.b_all PyProof.Rows.boot_all (zaa (yeS (jf:=[]) (zbe (N:=["thing"]) (sc:=yag ycU) rfl (fun _=>rfl) (by decide +kernel)) rfl (yeR (E:=(fun _=>E)) rfl (yaa 0)) (fun _ _ _ _ _=>zb4) (fun _ _ _ _ _=>(yah rfl (CA.never rfl) (zc1 Z) hr.m rfl (zaa (yaa 0) yab)))) yab)))))
theorem zgr : GF P w (mkT K cls exc) mg base 3 "is_short" ycQ:=gf Z.d_is_short ze0 fun hr C hu nd =>
 (yad (yai (ye7 (yah rfl C (zc2 Z) hr.m rfl (zaa (yaa 0) yab)) (yei (zdb o_le o_le yac (r_bi (b_len rfl) rfl Z.b_len PySem.boot_len (zaa (yaa 0) yab)) (r_gI rfl Z.c_LEAF_SIGNS))))))
theorem zhr : GF P w (mkT K cls exc) mg base 1 "ends_in" yc8:=gf Z.d_ends_in zgo fun hr C hu nd =>
 (yad (yai (r_bm rfl PySem.F.plainAttrs_str PySem.F.slot_str_count PySem.F.type_str_count (zh1) zfz (yaa 0) (zaa yaw yab))))
theorem zcM : GM P w (mkT K cls exc) mg base 2 0 "lay_leaf" yby:=gm Z.d_Shelf_lay_leaf zce (show ("lay_leaf" : Str) ∉ flds 0 by decide +kernel) fun hr C hu nd =>
 (zab (yap (i:=2) nd (yam rfl C (zcp Z) hr.m (yaa 0) (zaa (yaa 1) yab)))
  (zab (yap (i:=3) nd (r_ix rfl hu (yaa 1) yac))
  (zab (yaH (r_bm rfl PySem.F.plainAttrs_list PySem.F.slot_list_append PySem.F.type_list_append (zaw) zat (yaG rfl Z.cf_Shelf (yaa 0)) (zaa (r_bi (b_len rfl) rfl Z.b_len PySem.boot_len (zaa (yaa 3) yab)) yab)))
  (zab (yaH (r_bm rfl PySem.F.plainAttrs_list PySem.F.slot_list_append PySem.F.type_list_append (zaw) zat (yaG rfl Z.cf_Shelf (yaa 0)) (zaa (yah rfl C (zhr Z) hr.m rfl (zaa (yaa 3) yab)) yab)))
  (zab (yaH (r_bm rfl PySem.F.plainAttrs_list PySem.F.slot_list_append PySem.F.type_list_append (zaw) zat (yaG rfl Z.cf_Shelf (yaa 0)) (zaa yac yab)))
  (zab (yaH (r_bm rfl PySem.F.plainAttrs_list PySem.F.slot_list_append PySem.F.type_list_append (zaw) zat (yaG rfl Z.cf_Shelf (yaa 0)) (zaa yac yab)))
  (zab (yaH (r_bm rfl PySem.F.plainAttrs_list PySem.F.slot_list_append PySem.F.type_list_append (zaw) zat (yaG rfl Z.cf_Shelf (yaa 0)) (zaa (yaa 2) yab)))
  (yad (yaH (r_bm rfl PySem.F.plainAttrs_list PySem.F.slot_list_append PySem.F.type_list_append (zaw) zat (yaG rfl Z.cf_Shelf (yaa 0)) (zaa (yaa 2) yab)))))))))))
theorem zaX : GM P w (mkT K cls exc) mg base 4 0 "leaf" yav:=gm Z.d_Shelf_leaf zd2 (show ("leaf" : Str) ∉ flds 0 by decide +kernel) fun hr C hu nd =>
 (zab (r_if (ycX (zaP rfl (yah rfl C (zgr Z) hr.m rfl (zaa (yaa 1) yab)))) (yad (zaG Z.x_NoText zaF rfl (zaa yaw yab))) yao)
  (zab (yap (i:=2) nd (yb5 (zaa yaw (zaa (yaa 1) yab))))
  (zab (r_if (yan (zfy rfl hu) (yaa 2) (yaG rfl Z.cf_Shelf (yaa 0)) rfl) (yad (yaH (yam rfl C (zcM Z) hr.m (yaa 0) (zaa (yaa 2) yab)))) yao)
  (yad (yai (r_ix rfl hu (yaG rfl Z.cf_Shelf (yaa 0)) (yaa 2)))))))
theorem zin : GF P w (mkT K cls exc) mg base 98 "welded" ybY:=gf Z.d_welded zhl fun hr C hu nd =>
 (zab (yap (i:=3) nd (yar (yaO rfl) (r_ix rfl hu (yam rfl C (zaj Z) hr.m (yaa 0) (zaa (yam rfl C (za4 Z) hr.m (yaa 0) (zaa (yaa 1) yab)) yab)) yac) (r_ix rfl hu (yam rfl C (zaj Z) hr.m (yaa 0) (zaa (yam rfl C (za3 Z) hr.m (yaa 0) (zaa (yaa 2) yab)) yab)) yac)))
  (zab (yap (i:=4) nd (yah rfl C (zcq Z 90) hr.m rfl (zaa (yaa 0) (zaa (yaa 1) (zaa (yam rfl C (zaX Z) hr.m (yaa 0) (zaa (yaa 3) yab)) yab)))))
  (zab (yap (i:=5) nd (yah rfl C (zbi Z 90) hr.m rfl (zaa (yaa 0) (zaa (yaa 2) yab))))
  (zab (r_if (yan (o_eq rfl hu) (yaa 5) yac (yal _)) (yad (yai (yaa 4))) yao)
  (yad (yai (yah rfl C (zbH Z 90) hr.m rfl (zaa (yaa 0) (zaa (yaa 4) (zaa (yaa 5) yab))))))))))
theorem zaL : GF P w (mkT K cls exc) mg base 99 "joined" yaq:=gf Z.d_joined zhm fun hr C hu nd =>
 (zab (yaH (yah rfl C (zaZ Z) hr.m rfl (zaa (yar (yaO rfl) (yam rfl C (zao Z) hr.m (yaa 0) (zaa (yaa 1) yab)) (yam rfl C (zao Z) hr.m (yaa 0) (zaa (yaa 2) yab))) yab)))
  (zab (r_if (yan (o_eq rfl hu) (yaa 1) yac (yal _)) (yad (yai (yaa 2))) yao)
  (zab (r_if (yan (o_eq rfl hu) (yaa 2) yac (yal _)) (yad (yai (yaa 1))) yao)
  (zab (r_if (zaP rfl (yah rfl C (ze8 Z) hr.m rfl (zaa (yaa 0) (zaa (yaa 1) (zaa (yaa 2) yab))))) (yad (yai (yah rfl C (zbH Z 90) hr.m rfl (zaa (yaa 0) (zaa (yaa 1) (zaa (yaa 2) yab)))))) yao)
  (yad (yai (yah rfl C (zin Z) hr.m rfl (zaa (yaa 0) (zaa (yaa 1) (zaa (yaa 2) yab))))))))))
theorem zdU : ∀ d,GF P w (mkT K cls exc) mg base (99 + d + 1) "doubled" (yaW d)
 | 0=>gf Z.d_doubled zcZ fun _ _ _ _=>ycL
 | d + 1=>gf Z.d_doubled zcZ fun hr C hu nd =>
  (zab (r_if (yan (o_eq rfl hu) (yaa 2) yac (yal _)) (yad (yai yac)) yao)
  (zab (yap (i:=3) nd (yah rfl C (zdU d) (hr.mono (by lia)) rfl (zaa (yaa 0) (zaa (yaa 1) (zaa (yar ye4 (yaa 2) yac) yab)))))
  (zab (yap (i:=4) nd (yah rfl C (zaL Z) (hr.mono (show 99 <= 99 + (d + 1) by lia)) rfl (zaa (yaa 0) (zaa (yaa 3) (zaa (yaa 3) yab)))))
  (zab (r_if (yan (o_eq rfl hu) (yar ydx (yaa 2) yac) yac (yal _)) (yad (yai (yaa 4))) yao)
  (yad (yai (yah rfl C (zaL Z) (hr.mono (show 99 <= 99 + (d + 1) by lia)) rfl (zaa (yaa 0) (zaa (yaa 4) (zaa (yaa 1) yab))))))))))
theorem zgs : GF P w (mkT K cls exc) mg base 165 "repeated" ybD:=gf Z.d_repeated ze1 fun hr C hu nd =>
 (zab (yap (i:=3) nd (yam rfl C (zao Z) hr.m (yaa 0) (zaa (yaa 1) yab)))
  (zab (r_if (yan o_lt (yaa 2) yac (yal _)) (yad (zaG Z.x_NoPlace zaF rfl (zaa yaw yab))) yao)
  (zab (yaH (yah rfl C (zaZ Z) hr.m rfl (zaa (yar ycD (yaa 3) (yaa 2)) yab)))
  (zab (r_if (yan (o_eq rfl hu) (yaa 1) yac (yal _)) (yad (yai yac)) yao)
  (yad (yai (yah rfl C (zdU Z 64) hr.m rfl (zaa (yaa 0) (zaa (yaa 1) (zaa (yaa 2) yab))))))))))
theorem zcN : ∀ d,GF P w (mkT K cls exc) mg base (5 + d + 1) "halved" (ybo d)
 | 0=>gf Z.d_halved zdT fun _ _ _ _=>ycL
 | d + 1=>gf Z.d_halved zdT fun hr C hu nd =>
  (zab (r_if (yan (o_eq rfl hu) (r_bi (b_len rfl) rfl Z.b_len PySem.boot_len (zaa (yaa 1) yab)) yac (yal _)) (yad (yai (r_ix rfl hu (yaa 1) yac))) yao)
  (zab (yap (i:=2) nd (yar ye4 (r_bi (b_len rfl) rfl Z.b_len PySem.boot_len (zaa (yaa 1) yab)) yac))
  (yad (yai (yam rfl C (zak Z) (hr.mono (show 5 <= 5 + (d + 1) by lia)) (yaa 0) (zaa (yah rfl C (zcN d) (hr.mono (by lia)) rfl (zaa (yaa 0) (zaa (zaC rfl (yaa 1) zaH (zaA (yaa 2))) yab))) (zaa (yah rfl C (zcN d) (hr.mono (by lia)) rfl (zaa (yaa 0) (zaa (zaC rfl (yaa 1) (zaA (yaa 2)) zaH) yab))) yab)))))))
theorem zjM : GF P w (mkT K cls exc) mg base 27 "built" ych:=gf Z.d_built zim fun {f cdv A outer s H E} hr C hu nd =>
 (zab (r_if (ycX (zaP rfl (yah rfl C (zc2 Z) hr.m rfl (zaa (yaa 1) yab)))) (yad (zaG Z.x_NoText zaF rfl (zaa yaw yab))) yao)
  (zab (r_if (yan o_gt (r_bi (b_len rfl) rfl Z.b_len PySem.boot_len (zaa (yaa 1) yab)) (r_gI rfl Z.c_MOST_PLAIN) (yal _)) (yad (zaG Z.x_TooLong zaF rfl (zaa yaw yab))) yao)
  (zab (r_if (yan (o_eq rfl hu) (yaa 1) yaw (yal _)) (yad (yai yac)) yao)
  (zab (zi5 (jf:=[(0, "shelf"),(1, "plain")]) (zbe (N:=["shelf", "plain", "leaves"]) (sc:=yag yd4) rfl (fun _=>rfl) (by decide +kernel)) rfl (zg4 (E:=(fun _=>E)) rfl Z.b_range yac (r_bi (b_len rfl) rfl Z.b_len PySem.boot_len (zaa (yaa 1) yab)) (r_gI rfl Z.c_LEAF_SIGNS)) (fun _ _ _ _ _=>zb4) (fun _ _ _ _ _=>(yam rfl (CA.never rfl) (zaX Z) hr.m (yaa 1) (zaa (zaC rfl (yaa 2) (zaA (yaa 0)) (zaA (yar (yaO rfl) (yaa 0) (r_gI rfl Z.c_LEAF_SIGNS)))) yab))) nd (i:=2))
  (yad (yai (yah rfl C (zcN Z 20) hr.m rfl (zaa (yaa 0) (zaa (yaa 2) yab)))))))))
theorem zcr : GF P w (mkT K cls exc) mg base 6 "check_gap" ycc:=gf Z.d_check_gap zeJ fun hr C hu nd =>
 (zab (yap (i:=3) nd (yam rfl C (zao Z) hr.m (yaa 0) (zaa (yaa 1) yab)))
  (yad (r_if (ycX (zbt o_le o_le yac (yaa 2) (yaa 3))) (yad (zaG Z.x_NoPlace zaF rfl (zaa yaw yab))) yao)))
theorem zaO : ∀ d,GF P w (mkT K cls exc) mg base (99 + d + 1) "front_of" (yat d)
 | 0=>gf Z.d_front_of zcn fun _ _ _ _=>ycL
 | d + 1=>gf Z.d_front_of zcn fun hr C hu nd =>
  (zab (r_if (yan (o_eq rfl hu) (yaa 2) yac (yal _)) (yad (yai yac)) yao)
  (zab (r_if (yan (o_eq rfl hu) (yaa 2) (yam rfl C (zao Z) (hr.mono (show 5 <= 99 + (d + 1) by lia)) (yaa 0) (zaa (yaa 1) yab)) (yal _)) (yad (yai (yaa 1))) yao)
  (zab (yap (i:=3) nd (yam rfl C (zaj Z) (hr.mono (show 4 <= 99 + (d + 1) by lia)) (yaa 0) (zaa (yaa 1) yab)))
  (zab (r_if (yan (o_eq rfl hu) (r_ix rfl hu (yaa 3) yac) yaw (yal _)) (yad (yai (yam rfl C (zaX Z) (hr.mono (show 4 <= 99 + (d + 1) by lia)) (yaa 0) (zaa (zaC rfl (r_ix rfl hu (yaa 3) yac) zaH (zaA (yaa 2))) yab)))) yao)
  (zab (yap (i:=4) nd (yam rfl C (zao Z) (hr.mono (show 5 <= 99 + (d + 1) by lia)) (yaa 0) (zaa (r_ix rfl hu (yaa 3) yac) yab)))
  (zab (r_if (yan o_le (yaa 2) (yaa 4) (yal _)) (yad (yai (yah rfl C (zaO d) (hr.mono (by lia)) rfl (zaa (yaa 0) (zaa (r_ix rfl hu (yaa 3) yac) (zaa (yaa 2) yab)))))) yao)
  (yad (yai (yah rfl C (zaL Z) (hr.mono (show 99 <= 99 + (d + 1) by lia)) rfl (zaa (yaa 0) (zaa (r_ix rfl hu (yaa 3) yac) (zaa (yah rfl C (zaO d) (hr.mono (by lia)) rfl (zaa (yaa 0) (zaa (r_ix rfl hu (yaa 3) yac) (zaa (yar ycm (yaa 2) (yaa 4)) yab)))) yab))))))))))))
theorem zaT : ∀ d,GF P w (mkT K cls exc) mg base (99 + d + 1) "back_of" (yau d)
 | 0=>gf Z.d_back_of zc0 fun _ _ _ _=>ycL
 | d + 1=>gf Z.d_back_of zc0 fun hr C hu nd =>
  (zab (r_if (yan (o_eq rfl hu) (yaa 2) yac (yal _)) (yad (yai (yaa 1))) yao)
  (zab (r_if (yan (o_eq rfl hu) (yaa 2) (yam rfl C (zao Z) (hr.mono (show 5 <= 99 + (d + 1) by lia)) (yaa 0) (zaa (yaa 1) yab)) (yal _)) (yad (yai yac)) yao)
  (zab (yap (i:=3) nd (yam rfl C (zaj Z) (hr.mono (show 4 <= 99 + (d + 1) by lia)) (yaa 0) (zaa (yaa 1) yab)))
  (zab (r_if (yan (o_eq rfl hu) (r_ix rfl hu (yaa 3) yac) yaw (yal _)) (yad (yai (yam rfl C (zaX Z) (hr.mono (show 4 <= 99 + (d + 1) by lia)) (yaa 0) (zaa (zaC rfl (r_ix rfl hu (yaa 3) yac) (zaA (yaa 2)) zaH) yab)))) yao)
  (zab (yap (i:=4) nd (yam rfl C (zao Z) (hr.mono (show 5 <= 99 + (d + 1) by lia)) (yaa 0) (zaa (r_ix rfl hu (yaa 3) yac) yab)))
  (zab (r_if (yan o_ge (yaa 2) (yaa 4) (yal _)) (yad (yai (yah rfl C (zaT d) (hr.mono (by lia)) rfl (zaa (yaa 0) (zaa (r_ix rfl hu (yaa 3) yac) (zaa (yar ycm (yaa 2) (yaa 4)) yab)))))) yao)
  (yad (yai (yah rfl C (zaL Z) (hr.mono (show 99 <= 99 + (d + 1) by lia)) rfl (zaa (yaa 0) (zaa (yah rfl C (zaT d) (hr.mono (by lia)) rfl (zaa (yaa 0) (zaa (r_ix rfl hu (yaa 3) yac) (zaa (yaa 2) yab)))) (zaa (r_ix rfl hu (yaa 3) yac) yab))))))))))))
theorem zio : GF P w (mkT K cls exc) mg base 191 "cut_at" ybp:=gf Z.d_cut_at zhn fun hr C hu nd =>
 (zab (yaH (yah rfl C (zcr Z) hr.m rfl (zaa (yaa 0) (zaa (yaa 1) (zaa (yaa 2) yab)))))
  (yad (yai (yb5 (zaa (yah rfl C (zaO Z 90) hr.m rfl (zaa (yaa 0) (zaa (yaa 1) (zaa (yaa 2) yab)))) (zaa (yah rfl C (zaT Z 90) hr.m rfl (zaa (yaa 0) (zaa (yaa 1) (zaa (yaa 2) yab)))) yab))))))
theorem ziq : GF P w (mkT K cls exc) mg base 191 "put_in" ybz:=gf Z.d_put_in zho fun hr C hu nd =>
 (zab (yap (i:=4) nd (yar (yaO rfl) (yam rfl C (zao Z) hr.m (yaa 0) (zaa (yaa 1) yab)) (yam rfl C (zao Z) hr.m (yaa 0) (zaa (yaa 3) yab))))
  (zab (yaH (yah rfl C (zcr Z) hr.m rfl (zaa (yaa 0) (zaa (yaa 1) (zaa (yaa 2) yab)))))
  (zab (yaH (yah rfl C (zaZ Z) hr.m rfl (zaa (yaa 4) yab)))
  (zab (yap (i:=5) nd (yah rfl C (zaL Z) hr.m rfl (zaa (yaa 0) (zaa (yah rfl C (zaO Z 90) hr.m rfl (zaa (yaa 0) (zaa (yaa 1) (zaa (yaa 2) yab)))) (zaa (yaa 3) yab)))))
  (yad (yai (yah rfl C (zaL Z) hr.m rfl (zaa (yaa 0) (zaa (yaa 5) (zaa (yah rfl C (zaT Z 90) hr.m rfl (zaa (yaa 0) (zaa (yaa 1) (zaa (yaa 2) yab)))) yab))))))))))
theorem zbj : GF P w (mkT K cls exc) mg base 6 "check_stretch" ybE:=gf Z.d_check_stretch zcK fun hr C hu nd =>
 (zab (yap (i:=4) nd (yam rfl C (zao Z) hr.m (yaa 0) (zaa (yaa 1) yab)))
  (yad (r_if (ycX (zg5 o_le o_le o_le yac (yaa 2) (yaa 3) (yaa 4))) (yad (zaG Z.x_NoPlace zaF rfl (zaa yaw yab))) yao)))
theorem ze9 : GF P w (mkT K cls exc) mg base 191 "taken_out" ybk:=gf Z.d_taken_out zeK fun hr C hu nd =>
 (zab (yaH (yah rfl C (zbj Z) hr.m rfl (zaa (yaa 0) (zaa (yaa 1) (zaa (yaa 2) (zaa (yaa 3) yab))))))
  (yad (yai (yah rfl C (zaL Z) hr.m rfl (zaa (yaa 0) (zaa (yah rfl C (zaO Z 90) hr.m rfl (zaa (yaa 0) (zaa (yaa 1) (zaa (yaa 2) yab)))) (zaa (yah rfl C (zaT Z 90) hr.m rfl (zaa (yaa 0) (zaa (yaa 1) (zaa (yaa 3) yab)))) yab)))))))
theorem zfa : GF P w (mkT K cls exc) mg base 191 "kept_part" ybv:=gf Z.d_kept_part zeL fun hr C hu nd =>
 (zab (yaH (yah rfl C (zbj Z) hr.m rfl (zaa (yaa 0) (zaa (yaa 1) (zaa (yaa 2) (zaa (yaa 3) yab))))))
  (yad (yai (yah rfl C (zaT Z 90) hr.m rfl (zaa (yaa 0) (zaa (yah rfl C (zaO Z 90) hr.m rfl (zaa (yaa 0) (zaa (yaa 1) (zaa (yaa 3) yab)))) (zaa (yaa 2) yab)))))))
theorem zc3 : GF P w (mkT K cls exc) mg base 192 "_law_done" yaB:=gf Z.d_law_done ze2 fun hr C hu nd =>
 (zab (yeQ (yaa 1) (ydr rfl rfl (zap (i:=2) nd (zap (i:=3) nd (zap (i:=4) nd (zap (i:=5) nd za7))))))
  (zab (r_if (yan (o_eq rfl hu) (yaa 2) yaw (yal _)) (yad (yai (ya6 (zaa (yah rfl C (zjM Z) hr.m rfl (zaa (yaa 0) (zaa (yaa 4) yab))) yab)))) yao)
  (zab (yap (i:=6) nd (r_ix rfl hu (r_ix rfl hu (yaa 3) yac) yac))
  (zab (yap (i:=7) nd (r_ix rfl hu (r_ix rfl hu (yaa 3) yac) yac))
  (zab (r_if (yan (o_eq rfl hu) (yaa 2) yaw (yal _)) (yad (yai (ya6 (zaa (yah rfl C (zaL Z) hr.m rfl (zaa (yaa 0) (zaa (yaa 6) (zaa (yaa 7) yab)))) yab)))) yao)
  (zab (r_if (yan (o_eq rfl hu) (yaa 2) yaw (yal _)) (yad (yai (r_ty (zjd rfl) rfl Z.b_list zjK (zaa (yah rfl C (zio Z) hr.m rfl (zaa (yaa 0) (zaa (yaa 6) (zaa (yaa 4) yab)))) yab)))) yao)
  (zab (r_if (yan (o_eq rfl hu) (yaa 2) yaw (yal _)) (yad (yai (ya6 (zaa (yah rfl C (ziq Z) hr.m rfl (zaa (yaa 0) (zaa (yaa 6) (zaa (yaa 4) (zaa (yaa 7) yab))))) yab)))) yao)
  (zab (r_if (yan (o_eq rfl hu) (yaa 2) yaw (yal _)) (yad (yai (ya6 (zaa (yah rfl C (ze9 Z) hr.m rfl (zaa (yaa 0) (zaa (yaa 6) (zaa (yaa 4) (zaa (yaa 5) yab))))) yab)))) yao)
  (zab (r_if (yan (o_eq rfl hu) (yaa 2) yaw (yal _)) (yad (yai (ya6 (zaa (yah rfl C (zfa Z) hr.m rfl (zaa (yaa 0) (zaa (yaa 6) (zaa (yaa 4) (zaa (yaa 5) yab))))) yab)))) yao)
  (yad (yai (ya6 (zaa (yah rfl C (zgs Z) hr.m rfl (zaa (yaa 0) (zaa (yaa 6) (zaa (yaa 4) yab)))) yab)))))))))))))
theorem zc4 : GF P w (mkT K cls exc) mg base 5 "_law_read" ybc:=gf Z.d_law_read ze3 fun hr C hu nd =>
 (zab (yap (i:=2) nd (ybI yab))
  (zab (yap (i:=3) nd (ybI (zaa (yaa 1) yab)))
  (zab (zfr yco (yan (o_ne rfl hu) (yaa 3) (ya6 yab) (yal _)) (zab (yap (i:=4) nd (yhR rfl PySem.F.plainAttrs_list PySem.F.slot_list_pop PySem.F.type_list_pop (yhS) zat (yaa 3)))
  (yad (r_if (yan (o_ne rfl hu) (yaa 4) yac (yal _)) (zab (yap (i:=5) nd (yam rfl (C.nox) (zaj Z) hr.m (yaa 0) (zaa (yaa 4) yab)))
  (yad (r_if (yan (o_eq rfl hu) (r_ix rfl hu (yaa 5) yac) yaw (yal _)) (yad (yaH (r_bm rfl PySem.F.plainAttrs_list PySem.F.slot_list_append PySem.F.type_list_append (zaw) zat (yaa 2) (zaa (r_ix rfl hu (yaa 5) yac) yab)))) (yad (yaH (r_bm rfl PySem.F.plainAttrs_list PySem.F.slot_list_extend PySem.F.type_list_extend (ygM) zat (yaa 3) (zaa (ybI (zaa (r_ix rfl hu (yaa 5) yac) (zaa (r_ix rfl hu (yaa 5) yac) yab))) yab))))))) yao))))
  (yad (yai (r_bm rfl PySem.F.plainAttrs_str PySem.F.slot_str_join PySem.F.type_str_join (ygK rfl) zfz yaw (zaa (yaa 2) yab)))))))
theorem zbI : ∀ d,GF P w (mkT K cls exc) mg base (4 + d + 1) "_law_look" (yaY d)
 | 0=>gf Z.d_law_look zco fun _ _ _ _=>ycL
 | d + 1=>gf Z.d_law_look zco fun hr C hu nd =>
  (zab (r_if (yan (o_in rfl hu) (yaa 1) (yaa 2) rfl) (yad (yai (r_ix rfl hu (yaa 2) (yaa 1)))) yao)
  (zab (yap (i:=3) nd (yam rfl C (zaj Z) (hr.mono (show 4 <= 4 + (d + 1) by lia)) (yaa 0) (zaa (yaa 1) yab)))
  (zab (yap (i:=4) nd (yb5 yab))
  (zab (r_if (rt_w (ycK (yan (o_eq rfl hu) (r_ix rfl hu (yaa 3) yac) yaw (yal _)) (ycK (zaP rfl (yeG rfl rfl Z.b_isinstance (r_ix rfl hu (yaa 3) yac) rfl Z.b_str yfo (by decide))) (zb3 (zbt o_lt o_lt yac (r_bi (b_len rfl) rfl Z.b_len PySem.boot_len (zaa (r_ix rfl hu (yaa 3) yac) yab)) yac))))) (yad (yap (i:=4) nd (yb5 (zaa yac (zaa (r_bi (b_len rfl) rfl Z.b_len PySem.boot_len (zaa (r_ix rfl hu (yaa 3) yac) yab)) (zaa (r_bi (b_len rfl) rfl Z.b_len PySem.boot_len (zaa (r_ix rfl hu (yaa 3) yac) yab)) (zaa (r_bi (b_len rfl) rfl Z.b_len PySem.boot_len (zaa (r_ix rfl hu (yaa 3) yac) yab)) (zaa yac yab)))))))) yao)
  (zab (r_if (rt_w (ycK (yan (o_eq rfl hu) (r_ix rfl hu (yaa 3) yac) yaw (yal _)) (ycK (zbt o_lt o_lt yac (r_ix rfl hu (yaa 3) yac) (yaa 1)) (zb3 (zbt o_lt o_lt yac (r_ix rfl hu (yaa 3) yac) (yaa 1)))))) (zab (yap (i:=5) nd (yah rfl C (zbI d) (hr.mono (by lia)) rfl (zaa (yaa 0) (zaa (r_ix rfl hu (yaa 3) yac) (zaa (yaa 2) yab)))))
  (zab (yap (i:=6) nd (yah rfl C (zbI d) (hr.mono (by lia)) rfl (zaa (yaa 0) (zaa (r_ix rfl hu (yaa 3) yac) (zaa (yaa 2) yab)))))
  (yad (r_if (rt_w (ycK (yan (o_ne rfl hu) (yaa 5) (yb5 yab) (yal _)) (ycK (yan (o_ne rfl hu) (yaa 6) (yb5 yab) (yal _)) (ycK (yan o_lt (r_bi (b_abs) rfl Z.b_abs PyProof.Rows.boot_abs (zaa (yar ycm (r_ix rfl hu (yaa 5) yac) (r_ix rfl hu (yaa 6) yac)) yab)) yac (yal _)) (zb3 (yan o_gt (yar (yaO rfl) (r_ix rfl hu (yaa 5) yac) (r_ix rfl hu (yaa 6) yac)) yac (yal _))))))) (yad (yap (i:=4) nd (yb5 (zaa (yar (yaO rfl) yac (r_bi (yeU) rfl Z.b_max PyProof.Rows.boot_max (zaa (r_ix rfl hu (yaa 5) yac) (zaa (r_ix rfl hu (yaa 6) yac) yab)))) (zaa (yar (yaO rfl) (r_ix rfl hu (yaa 5) yac) (r_ix rfl hu (yaa 6) yac)) (zaa (r_ix rfl hu (yaa 5) yac) (zaa (r_ix rfl hu (yaa 6) yac) (zaa (yar (yaO rfl) (r_ix rfl hu (yaa 5) yac) (r_ix rfl hu (yaa 6) yac)) yab)))))))) yao)))) yao)
  (zab (zdd hu (yaa 2) (yaa 1) (yaa 4))
  (yad (yai (yaa 4)))))))))
theorem zfb : GF P w (mkT K cls exc) mg base 26 "_law_sound" ybP:=gf Z.d_law_sound zeM fun hr C hu nd =>
 (yad (yai (r_or (ydW (o_eq rfl hu) (yaa 1) yac (yal _)) (yei (ydW (o_ne rfl hu) (yah rfl C (zbI Z 20) hr.m rfl (zaa (yaa 0) (zaa (yaa 1) (zaa ziY yab)))) (yb5 yab) (yal _))))))
theorem zfc : GF P w (mkT K cls exc) mg base 193 "_law_right" ycd:=gf Z.d_law_right zeN fun hr C hu nd =>
 (zab (yap (i:=3) nd (zb5 rfl C (zaW Z) hr.m (yaa 0)))
  (zab (yap (i:=4) nd (yah rfl C (zgq Z) hr.m rfl (zaa (yaa 0) (zaa (yaa 1) yab))))
  (zab (yap (i:=5) nd (yah rfl C (zc3 Z) hr.m rfl (zaa (yaa 0) (zaa (yaa 1) yab))))
  (zab (r_if (rt_w (ycK (yan o_ge (yaa 4) yac (yal _)) (zb3 (yan o_gt (yar ycm (zb5 rfl C (zaW Z) hr.m (yaa 0)) (yaa 3)) (yaa 4) (yal _))))) (yad (yai (ya6 yab))) yao)
  (zab (ygS rfl (zjc (E:=EN) rfl rfl Z.b_zip (yaa 5) (yaa 2)) (ydr rfl rfl (zap (i:=6) nd (zap (i:=7) nd za7))) (yad (r_if (rt_w (yeh (yan (o_ne rfl hu) (yah rfl (C.nox) (zc4 Z) hr.m rfl (zaa (yaa 0) (zaa (yaa 6) yab))) (yaa 7) (yal _)) (ydN (ycX (zaP rfl (yah rfl (C.nox) (zfb Z) hr.m rfl (zaa (yaa 0) (zaa (yaa 6) yab)))))))) (yad (yai (ya6 yab))) yao)))
  (yad (yai (yaa 5))))))))
theorem yie {f : Addr} {fd : FuncData} (h4 : Fun K "law" "law" yd5 f fd) : FnOk P w K mg base (CXE P w) 194 f fd ["script"] (spA (mkT K cls exc) yfb):=gl (T:=mkT K cls exc) h4 yhf fun hr C hu nd =>
 (zab (yap (i:=1) nd (zi7 rfl C (zeO Z) hr.m rfl))
  (zab (yap (i:=2) nd (ya6 yab))
  (zab (yap (i:=3) nd (ybI yab))
  (zab (yeF rfl (zi3 (E:=EN) rfl rfl Z.b_enumerate (yar (yaO rfl) (yaa 0) (ya6 (zaa yac (zaa yac (zaa yac yab)))))) (ydr rfl rfl (zap (i:=4) nd (zap (i:=5) nd za7))) (zab (yap (i:=6) nd (yah rfl (C.nox) (zhp Z) hr.m rfl (zaa (yaa 5) (zaa (yaa 4) yab))))
  (zab (yap (i:=7) nd (yah rfl (C.nox) (ze7 Z) hr.m rfl (zaa (yaa 2) (zaa (yaa 6) yab))))
  (zab (yap (i:=8) nd (yah rfl (C.nox) (zhq Z) hr.m rfl (zaa (yaa 7) yab)))
  (yad (r_if (yan o_le (r_bi (ygT rfl) rfl Z.b_max PyProof.Rows.boot_max (zaa (yeS (jf:=[]) (zbe (N:=["script", "shelf", "row", "made", "k", "cell", "stream", "deed", "plains", "texts", "many"]) (sc:=yag yd5) rfl (fun _=>rfl) (by decide +kernel)) rfl (yeR (E:=EN) rfl (yaa 8)) (fun _ _ _ _ _=>zb4) (fun _ _ _ _ _=>(r_bi (b_len rfl) rfl Z.b_len PySem.boot_len (zaa (yaa 0) yab)))) yab)) yac (yal _)) (zab (yap (i:=9) nd (yah rfl (C.nox) (zfc Z) hr.m rfl (zaa (yaa 1) (zaa (yaa 7) (zaa (yaa 8) yab)))))
  (zab (r_if (yan (o_eq rfl hu) (yaa 9) (ya6 yab) (yal _)) (yad (yai r_bl)) yao)
  (zab (yaH (r_bm rfl PySem.F.plainAttrs_list PySem.F.slot_list_append PySem.F.type_list_append (zaw) zat (yaa 3) (zaa (yb5 (zaa (yaa 7) (zaa (yaa 9) (zaa (yaa 8) yab)))) yab)))
  (zab (yap (i:=2) nd (yar (ygO rfl) (yaa 2) (zg9 rfl rfl rfl Z.b_zip rfl Z.b_list (yaa 9) (yaa 8))))
  (yad (zfr yco (yan o_gt (r_bi (b_len rfl) rfl Z.b_len PySem.boot_len (zaa (yaa 2) yab)) yac (yal _)) (yad (yaH (r_bm rfl PySem.F.plainAttrs_list PySem.F.slot_list_pop PySem.F.type_list_pop (zjb) zat (yaa 2) (zaa (yah rfl ((C.nox).nox) (zay Z) hr.m rfl (zaa (yaa 6) (zaa (r_bi (b_len rfl) rfl Z.b_len PySem.boot_len (zaa (yaa 2) yab)) yab))) yab)))))))))) yao))))))
  (zab (yap (i:=10) nd (zb5 rfl C (zaW Z) hr.m (yaa 1)))
  (zab (yeF rfl (zi2 (E:=EN) rfl (yaa 3)) (ydr rfl rfl (zap (i:=7) nd (zap (i:=9) nd (zap (i:=8) nd za7)))) (yad (r_if (rt_w (yeh (yan (o_ne rfl hu) (yah rfl (C.nox) (zc3 Z) hr.m rfl (zaa (yaa 1) (zaa (yaa 7) yab))) (yaa 9) (yal _)) (ydN (yan (o_ne rfl hu) (yeS (jf:=[(1, "shelf")]) (zbe (N:=["script", "shelf", "row", "made", "k", "cell", "stream", "deed", "plains", "texts", "many"]) (sc:=yag yd5) rfl (fun _=>rfl) (by decide +kernel)) rfl (yeR (E:=EN) rfl (yaa 9)) (fun _ _ _ _ _=>zb4) (fun _ _ _ _ _=>(yah rfl (CA.never rfl) (zc4 Z) hr.m rfl (zaa (yaa 1) (zaa (yaa 0) yab))))) (yaa 8) (yal _))))) (yad (yai r_bl)) yao)))
  (yad (yai (ydW (o_eq rfl hu) (zb5 rfl C (zaW Z) hr.m (yaa 1)) (yaa 10) (yal _))))))))))
end
end Sk
namespace Sk
open PySem PySem.Spec L2 Sm
abbrev FX (l : PySem.W.OpenLaw) (w : World) (K : PySem.W.Frag) (mg : Str -> Option Value) (fa : Addr) : Prop:=∃ fd : FuncData,(∀ (s : Shared) (v : Value),BindsTo s fd ⟨[v],[]⟩ [("script",v)]) /\ ∀ base : Heap,K.In base -> base.Ns mainGlobals mg -> FnOk l.prog w K mg base (CXE l.prog w) 194 fa fd ["script"] (spL K)
theorem all_mk {l : PySem.W.OpenLaw} {w : World} {K : PySem.W.Frag} {h : Heap} {mg : Str -> Option Value} {fa C0 X0 X1 X2 X3 X4 X5 X6 : Addr} {tk_LEAF_SIGNS tk_MOST_PLAIN tk_MOST_SIGNS : Tok} (X : K.In h) (G : h.Ns mainGlobals mg) (hfa : mg "law" = some (.ref fa))
  (aC0 : NA K "Shelf" (some (.ref C0))) (a0 : DN K C0 "__init__" "Shelf.__init__" yc2) (a1 : DN K C0 "many" "Shelf.many" yc3) (a10 : DN K C0 "has_piece" "Shelf.has_piece" yb6) (a11 : DN K C0 "check_piece" "Shelf.check_piece" ybQ) (a12 : DN K C0 "check_text" "Shelf.check_text" yb0) (a13 : DN K C0 "height" "Shelf.height" ycA) (a15 : DN K C0 "signs" "Shelf.signs" ycM) (a17 : DN K C0 "last_leaf" "Shelf.last_leaf" yb7) (a18 : DN K C0 "first_leaf" "Shelf.first_leaf" yb1) (a20 : DN K C0 "piece" "Shelf.piece" ycN) (a21 : DN K C0 "check_fork" "Shelf.check_fork" yb2) (a22 : DN K C0 "lay" "Shelf.lay" ydh) (a23 : DN K C0 "lay_fork" "Shelf.lay_fork" ycf) (a24 : DN K C0 "fork" "Shelf.fork" yc4) (a34 : DN K C0 "lay_leaf" "Shelf.lay_leaf" ycg) (a35 : DN K C0 "leaf" "Shelf.leaf" yc5) (a2 : DK K "_law_mixed" ydc) (a3 : DK K "_law_own" ydQ) (a4 : DK K "_law_take" ydB) (a5 : DK K "_law_signs" ydd) (a6 : DK K "_law_plain" yde) (a7 : DK K "_law_drawn" ydf) (a8 : DK K "_law_due" ydR) (a9 : DK K "is_whole" ydC) (a14 : DK K "_law_room" ydD) (a16 : DK K "check_length" ycB) (a19 : DK K "are_close" ydg) (a25 : DK K "with_last" ydi) (a26 : DK K "turned_left" ycO) (a27 : DK K "without_first" ycu) (a28 : DK K "turned_right" ycC) (a29 : DK K "linked" yd7) (a30 : DK K "is_plain_sign" ycv) (a31 : DK K "is_plain" ycU) (a32 : DK K "is_short" ydE) (a33 : DK K "ends_in" ydS) (a36 : DK K "welded" yd8) (a37 : DK K "joined" yd9) (a38 : DK K "doubled" ydT) (a39 : DK K "repeated" ydF) (a40 : DK K "halved" yea) (a41 : DK K "built" yd4) (a42 : DK K "check_gap" ydj) (a43 : DK K "front_of" ydG) (a44 : DK K "back_of" ydU) (a45 : DK K "cut_at" yeb) (a46 : DK K "put_in" yec) (a47 : DK K "check_stretch" ycw) (a48 : DK K "taken_out" ydk) (a49 : DK K "kept_part" ydl) (a50 : DK K "_law_done" ydH) (a51 : DK K "_law_read" ydI) (a52 : DK K "_law_look" ydJ) (a53 : DK K "_law_sound" ydm) (a54 : DK K "_law_right" ydn) (a55 : DK K "law" yd5) (kk0 : Cls K C0) (mk0 : PySem.W.makesIn K C0 = true) (kc0 : PySem.W.keepIn K (.ref C0) = true) (nf0_0 : FA K C0 "pieces") (nf0_1 : FA K C0 "numbers") (nf0_2 : FA K C0 "sign_counts") (nf0_3 : FA K C0 "end_counts") (nf0_4 : FA K C0 "leaf_counts") (nf0_5 : FA K C0 "heights") (nf0_6 : FA K C0 "first_leaves") (nf0_7 : FA K C0 "last_leaves") (z_abs : NA K "abs" none) (z_all : NA K "all" none) (z_bool : NA K "bool" none) (z_enumerate : NA K "enumerate" none) (z_int : NA K "int" none) (z_isinstance : NA K "isinstance" none) (z_len : NA K "len" none) (z_list : NA K "list" none) (z_max : NA K "max" none) (z_range : NA K "range" none) (z_str : NA K "str" none) (z_zip : NA K "zip" none) (e_SkeinError : NA K "SkeinError" (some (.ref X0))) (e_NoText : NA K "NoText" (some (.ref X1))) (x_NoText : XI K X1) (e_NoPiece : NA K "NoPiece" (some (.ref X2))) (x_NoPiece : XI K X2) (e_Loose : NA K "Loose" (some (.ref X3))) (x_Loose : XI K X3) (e_Unlevel : NA K "Unlevel" (some (.ref X4))) (x_Unlevel : XI K X4) (e_TooLong : NA K "TooLong" (some (.ref X5))) (x_TooLong : XI K X5) (e_NoPlace : NA K "NoPlace" (some (.ref X6))) (x_NoPlace : XI K X6) (m_LEAF_SIGNS : NA K "LEAF_SIGNS" (some (.int 8 tk_LEAF_SIGNS))) (m_MOST_PLAIN : NA K "MOST_PLAIN" (some (.int 10000 tk_MOST_PLAIN))) (m_MOST_SIGNS : NA K "MOST_SIGNS" (some (.int 1000000000000000000 tk_MOST_SIGNS)))
  : FX l w K mg fa:=by
 have Z : ∀ base : Heap,K.In base -> Facts l.prog w K (fun n=>[C0][n]?) (fun n=>[X0,X1,X2,X3,X4,X5,X6][n]?) mg base:=fun base KB=>{
   b_abs:=PySem.W.mg_none_of X G z_abs,
   b_all:=PySem.W.mg_none_of X G z_all,
   b_bool:=PySem.W.mg_none_of X G z_bool,
   b_enumerate:=PySem.W.mg_none_of X G z_enumerate,
   b_int:=PySem.W.mg_none_of X G z_int,
   b_isinstance:=PySem.W.mg_none_of X G z_isinstance,
   b_len:=PySem.W.mg_none_of X G z_len,
   b_list:=PySem.W.mg_none_of X G z_list,
   b_max:=PySem.W.mg_none_of X G z_max,
   b_range:=PySem.W.mg_none_of X G z_range,
   b_str:=PySem.W.mg_none_of X G z_str,
   b_zip:=PySem.W.mg_none_of X G z_zip,
   c_LEAF_SIGNS:=⟨_,PySem.W.mg_of X G m_LEAF_SIGNS⟩,
   c_MOST_PLAIN:=⟨_,PySem.W.mg_of X G m_MOST_PLAIN⟩,
   c_MOST_SIGNS:=⟨_,PySem.W.mg_of X G m_MOST_SIGNS⟩,
   cf_Shelf:=⟨C0,rfl,kk0,fun f hf=>by
   have hf2 : f ∈ flds 0:=hf
   simp only [flds,List.mem_cons,List.not_mem_nil,or_false] at hf2
   rcases hf2 with rfl | rfl | rfl | rfl | rfl | rfl | rfl | rfl
   ·exact nf0_0
   ·exact nf0_1
   ·exact nf0_2
   ·exact nf0_3
   ·exact nf0_4
   ·exact nf0_5
   ·exact nf0_6
   ·exact nf0_7⟩,
   x_NoText:=gx KB X G rfl e_NoText x_NoText,
   x_NoPiece:=gx KB X G rfl e_NoPiece x_NoPiece,
   x_Loose:=gx KB X G rfl e_Loose x_Loose,
   x_Unlevel:=gx KB X G rfl e_Unlevel x_Unlevel,
   x_TooLong:=gx KB X G rfl e_TooLong x_TooLong,
   x_NoPlace:=gx KB X G rfl e_NoPlace x_NoPlace,
   d_Shelf_init:=di rfl (PySem.W.mg_of X G aC0) mk0 kc0 a0 bl1,
   d_Shelf_many:=dm rfl kk0 a1 bl1,
   d_law_mixed:=dg X G a2 bl2,
   d_law_own:=dg X G a3 bl2,
   d_law_take:=dg X G a4 bl2,
   d_law_signs:=dg X G a5 bl1,
   d_law_plain:=dg X G a6 bl2,
   d_law_drawn:=dg X G a7 bl2,
   d_law_due:=dg X G a8 bl1,
   d_is_whole:=dg X G a9 bl1,
   d_Shelf_has_piece:=dm rfl kk0 a10 bl2,
   d_Shelf_check_piece:=dm rfl kk0 a11 bl2,
   d_Shelf_check_text:=dm rfl kk0 a12 bl2,
   d_Shelf_height:=dm rfl kk0 a13 bl2,
   d_law_room:=dg X G a14 bl2,
   d_Shelf_signs:=dm rfl kk0 a15 bl2,
   d_check_length:=dg X G a16 bl1,
   d_Shelf_last_leaf:=dm rfl kk0 a17 bl2,
   d_Shelf_first_leaf:=dm rfl kk0 a18 bl2,
   d_are_close:=dg X G a19 bl3,
   d_Shelf_piece:=dm rfl kk0 a20 bl2,
   d_Shelf_check_fork:=dm rfl kk0 a21 bl3,
   d_Shelf_lay:=dm rfl kk0 a22 bl2,
   d_Shelf_lay_fork:=dm rfl kk0 a23 bl2,
   d_Shelf_fork:=dm rfl kk0 a24 bl3,
   d_with_last:=dg X G a25 bl3,
   d_turned_left:=dg X G a26 bl3,
   d_without_first:=dg X G a27 bl2,
   d_turned_right:=dg X G a28 bl3,
   d_linked:=dg X G a29 bl3,
   d_is_plain_sign:=dg X G a30 bl1,
   d_is_plain:=dg X G a31 bl1,
   d_is_short:=dg X G a32 bl1,
   d_ends_in:=dg X G a33 bl1,
   d_Shelf_lay_leaf:=dm rfl kk0 a34 bl2,
   d_Shelf_leaf:=dm rfl kk0 a35 bl2,
   d_welded:=dg X G a36 bl3,
   d_joined:=dg X G a37 bl3,
   d_doubled:=dg X G a38 bl3,
   d_repeated:=dg X G a39 bl3,
   d_halved:=dg X G a40 bl2,
   d_built:=dg X G a41 bl2,
   d_check_gap:=dg X G a42 bl3,
   d_front_of:=dg X G a43 bl3,
   d_back_of:=dg X G a44 bl3,
   d_cut_at:=dg X G a45 bl3,
   d_put_in:=dg X G a46 bl4,
   d_check_stretch:=dg X G a47 bl4,
   d_taken_out:=dg X G a48 bl4,
   d_kept_part:=dg X G a49 bl4,
   d_law_done:=dg X G a50 bl2,
   d_law_read:=dg X G a51 bl2,
   d_law_look:=dg X G a52 bl3,
   d_law_sound:=dg X G a53 bl2,
   d_law_right:=dg X G a54 bl3,
   d_law:=dg X G a55 bl1 }
 obtain ⟨fd,h1,F⟩:=dlaw (p := "script") X G hfa a55 bl1
 exact ⟨fd,h1,fun base KB _=>FnOk.imp (yie (Z base KB) F) (zja (T:=mkT K (fun n=>[C0][n]?) (fun n=>[X0,X1,X2,X3,X4,X5,X6][n]?)) law_true)⟩
theorem walk {l : PySem.W.OpenLaw} {q : Program} {loose : List Str} {XP : (Str -> Option Value) -> Heap -> Prop} {YP : World -> Heap -> Prop} {d : DefRec} {K : Params -> PySem.W.Frag} (hn : l.most = some 63) (hdf : d.params.defaults = [])
  (hY : ∀ (w : World) (h : Heap),YP w h -> (K w.params).In h)
  (F : ∀ (w : World) (mg : Str -> Option Value) (fa : Addr) (h : Heap),(K w.params).In h -> h.Ns mainGlobals mg -> mg d.name = some (.ref fa) -> FX l w (K w.params) mg fa) :
  PySem.W.WalkO q loose XP YP l.row.toRowW d [] (fun f vs=>PySem.call f vs) :=
 L2.walk_of (n:=63) (k:=194) (x := "script") (CX:=fun w=>CXE l.prog w) (sp:=fun w=>spL (K w.params)) hn (by decide) hdf ⟨rfl,by decide,by decide⟩ hY F (fun _ _ a ns hl _ hS=>⟨a,ns,rfl,hS,hl,fun _=>rfl⟩) fun _ _ _ _ _ z=>zg3 z
end Sk
open PySem PySem.W PyProof.Rows
section
namespace PySem.W.Fast
def tw15259842521909342798:=0
def tw11082873254934383296:=0
def tw5299499192856959903:=0
def tw10477353421691141023:=0
def tw17586341373225398111:=0
def tw9014158884944492351:=0
def tw11664965585449180895:=0
def tw16274327256221908575:=0
def tw10905736586629565919:=0
def tw5406466090176378814:=0
def tw5795685433326597022:=0
def tw16712660817547074302:=0
def tw11418939408098593374:=0
def tw12331356903780487518:=0
def tw13058518258317409566:=0
def tw2137988351834113278:=0
def tw5759218172245877950:=0
def tw1481933726745711710:=0
def tw6123465011711248349:=0
def tw17869907081398712221:=0
def tw7258048601701479229:=0
def tw9116782322398598941:=0
def tw15697670719841738461:=0
def tw11910006915542878877:=0
def tw8624699495577920125:=0
def tw12071323739838163549:=0
def tw9744877891987441181:=0
def tw6058484169485072829:=0
def tw1193862004794924445:=0
def tw16870514709639605597:=0
def tw16519117290641763549:=0
def tw8479584715848362173:=0
def tw4375078685780070589:=0
def tw5509604050046989405:=0
def tw3721288975796536413:=0
def tw2573335281370985436:=0
def tw6260458455783468988:=0
def tw3306806780116716444:=0
def tw16055150038907915868:=0
def tw2401749324519578204:=0
def tw17129386623732185660:=0
def tw7289600718573606396:=0
def tw4564368545007602044:=0
def tw2029411808090235164:=0
def tw17905715403759625500:=0
def tw16761627117152476412:=0
def tw2396022263162847452:=0
def tw1945389479153146076:=0
def tw854210323340318780:=0
def tw9267915194401261628:=0
def tw4609130452718756731:=0
def tw956289933249094523:=0
def tw12777546467557539707:=0
def tw3726137989060008795:=0
def tw18204635976104302171:=0
def tw8437770619152613755:=0
def tw13428693824543285595:=0
def tw10824252213554123099:=0
def tw15595917727969721627:=0
def tw10864876097287910683:=0
def tw14347417999370947707:=0
def tw9009795894189525083:=0
def tw172244151850937306:=0
def tw2374362846799518650:=0
def tw15765393836143750042:=0
def tw16400549467672280602:=0
def tw18407909669459442010:=0
def tw1768939983914837178:=0
def tw12657074314270289946:=0
def tw11771264902301046617:=0
def tw13485262438806227769:=0
def tw499916963477553977:=0
def tw9811203235814792985:=0
def tw7533752191075603065:=0
def tw14482433325284108857:=0
def tw12454169700207930937:=0
def tw9011684260362692121:=0
def tw10709192547628675481:=0
def tw7035852841991720345:=0
def tw14780241422199808920:=0
def tw11942245298538002776:=0
def tw11985839977884682552:=0
def tw17531265011065939224:=0
def tw6152379148013858040:=0
def tw12313666173292111096:=0
def tw12154196323630154968:=0
def tw12064465838518673528:=0
def tw15942442636086037560:=0
def tw7488433922731042775:=0
def tw10492134994395192279:=0
def tw15503912635466885047:=0
def tw9874035536833043351:=0
def tw15237190685828159255:=0
def tw16359240550165631703:=0
def tw6652298670837156471:=0
def tw6925015648542791287:=0
def tw8715433001105957399:=0
def tw13635623599132003799:=0
def tw3889974950070564247:=0
def tw10325829667876301143:=0
def tw13972271898059783511:=0
def tw3527351169762061527:=0
def tw4712914639029418167:=0
def tw1540814167404926071:=0
def tw11628067728068123703:=0
def tw1320959292678983606:=0
def tw9003337237479464886:=0
def tw12609733616779706230:=0
def tw14865604056337824598:=0
def tw17022786776922229558:=0
def tw16906100908944539382:=0
def tw4781836448932400886:=0
def tw7931016180696587990:=0
def tw5601334018228622966:=0
def tw8168280343922758006:=0
def tw11940939788766374262:=0
def tw6954041596192597270:=0
def tw4436318935185323222:=0
def tw8905240217813210326:=0
def tw2408274944769474614:=0
def tw17363705475629075478:=0
def tw15226982734425975765:=0
def tw9075584621742858165:=0
def tw2053150625216608885:=0
def tw16261626228655583861:=0
def tw1548303571741576661:=0
def tw14187060491102015925:=0
def tw13072240694025274613:=0
def tw10488577987363400917:=0
def tw12031466132429800565:=0
def tw7313294357452646453:=0
def tw5862451795205366548:=0
def tw13920024102169457428:=0
def tw16486290499298294324:=0
def tw1260502117400873492:=0
def tw2511208378046032372:=0
def tw10899366468701232532:=0
def tw12332929455990780244:=0
def tw18105449269813599316:=0
def tw13464076356948773908:=0
def tw11288553646455961620:=0
def tw6924485892445038579:=0
def tw1919717462753123123:=0
def tw15416505163303803667:=0
def tw3482454518974039795:=0
def tw508958350920484435:=0
def tw12986873572180409843:=0
def tw7700039857894817267:=0
def tw6596322270666228115:=0
def tw2618276288071744883:=0
def tw18132394515937328403:=0
def tw7905909651112355091:=0
def tw15029662902229983411:=0
def tw2334876150568746099:=0
def tw2092304189022118995:=0
def tw16298411080312415218:=0
def tw16457390371528282930:=0
def tw9074035265627487986:=0
def tw1335567618803878610:=0
def tw15408778287501615698:=0
def tw10191643067360366098:=0
def tw8836864179417018802:=0
def tw9423885648655777138:=0
def tw3650503478659323218:=0
def tw17862836609703759090:=0
def tw6570449082098823378:=0
def tw14802095216392846514:=0
def tw11051558552733970610:=0
def tw15062369944270707858:=0
def tw9559459970374387730:=0
def tw6648857798043099089:=0
def tw13512025702698766065:=0
def tw10001813132915508625:=0
def tw2842016526078774609:=0
def tw4701126524165683537:=0
def tw10003955341896216881:=0
def tw17730994316387081425:=0
def tw16293749778040721553:=0
def tw15092839457122886769:=0
def tw5921351307181798320:=0
def tw8076600371596656464:=0
def tw14241573143770635952:=0
def tw5530423738759163312:=0
def tw16891151905682788335:=0
def tw1672082188311001743:=0
def tw8151428667300505007:=0
def tw9258394234545222895:=0
def tw13812077980225741935:=0
def tw16491533510549411919:=0
def tw5391203522398704622:=0
def tw3320203262004747150:=0
def tw17335546024078921582:=0
def tw303734896098626414:=0
def tw9179506171091866254:=0
def tw12600862452876577294:=0
def tw13026123653894050190:=0
def tw6509939422337743214:=0
def tw924909109176933646:=0
def tw10235403533428816078:=0
def tw2503829444486000814:=0
def tw13773278882150154254:=0
def tw11371227750327625709:=0
def tw15409068776751021933:=0
def tw4251261528945974061:=0
def tw5878344638323519277:=0
def tw391430031749119757:=0
def tw7778744706891178701:=0
def tw15304465841721822925:=0
def tw3814098709079936685:=0
def tw16375919963412757133:=0
def tw4162714226338860653:=0
def tw435839783829818733:=0
def tw17939296914025400685:=0
def tw7500390858830302381:=0
def tw14320416559221881836:=0
def tw6354112391901190028:=0
def tw11726309031473061740:=0
def tw17249090473200814924:=0
def tw16969858293182372492:=0
def tw2126748903586985580:=0
def tw11139478781392491948:=0
def tw11215610681484860652:=0
def tw18144125831670763692:=0
def tw9534023297529111692:=0
def tw1303589945584733163:=0
def tw16220256506253533067:=0
def tw18322199382475910955:=0
def tw6155164393939905067:=0
def tw18177484246469722603:=0
def tw14342911081838125515:=0
def tw1531636672707515819:=0
def tw10614680419907010955:=0
def tw9237293884179564875:=0
def tw10411829084030696683:=0
def tw10527511196839967947:=0
def tw16554179190219437259:=0
def tw6963293311742125195:=0
def tw14275143444926175371:=0
def tw17743980303293618315:=0
def tw1013692667653684331:=0
def tw15877948107689953387:=0
def tw15274591353647693931:=0
def tw6422800107227149290:=0
def tw16114967054998171498:=0
def tw10139686186333281130:=0
def tw14731725995690458922:=0
def tw13673362439790873322:=0
def tw887794766841234154:=0
def tw9415019353367445130:=0
def tw13313650770381977962:=0
def tw3450915967123732746:=0
def tw6607021869116122346:=0
def tw11444865999852332138:=0
def tw15863883055979454345:=0
def tw9621013477052103529:=0
def tw18394217388208301833:=0
def tw2664758849862581865:=0
def tw290832297781482057:=0
def tw94219112764374537:=0
def tw7326896076230100457:=0
def tw12596207157720185321:=0
def tw16564799017138901385:=0
def tw6999492150248428873:=0
def tw4808855712160988265:=0
def tw13117945603601712201:=0
def tw11290568591051573289:=0
def tw4299230246245080105:=0
def tw15408156548944563176:=0
def tw6956103107753048904:=0
def tw2461529936871954216:=0
def tw4213354984021448360:=0
def tw1508138588355337864:=0
def tw12644447803278284232:=0
def tw2598434158500398536:=0
def tw7245957847368856968:=0
def tw8556991871663465800:=0
def tw4829044108288050376:=0
def tw8937591664095852680:=0
def tw12881787460343192519:=0
def tw3306634628811694887:=0
def tw7205172710239720135:=0
def tw2755179897868865223:=0
def tw668122913227819591:=0
def tw13102167697879789767:=0
def tw5928804309755159526:=0
def tw3897509432770266918:=0
def tw8621878164129453734:=0
def tw2534386436188509862:=0
def tw14613612793555877478:=0
def tw1190843763140105830:=0
def tw12281661597994747270:=0
def tw18073734870588748134:=0
def tw13808782505036084358:=0
def tw16378186935422794854:=0
def tw106244277528749126:=0
def tw3410239588685701190:=0
def tw4047228153960511526:=0
def tw11266390816304605190:=0
def tw6680043541286053861:=0
def tw7864099674940544741:=0
def tw11648532136287464933:=0
def tw9154850111498419653:=0
def tw2796488443252328709:=0
def tw3089083324589971589:=0
def tw12808524807481841733:=0
def tw15296543118687557701:=0
def tw3973339133129272228:=0
def tw5153828240852276068:=0
def tw14707035932398276388:=0
def tw12405916666648229572:=0
def tw12726688915486130884:=0
def tw10262640896927466180:=0
def tw165323027250784740:=0
def tw16205932166950011172:=0
def tw15517459917948493092:=0
def tw12185371663909053700:=0
def tw14206683831554822340:=0
def tw2955077710293140516:=0
def tw9222597677158409123:=0
def tw15919507704402320227:=0
def tw16554405142180986691:=0
def tw8411078241081516835:=0
def tw3527070693339952899:=0
def tw13872527206954263139:=0
def tw7309361857145726531:=0
def tw16435673613834437027:=0
def tw10471771185894733027:=0
def tw11099413268031726787:=0
def tw3306798061098258531:=0
def tw15307299252749848418:=0
def tw7566949041856034594:=0
def tw6955703401661378242:=0
def tw2964328725494546018:=0
def tw17999615373485728290:=0
def tw1571067307394136418:=0
def tw1020938777479464290:=0
def tw17684164553017534722:=0
def tw3961571379887096930:=0
def tw14020957001183554594:=0
def tw11350065333651409954:=0
def tw11098229456187670530:=0
def tw13653217528077196290:=0
def tw13484508653301300097:=0
def tw7338019651813581601:=0
def tw11008156095320624897:=0
def tw12972413897073875617:=0
def tw2938593072506527329:=0
def tw7004695853943921153:=0
def tw15395676939836352897:=0
def tw8404198321033262113:=0
def tw6694081869444464448:=0
def tw7413741541309388576:=0
def tw14078784907526178592:=0
def tw11238624514680525376:=0
def tw13910268314500298176:=0
def tw16003458732622789856:=0
def tw16357283991980660928:=0
def tw2873348424293780672:=0
def tw11732766861430191104:=0
end PySem.W.Fast
end
set_option maxRecDepth 100000 in
set_option maxHeartbeats 0 in
theorem PySem.Challenge.cw_skeinwood_k93_whole_deeds_of_all_kinds_holds : PySem.Challenge.rw_skeinwood_k93_whole_deeds_of_all_kinds.Holds := by
 w_on; o_law; k_head; (case hw => w_witness2)
 k_fill
 refine Sk.walk (l := PySem.Challenge.rw_skeinwood_k93_whole_deeds_of_all_kinds) rfl rfl (fun w h Y => PySem.W.kIn_of Y) ?F
 case F =>
  intro w mg fa h KX G hmg
  refine' Sk.all_mk KX G hmg ?aC0 ?a0 ?a1 ?a10 ?a11 ?a12 ?a13 ?a15 ?a17 ?a18 ?a20 ?a21 ?a22 ?a23 ?a24 ?a34 ?a35 ?a2 ?a3 ?a4 ?a5 ?a6 ?a7 ?a8 ?a9 ?a14 ?a16 ?a19 ?a25 ?a26 ?a27 ?a28 ?a29 ?a30 ?a31 ?a32 ?a33 ?a36 ?a37 ?a38 ?a39 ?a40 ?a41 ?a42 ?a43 ?a44 ?a45 ?a46 ?a47 ?a48 ?a49 ?a50 ?a51 ?a52 ?a53 ?a54 ?a55 ?kk0 ?mk0 ?kc0 ?nf0_0 ?nf0_1 ?nf0_2 ?nf0_3 ?nf0_4 ?nf0_5 ?nf0_6 ?nf0_7 ?z_abs ?z_all ?z_bool ?z_enumerate ?z_int ?z_isinstance ?z_len ?z_list ?z_max ?z_range ?z_str ?z_zip ?e_SkeinError ?e_NoText ?x_NoText ?e_NoPiece ?x_NoPiece ?e_Loose ?x_Loose ?e_Unlevel ?x_Unlevel ?e_TooLong ?x_TooLong ?e_NoPlace ?x_NoPlace ?m_LEAF_SIGNS ?m_MOST_PLAIN ?m_MOST_SIGNS
  (case aC0 => apply Sm.na;k_is)
  (case a0 => apply Sm.dn<;>k_is)
  (case a1 => apply Sm.dn<;>k_is)
  (case a10 => apply Sm.dn<;>k_is)
  (case a11 => apply Sm.dn<;>k_is)
  (case a12 => apply Sm.dn<;>k_is)
  (case a13 => apply Sm.dn<;>k_is)
  (case a15 => apply Sm.dn<;>k_is)
  (case a17 => apply Sm.dn<;>k_is)
  (case a18 => apply Sm.dn<;>k_is)
  (case a20 => apply Sm.dn<;>k_is)
  (case a21 => apply Sm.dn<;>k_is)
  (case a22 => apply Sm.dn<;>k_is)
  (case a23 => apply Sm.dn<;>k_is)
  (case a24 => apply Sm.dn<;>k_is)
  (case a34 => apply Sm.dn<;>k_is)
  (case a35 => apply Sm.dn<;>k_is)
  (case a2 => apply Sm.dk<;>k_is)
  (case a3 => apply Sm.dk<;>k_is)
  (case a4 => apply Sm.dk<;>k_is)
  (case a5 => apply Sm.dk<;>k_is)
  (case a6 => apply Sm.dk<;>k_is)
  (case a7 => apply Sm.dk<;>k_is)
  (case a8 => apply Sm.dk<;>k_is)
  (case a9 => apply Sm.dk<;>k_is)
  (case a14 => apply Sm.dk<;>k_is)
  (case a16 => apply Sm.dk<;>k_is)
  (case a19 => apply Sm.dk<;>k_is)
  (case a25 => apply Sm.dk<;>k_is)
  (case a26 => apply Sm.dk<;>k_is)
  (case a27 => apply Sm.dk<;>k_is)
  (case a28 => apply Sm.dk<;>k_is)
  (case a29 => apply Sm.dk<;>k_is)
  (case a30 => apply Sm.dk<;>k_is)
  (case a31 => apply Sm.dk<;>k_is)
  (case a32 => apply Sm.dk<;>k_is)
  (case a33 => apply Sm.dk<;>k_is)
  (case a36 => apply Sm.dk<;>k_is)
  (case a37 => apply Sm.dk<;>k_is)
  (case a38 => apply Sm.dk<;>k_is)
  (case a39 => apply Sm.dk<;>k_is)
  (case a40 => apply Sm.dk<;>k_is)
  (case a41 => apply Sm.dk<;>k_is)
  (case a42 => apply Sm.dk<;>k_is)
  (case a43 => apply Sm.dk<;>k_is)
  (case a44 => apply Sm.dk<;>k_is)
  (case a45 => apply Sm.dk<;>k_is)
  (case a46 => apply Sm.dk<;>k_is)
  (case a47 => apply Sm.dk<;>k_is)
  (case a48 => apply Sm.dk<;>k_is)
  (case a49 => apply Sm.dk<;>k_is)
  (case a50 => apply Sm.dk<;>k_is)
  (case a51 => apply Sm.dk<;>k_is)
  (case a52 => apply Sm.dk<;>k_is)
  (case a53 => apply Sm.dk<;>k_is)
  (case a54 => apply Sm.dk<;>k_is)
  (case a55 => apply Sm.dk<;>k_is)
  (case kk0 => constructor<;>k_is)
  (case mk0 => k_is)
  (case kc0 => k_is)
  (case nf0_0 => apply Sm.fatt;k_is)
  (case nf0_1 => apply Sm.fatt;k_is)
  (case nf0_2 => apply Sm.fatt;k_is)
  (case nf0_3 => apply Sm.fatt;k_is)
  (case nf0_4 => apply Sm.fatt;k_is)
  (case nf0_5 => apply Sm.fatt;k_is)
  (case nf0_6 => apply Sm.fatt;k_is)
  (case nf0_7 => apply Sm.fatt;k_is)
  (case z_abs => apply Sm.na;k_is)
  (case z_all => apply Sm.na;k_is)
  (case z_bool => apply Sm.na;k_is)
  (case z_enumerate => apply Sm.na;k_is)
  (case z_int => apply Sm.na;k_is)
  (case z_isinstance => apply Sm.na;k_is)
  (case z_len => apply Sm.na;k_is)
  (case z_list => apply Sm.na;k_is)
  (case z_max => apply Sm.na;k_is)
  (case z_range => apply Sm.na;k_is)
  (case z_str => apply Sm.na;k_is)
  (case z_zip => apply Sm.na;k_is)
  (case e_SkeinError => apply Sm.na;k_is)
  (case e_NoText => apply Sm.na;k_is)
  (case x_NoText => apply Sm.xi;k_exc)
  (case e_NoPiece => apply Sm.na;k_is)
  (case x_NoPiece => apply Sm.xi;k_exc)
  (case e_Loose => apply Sm.na;k_is)
  (case x_Loose => apply Sm.xi;k_exc)
  (case e_Unlevel => apply Sm.na;k_is)
  (case x_Unlevel => apply Sm.xi;k_exc)
  (case e_TooLong => apply Sm.na;k_is)
  (case x_TooLong => apply Sm.xi;k_exc)
  (case e_NoPlace => apply Sm.na;k_is)
  (case x_NoPlace => apply Sm.xi;k_exc)
  (case m_LEAF_SIGNS => apply Sm.na;k_is)
  (case m_MOST_PLAIN => apply Sm.na;k_is)
  (case m_MOST_SIGNS => apply Sm.na;k_is)
