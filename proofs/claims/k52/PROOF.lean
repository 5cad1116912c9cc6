import PyProof.Rows.All
import Wide.All
import OpenK.AllK
import Wide.FinOn
import Lean
import PyProof.EqAt
import PyProof.EqKinds
import PyProof.TupleCall
import PyProof.StrCalls2
import PyProof.SumAny
import PyProof.Rows.Range3
import PyProof.StrBlockI
import PyProof.SliceStr2
import PyProof.IsRules
import PyProof.StrBlock2
import PyProof.ListRange
import KE.KRevSl
import PyProof.Seq
import KE.KRevIter
import PyProof.StrBlock
import PyProof.Rows.SortWalk
import PyProof.StrLawsIn
import PySem.Challenge.RW_skeinwood_k52_whole_long_texts_cut_and_p
set_option Elab.async false
set_option linter.all false
set_option maxRecDepth 100000
noncomputable section
namespace L2
open PySem PySem.Spec PyProof.Rows
abbrev Key:=Sum Int Str
abbrev b01 (b:Bool):Int:=if b then 1 else 0
def ydU:Key->Value->Bool
 | .inl k,.bool b=>decide (k=b01 b)
 | .inl k,v=>Value.isInt k v
 | .inr x,v=>Value.isStrOf x v
def keyH (w:World):Key->Int
 | .inl k=>hashInt k
 | .inr x=>hashStr w x
theorem zaw:∀ {k:Key} {v:Value},ydU k v=true->(∃ i t,k=Sum.inl i/\v=Value.int i t)\/(∃ b,k=Sum.inl (b01 b)/\v=Value.bool b)\/(∃ x t,k=Sum.inr x/\v=Value.str x t)
 | .inl i,v,h=>by
  cases v with
  | bool b=>exact .inr (.inl ⟨b,by rw [of_decide_eq_true (show decide (i=b01 b)=true from h)],rfl⟩)
  | int j t =>
   obtain ⟨t,e⟩:=Value.isInt_shape (k:=i) (v:=.int j t) h
   exact .inl ⟨i,t,rfl,e⟩
  | _=>exact absurd h (by simp [ydU,Value.isInt])
 | .inr x,v,h=>by
  obtain ⟨t,e⟩:=Value.isStrOf_shape (x:=x) (v:=v) h
  exact .inr (.inr ⟨x,t,rfl,e⟩)
theorem zgN (i:Int) (t:Tok):ydU (.inl i) (.int i t)=true:=by simp [ydU,Value.isInt]
theorem zgO (x:Str) (t:Tok):ydU (.inr x) (.str x t)=true:=by simp [ydU,Value.isStrOf]
theorem yeW (a b:Int):decide ((Sum.inl a:Key)=Sum.inl b)=(a == b):=by
 by_cases e:a=b
 ·subst e;simp
 ·have h : ¬ (Sum.inl a:Key)=Sum.inl b:=fun q=>e (Sum.inl.inj q)
  rw [decide_eq_false h]
  exact (beq_eq_false_iff_ne.mpr e).symm
theorem ygg (a b:Str):decide ((Sum.inr a:Key)=Sum.inr b)=decide (a=b):=by
 by_cases e:a=b
 ·subst e;simp
 ·have h : ¬ (Sum.inr a:Key)=Sum.inr b:=fun q=>e (Sum.inr.inj q)
  rw [decide_eq_false h,decide_eq_false e]
theorem yfm (a:Int) (b:Str):decide ((Sum.inl a:Key)=Sum.inr b)=false:=decide_eq_false (fun q=>nomatch q)
theorem yfn (a:Str) (b:Int):decide ((Sum.inr a:Key)=Sum.inl b)=false:=decide_eq_false (fun q=>nomatch q)
theorem zcu {prog:Program} {w:World} {A:Around} {E:Value->Shared->Prop} {s:Shared} {b:Bool} {Q:Int->Shared->Prop} (h:Q (hashInt (b01 b)) { s with toks:=s.toks+1 }) :
  wpAny (model prog w) A (pyHash (.bool b)) Q E s:=by
 unfold pyHash
 unfold pyHashByItsType
 have hv:[Value.bool b].any Value.onHeap=false:=rfl
 refine wpAny_bind ?_
 rw [cRoomFor,if_neg (by rw [hv];exact Bool.false_ne_true)];refine wpAny_pure ?_
 refine wpAny_bind (wpAny_specialOf (PySem.typeIs_bool s b) PySem.F.slot_bool_hash.lookup ?_)
 show wpAny _ _ (if (some (Value.builtin "int.__hash__") == some Value.none)=true then _ else _) Q E s
 rw [if_neg (by rw [beq_builtin_none];exact Bool.false_ne_true)]
 refine wpAny_bind (wpAny_specialOf (PySem.typeIs_bool s b) PySem.F.slot_bool_hash.lookup ?_)
 show wpAny _ _ (callSpecialIfBoundUnlessNone? (.bool b) "__hash__" _ >>= _) Q E s
 cases b with
 | false =>
  refine wpAny_bind (wpAny_callSpecialIfBoundUnlessNone?_slot (PySem.typeIs_bool s false) PySem.F.slot_bool_hash
   (wpAny_call_entry PySem.F.slot_bool_hash (PySem.typeIs_bool s false) entry_int_hash
    (show wpAny _ _ (do ret (<- mkInt 0)) _ _ s from wpAny_ret_mkInt ?_) (args_int_hash _)))
  exact wpAny_pure h
 | true =>
  refine wpAny_bind (wpAny_callSpecialIfBoundUnlessNone?_slot (PySem.typeIs_bool s true) PySem.F.slot_bool_hash
   (wpAny_call_entry PySem.F.slot_bool_hash (PySem.typeIs_bool s true) entry_int_hash
    (show wpAny _ _ (do ret (<- mkInt 1)) _ _ s from wpAny_ret_mkInt ?_) (args_int_hash _)))
  exact wpAny_pure h
theorem ziK (a b:Bool):(a == b)=decide ((Sum.inl (b01 a):Key)=Sum.inl (b01 b)):=by cases a<;>cases b<;>decide
def ybl (prog:Program) (w:World):PySem.KeyKind prog w Key where
 is:=ydU
 hash:=keyH w
 inj:=fun v a b ha hb=>by
  rcases zaw ha with ⟨i,t,rfl,rfl⟩ | ⟨c,rfl,rfl⟩ | ⟨x,t,rfl,rfl⟩
  ·rcases zaw hb with ⟨j,u,rfl,e⟩ | ⟨d,rfl,e⟩ | ⟨y,u,rfl,e⟩
   ·injection e with e1 _;rw [e1]
   ·exact nomatch e
   ·exact nomatch e
  ·rcases zaw hb with ⟨j,u,rfl,e⟩ | ⟨d,rfl,e⟩ | ⟨y,u,rfl,e⟩
   ·exact nomatch e
   ·injection e with e1;rw [e1]
   ·exact nomatch e
  ·rcases zaw hb with ⟨j,u,rfl,e⟩ | ⟨d,rfl,e⟩ | ⟨y,u,rfl,e⟩
   ·exact nomatch e
   ·exact nomatch e
   ·injection e with e1 _;rw [e1]
 byValue:=fun k v h=>by
  rcases zaw h with ⟨i,t,rfl,rfl⟩ | ⟨c,rfl,rfl⟩ | ⟨x,t,rfl,rfl⟩<;>rfl
 pyHash:=fun hv h=>by
  rcases zaw hv with ⟨i,t,rfl,rfl⟩ | ⟨c,rfl,rfl⟩ | ⟨x,t,rfl,rfl⟩
  ·exact wpAny_pyHash_int h
  ·exact zcu h
  ·exact wpAny_pyHash_str h
 eqBool:=fun hu hv h=>by
  rcases zaw hu with ⟨i,t,rfl,rfl⟩ | ⟨c,rfl,rfl⟩ | ⟨x,t,rfl,rfl⟩
  ·rcases zaw hv with ⟨j,u,rfl,rfl⟩ | ⟨d,rfl,rfl⟩ | ⟨y,u,rfl,rfl⟩
   ·rw [yeW] at h;exact wpAny_eqBool_int h
   ·rw [yeW] at h;exact SeqAt.EqAt.int_bool i t d _ _ _ _ h
   ·rw [yfm] at h;exact SeqAt.EqAt.int_str i t y u _ _ _ _ h
  ·rcases zaw hv with ⟨j,u,rfl,rfl⟩ | ⟨d,rfl,rfl⟩ | ⟨y,u,rfl,rfl⟩
   ·rw [yeW] at h;exact SeqAt.EqAt.bool_int c j u _ _ _ _ h
   ·rw [<- ziK] at h;exact SeqAt.EqAt.bool_bool c d _ _ _ _ h
   ·rw [yfm] at h;exact SeqAt.EqAt.bool_str c y u _ _ _ _ h
  ·rcases zaw hv with ⟨j,u,rfl,rfl⟩ | ⟨d,rfl,rfl⟩ | ⟨y,u,rfl,rfl⟩
   ·rw [yfn] at h;exact SeqAt.EqAt.str_int x t j u _ _ _ _ h
   ·rw [yfn] at h;exact SeqAt.EqAt.str_bool x t d _ _ _ _ h
   ·rw [ygg] at h;exact wpAny_eqBool_str h
 «strs» := fun k x t v h=>by
  rcases zaw h with ⟨i,u,rfl,e⟩ | ⟨d,rfl,e⟩ | ⟨y,u,rfl,e⟩
  ·exact nomatch e
  ·exact nomatch e
  ·injection e with e1 _
   subst e1
   cases v<;>rfl
theorem zcz (prog:Program) (w:World) (i:Int) (t:Tok):(ybl prog w).is (.inl i) (.int i t)=true:=zgN i t
theorem zcA (prog:Program) (w:World) (x:Str) (t:Tok):(ybl prog w).is (.inr x) (.str x t)=true:=zgO x t
end L2
namespace L2
open PySem PySem.Spec PyProof.Rows
inductive V where
 | non | bl (b:Bool) | int (i:Int) | str (x:Str) | byt (b:Array UInt8) | flt (b:UInt64) | ref (a:Addr) | ty (n:String)
 deriving DecidableEq
def RelV:V->Value->Prop
 | .non,u=>u=Value.none
 | .bl b,u=>u=Value.bool b
 | .int i,u=>∃ t,u=Value.int i t
 | .str x,u=>∃ t,u=Value.str x t
 | .byt b,u=>∃ t,u=Value.bytes b t
 | .flt b,u=>∃ t,u=Value.float b t
 | .ref a,u=>u=Value.ref a
 | .ty n,u=>u=Value.type n
abbrev Vals:List V->List Value->Prop:=Paired RelV
theorem Vals.length {xs:List V} {us:List Value} (r:Vals xs us):xs.length=us.length:=Paired.length r
theorem Vals.get:∀ {xs:List V} {us:List Value} {i:Nat} {x:V},Vals xs us->xs[i]? = some x->∃ u,us[i]? = some u/\RelV x u
 | _,_,_,_,.nil,e=>by simp at e
 | _,_,0,_,.cons r _,e=>by simp at e;subst e;exact ⟨_,rfl,r⟩
 | _,_,i+1,x,.cons _ t,e=>by
  obtain ⟨u,h1,h2⟩:=Vals.get (i:=i) (x:=x) t (by simpa using e)
  exact ⟨u,by simpa using h1,h2⟩
theorem Vals.set {x:V} {u:Value} (r:RelV x u):∀ {xs:List V} {us:List Value} (i:Nat),Vals xs us->Vals (xs.set i x) (us.set i u)
 | _,_,_,.nil=>.nil
 | _,_,0,.cons _ t=>.cons r t
 | _,_,i+1,.cons q t=>.cons q (Vals.set r i t)
theorem Vals.append:∀ {xs ys:List V} {us ws:List Value},Vals xs us->Vals ys ws->Vals (xs++ys) (us++ws)
 | _,_,_,_,.nil,s=>s
 | _,_,_,_,.cons r t,s=>.cons r (Vals.append t s)
theorem Vals.take:∀ {xs:List V} {us:List Value} (n:Nat),Vals xs us->Vals (xs.take n) (us.take n)
 | _,_,0,_=>.nil
 | _,_,_+1,.nil=>.nil
 | _,_,n+1,.cons r t=>.cons r (Vals.take n t)
theorem Vals.drop:∀ {xs:List V} {us:List Value} (n:Nat),Vals xs us->Vals (xs.drop n) (us.drop n)
 | _,_,0,r=>r
 | _,_,_+1,.nil=>.nil
 | _,_,n+1,.cons _ t=>Vals.drop n t
def RelO:Option V->Option Value->Prop
 | some v,some u=>RelV v u
 | none,none=>True
 | _,_=>False
def KV {κ:Type}:List (κ×V)->List (κ×Value)->Prop:=Paired fun (p:κ×V) (q:κ×Value)=>p.1=q.1/\RelV p.2 q.2
def kV:Key->V
 | .inl i=>.int i
 | .inr x=>.str x
def kOf:V->Option Key
 | .int i=>some (.inl i)
 | .bl b=>some (.inl (b01 b))
 | .str x=>some (.inr x)
 | _=>none
theorem ygh (k:Key):kOf (kV k)=some k:=by cases k<;>rfl
inductive HO where
 | lst (xs:List V)
 | tup (xs:List V)
 | dK (kvs:List (Key×V)) | dT (kvs:List (List Key×V))
 | set (S:Int->Bool) (n:Nat)
 | ins (C dx:Addr) (fs:List (Str×V))
 | own (x:Addr)
 | xd (fs:List (Str×V))
 | met (f x:Addr)
 | rng (lo hi:Int)
 | frz (o:Obj) (u:HO)
 | tbl (ps:Array Value)
 | ext (φ:Heap->Prop)
abbrev Hp:=Addr->Option HO
def upd (H:Hp) (a:Addr) (o:HO):Hp:=fun b=>if b=a then some o else H b
theorem zat {H:Hp} {a:Addr} {o:HO}:upd H a o a=some o:=by unfold upd;rw [if_pos rfl]
theorem yaC {H:Hp} {a b:Addr} {o:HO} (h:b≠a):upd H a o b=H b:=by unfold upd;rw [if_neg h]
theorem yhu {H:Hp} {a b:Addr} {o u:HO} (h:H a=some o) (h':H b=some u) (d:o≠u):a≠b:=by
 intro e;subst e;rw [h] at h';exact d (Option.some.inj h')
theorem zav {H:Hp} {a b:Addr} {o:HO} (h:H a=some o) (h':H b=none):a≠b:=by
 intro e;subst e;rw [h] at h';cases h'
section
variable (P:Program) (w:World)
def ObjOk (H:Hp) (h:Heap) (a:Addr):HO->Prop
 | .lst xs=>xs.length<=sizeLine/\∃ (its:List Value) (n:Nat),Vals xs its/\h.get? a=some { cls:=.type "list",data:=.seq its.toArray n }
 | .tup xs=>xs.length<=sizeLine/\∃ its:List Value,Vals xs its/\IsTup h a its.toArray
 | .dK kvs=>kvs.length<=sizeLine/\(a == sysModules)=false/\∃ vs,KV kvs vs/\h.DictOf (ybl P w) a vs
 | .dT kvs=>kvs.length<=sizeLine/\(a == sysModules)=false/\∃ xs:List (List Key×Addr×Value),
   Paired (fun (p:List Key×V) (q:List Key×Addr×Value)=>p.1=q.1/\(∃ ys,H q.2.1=some (.tup ys)/\ys.map kOf=p.1.map some)/\RelV p.2 q.2.2) kvs xs /\
   ∃ o es ep,h.get? a=some o/\o.ExactDict/\o.data = .dict es ep/\es.toList=xs.map (entryOfKey (tupleKind (ybl P w)))/\(xs.map (·.1)).Nodup
 | .set S n=>h.SetOf (intKind P w) a S n
 | .ins C dx fs=>H dx=some (.own a)/\fs.length<=1000/\dx≠a/\h.get? a=some (PySem.W.instObj C dx) /\
   ∃ mA,h.Ns1 dx mA/\(∀ f,RelO (fs.lookup f) (mA f))/\PySem.Within mA (fs.map (·.1))
 | .own _=>∃ o,h.get? a=some o
 | .xd fs=>∃ mA,h.Ns1 a mA/\∀ f,RelO (fs.lookup f) (mA f)
 | .rng lo hi=>∃ t u v,h.get? a=some { cls:=.type "range",data:=.fields #[.int lo t,.int hi u,.int 1 v] }
 | .frz o u=>h.get? a=some o/\ObjOk H h a u
 | .tbl ps=>h.get? a=some { cls:=.none,data:=.fields ps }
 | .met f x=>h.get? a=some (PySem.W.methodObj (.ref f) (.ref x))
 | .ext φ=>φ h/\(∃ o,h.get? a=some o)/\∀ h1 h2:Heap,φ h1->(∀ o,h1.get? a=some o->h2.get? a=some o)->φ h2
def HOk (H:Hp) (h:Heap):Prop:=∀ a o,H a=some o->ObjOk P w H h a o
end
section
variable {P:Program} {w:World} {H H':Hp} {h h':Heap} {a:Addr} {o:HO}
theorem ObjOk.lt (x:ObjOk P w H h a o):a<h.objs.size:=by
 cases o with
 | lst xs=>obtain ⟨_,_,_,_,e⟩:=x;exact Heap.lt_size e
 | tup xs=>obtain ⟨_,_,_,p⟩:=x;exact p.lt
 | dK kvs=>obtain ⟨_,_,_,_,o,_,_,e,_⟩:=x;exact Heap.lt_size e
 | dT kvs=>obtain ⟨_,_,_,_,o,_,_,e,_⟩:=x;exact Heap.lt_size e
 | set S n=>obtain ⟨o,_,_,_,e,_⟩:=x;exact Heap.lt_size e
 | ins C dx fs=>obtain ⟨_,_,_,e,_⟩:=x;exact Heap.lt_size e
 | own y=>obtain ⟨_,e⟩:=x;exact Heap.lt_size e
 | xd fs=>obtain ⟨_,⟨_,_,_,e,_⟩,_⟩:=x;exact Heap.lt_size e
 | rng lo hi=>obtain ⟨_,_,_,e⟩:=x;exact Heap.lt_size e
 | frz ob u=>obtain ⟨e,_⟩:=x;exact Heap.lt_size e
 | tbl ps=>exact Heap.lt_size (show h.get? a=some _ from x)
 | met f y=>exact Heap.lt_size (show h.get? a=some _ from x)
 | ext φ=>obtain ⟨_,⟨_,e⟩,_⟩:=x;exact Heap.lt_size e
theorem Paired.mapP {α β:Type} {F G:α->β->Prop}:∀ {l₁:List α} {l₂:List β},Paired F l₁ l₂->(∀ a b,F a b->G a b)->Paired G l₁ l₂
 | _,_,.nil,_=>.nil
 | _,_,.cons r t,f=>.cons (f _ _ r) (Paired.mapP t f)
theorem ObjOk.stay (x:ObjOk P w H h a o) (k:∀ b u,(b=a\/H b=some (.own a))->h.get? b=some u->h'.get? b=some u)
  (ho:∀ b,H b=some (.own a)->H' b=some (.own a)) (ht:∀ b xs,H b=some (.tup xs)->H' b=some (.tup xs)):ObjOk P w H' h' a o:=by
 induction o with
 | lst xs=>obtain ⟨z,its,n,r,e⟩:=x;exact ⟨z,its,n,r,k _ _ (.inl rfl) e⟩
 | tup xs=>obtain ⟨z,its,r,ob,e,c⟩:=x;exact ⟨z,its,r,ob,k _ _ (.inl rfl) e,c⟩
 | dK kvs=>obtain ⟨z,y,vs,r,ob,es,ep,e,c⟩:=x;exact ⟨z,y,vs,r,ob,es,ep,k _ _ (.inl rfl) e,c⟩
 | dT kvs =>
  obtain ⟨z,y,xs,r,ob,es,ep,e,c⟩:=x
  exact ⟨z,y,xs,Paired.mapP r fun p q z=>⟨z.1,z.2.1.imp fun _ e=>⟨ht _ _ e.1,e.2⟩,z.2.2⟩,ob,es,ep,k _ _ (.inl rfl) e,c⟩
 | set S n=>obtain ⟨ob,es,ep,t,e,c⟩:=x;exact ⟨ob,es,ep,t,k _ _ (.inl rfl) e,c⟩
 | ins C dx fs =>
  obtain ⟨d,z,ne,e,mA,⟨od,es,ep,e2,c⟩,r⟩:=x
  exact ⟨ho _ d,z,ne,k _ _ (.inl rfl) e,mA,⟨od,es,ep,k _ _ (.inr d) e2,c⟩,r⟩
 | own y=>obtain ⟨ob,e⟩:=x;exact ⟨ob,k _ _ (.inl rfl) e⟩
 | xd fs=>obtain ⟨mA,⟨od,es,ep,e,c⟩,r⟩:=x;exact ⟨mA,⟨od,es,ep,k _ _ (.inl rfl) e,c⟩,r⟩
 | rng lo hi=>obtain ⟨t,u,v,e⟩:=x;exact ⟨t,u,v,k _ _ (.inl rfl) e⟩
 | frz ob u ih=>obtain ⟨e,q⟩:=x;exact ⟨k _ _ (.inl rfl) e,ih q⟩
 | tbl ps =>
  have e:h.get? a=some { cls:=.none,data:=.fields ps }:=x
  show h'.get? a=some { cls:=.none,data:=.fields ps }
  exact k a _ (.inl rfl) e
 | met f y =>
  have e:h.get? a=some (PySem.W.methodObj (.ref f) (.ref y)):=x
  show h'.get? a=some (PySem.W.methodObj (.ref f) (.ref y))
  exact k a _ (.inl rfl) e
 | ext φ=>obtain ⟨p,⟨o,e⟩,st⟩:=x;exact ⟨st _ _ p fun o q=>k _ _ (.inl rfl) q,⟨o,k _ _ (.inl rfl) e⟩,st⟩
theorem HOk.lt (x:HOk P w H h) (e:H a=some o):a<h.objs.size:=(x a o e).lt
theorem HOk.fresh (x:HOk P w H h) (e:h.objs.size<=a):H a=none:=by
 cases q:H a with
 | none=>rfl
 | some u=>exact absurd (Nat.lt_of_lt_of_le (x.lt q) e) (Nat.lt_irrefl _)
theorem HOk.kept (x:HOk P w H h) (k:∀ b u,h.get? b=some u->h'.get? b=some u):HOk P w H h' := fun a o e =>
 (x a o e).stay (fun b u _ q=>k b u q) (fun _ q=>q) fun _ _ q=>q
theorem HOk.laid (x:HOk P w H h) (k:∀ b u,h.get? b=some u->h'.get? b=some u) (hp:h.objs.size<=a) (new:ObjOk P w (upd H a o) h' a o):HOk P w (upd H a o) h' := fun b u e=>by
 have hn:=x.fresh hp
 by_cases hb:b=a
 ·subst hb;rw [zat] at e;cases e;exact new
 ·rw [yaC hb] at e
  exact (x b u e).stay (fun c v _ q=>k c v q) (fun c q=>by rw [yaC (zav q hn)];exact q) fun c xs q=>by rw [yaC (zav q hn)];exact q
end
def Rd (H:Hp) (a:Addr) (u:HO):Prop:=H a=some u\/∃ o,H a=some (.frz o u)
theorem Rd.ok {P:Program} {w:World} {H:Hp} {h:Heap} {a:Addr} {u:HO} (r:Rd H a u) (x:HOk P w H h):ObjOk P w H h a u:=by
 rcases r with r | ⟨o,r⟩
 ·exact x a u r
 ·obtain ⟨_,q⟩:=x a _ r
  exact q
def Mut:Option HO->Prop
 | some (.lst _)=>True
 | some (.dK _)=>True
 | some (.dT _)=>True
 | some (.set _ _)=>True
 | some (.ins _ _ _)=>True
 | some (.ext _)=>True
 | _=>False
section
variable {P:Program} {w:World} {H:Hp} {h h':Heap} {x e:Addr} {o':HO}
theorem HOk.write (ok:HOk P w H h) (mu:Mut (H x)) (he:e=x\/H e=some (.own x)) (k:∀ b u,b≠e->h.get? b=some u->h'.get? b=some u) (heo:∃ u,h'.get? e=some u)
  (new:ObjOk P w (upd H x o') h' x o'):HOk P w (upd H x o') h' := fun b u q=>by
 have nown:∀ c y,H c=some (.own y)->c≠x:=fun c y r z=>by subst z;rw [r] at mu;exact mu
 have ntup:∀ c xs,H c=some (.tup xs)->c≠x:=fun c xs r z=>by subst z;rw [r] at mu;exact mu
 by_cases hb:b=x
 ·subst hb;rw [zat] at q;cases q;exact new
 ·rw [yaC hb] at q
  by_cases hbe:b=e
  ·have q':H b=some (.own x):=by
    rcases he with z | z
    ·exact absurd (hbe.trans z) hb
    ·rw [hbe];exact z
   rw [q] at q';cases q'
   obtain ⟨v,hv⟩:=heo
   exact ⟨v,by rw [hbe];exact hv⟩
  ·refine (ok b u q).stay (fun c v hc r=>k c v ?_ r) (fun c r=>by rw [yaC (nown c b r)];exact r) fun c xs r=>by rw [yaC (ntup c xs r)];exact r
   rcases hc with rfl | hc
   ·exact hbe
   ·rintro rfl
    rcases he with z | z
    ·exact nown c b hc z
    ·rw [hc] at z;cases z;exact hb rfl
end
structure Un (fs ex:List Addr) (H H':Hp) (h h':Heap):Prop where
 keep:∀ b o,h.get? b=some o->H b=none->b∉fs->b∉ex->h'.get? b=some o
 slot:∀ b o,h.get? b=some o->H b=none->b∈fs->b∉ex->∃ sl,h'.get? b=some { o with slots:=sl }
 free:∀ b o,h.get? b=some o->H b=none->b∉ex->H' b=none
 there:∀ b o,h.get? b=some o->b∉ex->∃ o',h'.get? b=some o'
 tups:∀ b xs,H b=some (.tup xs)->H' b=some (.tup xs)
 frzs:∀ b o u,H b=some (.frz o u)->H' b=some (.frz o u)
 tbls:∀ b ps,H b=some (.tbl ps)->∃ more,H' b=some (.tbl (ps++more))
section
variable {fs fs' ex ex':List Addr} {H H1 H2:Hp} {h h1 h2 h':Heap} {a x e:Addr} {o:HO}
theorem Un.any (u:Un fs ex H H1 h h1) {b:Addr} {ob:Obj} (q:h.get? b=some ob) (n:H b=none) (hx:b∉ex):∃ sl,h1.get? b=some { ob with slots:=sl }:=by
 by_cases hb:b∈fs
 ·exact u.slot b ob q n hb hx
 ·exact ⟨ob.slots,u.keep b ob q n hb hx⟩
theorem Un.kept (k:∀ b u,h.get? b=some u->h'.get? b=some u):Un fs ex H H h h' :=
 ⟨fun b ob q _ _ _=>k b ob q,fun b ob q _ _ _=>⟨ob.slots,k b ob q⟩,fun _ _ _ n _=>n,fun b ob q _=>⟨ob,k b ob q⟩,fun _ _ q=>q,fun _ _ _ q=>q,fun _ ps q=>⟨#[],by rw [q];simp⟩⟩
theorem Un.refl:Un fs ex H H h h:=Un.kept fun _ _ q=>q
theorem Un.laid (k:∀ b u,h.get? b=some u->h'.get? b=some u) (hp:h.objs.size<=a) (hn:H a=none):Un fs ex H (upd H a o) h h' where
 keep:=fun b u q _ _ _=>k b u q
 slot:=fun b u q _ _ _=>⟨u.slots,k b u q⟩
 free:=fun b u q n _=>by rw [yaC (Nat.ne_of_lt (Nat.lt_of_lt_of_le (Heap.lt_size q) hp))];exact n
 there:=fun b u q _=>⟨u,k b u q⟩
 tups:=fun b xs q=>by rw [yaC (zav q hn)];exact q
 frzs:=fun b u xs q=>by rw [yaC (zav q hn)];exact q
 tbls:=fun b ps q=>⟨#[],by rw [yaC (zav q hn),q];simp⟩
theorem Un.write (mu:Mut (H x)) (he:e=x\/H e=some (.own x)) (k:∀ b u,b≠e->h.get? b=some u->h'.get? b=some u) (heo:∃ u,h'.get? e=some u):Un fs ex H (upd H x o) h h' := by
 have hx:∀ b,H b=none->b≠x:=fun b n z=>by subst z;rw [n] at mu;exact mu
 have hb:∀ b,H b=none->b≠e:=fun b n z=>by
  subst z
  rcases he with r | r
  ·exact hx b n r
  ·rw [n] at r;cases r
 have hm:∀ b u,H b=some u -> ¬ Mut (some u)->b≠x:=fun b u q nm z=>by subst z;rw [q] at mu;exact nm mu
 refine ⟨fun b u q n _ _=>k b u (hb b n) q,fun b u q n _ _=>⟨u.slots,k b u (hb b n) q⟩,fun b u q n _=>by rw [yaC (hx b n)];exact n,fun b u q _=>?_,
  fun b xs q=>by rw [yaC (hm b _ q fun z=>z)];exact q,fun b u xs q=>by rw [yaC (hm b _ q fun z=>z)];exact q,fun b ps q=>⟨#[],by rw [yaC (hm b _ q fun z=>z),q];simp⟩⟩
 by_cases hbe:b=e
 ·subst hbe;exact heo
 ·exact ⟨u,k b u hbe q⟩
end
def trk (h:Heap) (H:Hp):List Addr:=(List.range h.objs.size).filter fun a=>(H a).isSome
def hidT (h:Heap) (H:Hp):Heap:=PySem.W.hideAll h (trk h H)
theorem zgP (h:Heap) (H:Hp):(hidT h H).objs.size=h.objs.size:=PySem.W.hideAll_size _ _
theorem zhG {h:Heap} {H:Hp} {b:Addr} {o:Obj} (e:h.get? b=some o) (n:H b=none):(hidT h H).get? b=some o :=
 PySem.W.hideAll_get _ e fun hm=>by
  have q:(H b).isSome=true:=(List.mem_filter.mp hm).2
  rw [n] at q;simp at q
theorem ziL {h:Heap} {H:Hp} {b:Addr} {o:Obj} (e:(hidT h H).get? b=some o):h.get? b=some o/\H b=none:=by
 have e':h.get? b=some o:=PySem.W.of_hideAll (trk h H) e
 refine ⟨e',?_⟩
 cases q:H b with
 | none=>rfl
 | some x =>
  have hm:b∈trk h H:=List.mem_filter.mpr ⟨List.mem_range.mpr (Heap.lt_size e'),by simp [q]⟩
  have z:(hidT h H).get? b=none:=PySem.W.hideAll_none (trk h H) hm
  rw [z] at e;cases e
end L2
namespace L2
open PySem PySem.Spec PyProof.Rows
structure Mod (K:PySem.W.Frag) (mg:Str->Option Value) (base:Heap):Prop where
 kin:K.In base
 glob:base.Ns mainGlobals mg
 blt:∃ mb,base.Ns builtinsNs mb/\∀ x:Str,x ≠ "__name__" -> mb x=bootBuiltins x
 nolimit:base.NoLimit
structure Cx where
 prog:Program
 w:World
 K:PySem.W.Frag
 mg:Str->Option Value
 base:Heap
 A:Around
 N:List Str
 s₀:Shared
 H₀:Hp
 env:Env
 outer:List Env
 stack:List Env
 ex:List Addr
 fn:Str->Bool
 calm:Bool
 pn:List (Addr×Obj)
 xe:Value->Shared->Prop
def frs (l:List Env):List Addr:=l.filterMap (·.frame)
abbrev Cx.fs (X:Cx):List Addr:=frs X.outer
def Vis (sc:Scope) (x:Str):Prop:=sc.names.lookup x=some .local\/sc.names.lookup x=some .cell\/sc.names.lookup x=some .free
def Loc (sc:Scope) (x:Str):Prop:=sc.names.lookup x=some .local\/sc.names.lookup x=some .cell
def Look (env:Env) (h:Heap) (m:Str->Option Value) (x:Str) (u:Value):Prop :=
 (env.kindOf x=some .local/\m x=some u)\/((env.kindOf x=some .cell\/env.kindOf x=some .free)/\∃ c,env.cells.lookup x=some c/\h.IsCell c (some u))
structure Cx.Ok (X:Cx):Prop where
 mod:Mod X.K X.mg X.base
 kind:X.env.scope.kind = .function
 glob:X.env.globals=mainGlobals
 blt:X.env.builtins=builtinsNs
 above:X.s₀.heap.objs.size<=X.env.locals
 inj:∀ x y c,X.env.cells.lookup x=some c->X.env.cells.lookup y=some c->x=y
 has:∀ x,(X.env.kindOf x=some .cell\/X.env.kindOf x=some .free)->∃ c,X.env.cells.lookup x=some c
 cab:∀ x c,X.fn x=true->X.env.cells.lookup x=some c->X.s₀.heap.objs.size<=c
 hd:X.calm=true->X.A.handled=none
 frames:X.A.frames=some X.stack
 stk:X.stack=X.outer\/(X.stack=X.env::X.outer/\X.env.frame=some X.env.locals)
 exf:∀ b∈X.ex,b≠X.env.locals/\∀ x c,X.env.cells.lookup x=some c->c≠b
 bs:∀ b o,X.base.get? b=some o->X.s₀.heap.get? b=some o/\X.H₀ b=none
 bsz:X.base.objs.size<=X.s₀.heap.objs.size
 noex:∀ b o,X.base.get? b=some o->b∉X.ex
 exfs:∀ b∈X.ex,b∉X.fs
 funs:X.s₀.heap.FunFrames X.base X.outer
 frf:∀ b∈X.fs,X.H₀ b=none
structure Inv (X:Cx) (pins:List (Addr×Obj)) (σ:List (Option V)) (H:Hp) (s:Shared):Prop where
 ok:X.Ok
 os:s.os=X.s₀.os
 bare:AllBare s.gens
 base:Un X.fs X.ex X.H₀ H X.s₀.heap s.heap
 loc:∃ m,s.heap.Ns X.env.locals m/\∀ (i:Nat) (x:Str) (v:V),X.N[i]? = some x->σ[i]? = some (some v)->Vis X.env.scope x->∃ u,RelV v u/\Look X.env s.heap m x u
 cell:∀ x c,X.env.cells.lookup x=some c->∃ v,s.heap.IsCell c v
 free:H X.env.locals=none
 freeC:∀ x c,X.env.cells.lookup x=some c->H c=none
 pin:∀ p∈X.pn++pins,s.heap.get? p.1=some p.2/\H p.1=none/\p.1≠X.env.locals/\p.1∉X.fs/\∀ v,p.2.data ≠ .cell v
 hok:HOk X.prog X.w H s.heap
 len:σ.length=X.N.length
section
variable {X:Cx} {pins:List (Addr×Obj)} {σ:List (Option V)} {H H':Hp} {s:Shared} {h':Heap}
theorem Cx.Ok.nofr (ok:X.Ok) {b:Addr} {o:Obj} (e:X.base.get? b=some o):b∉X.fs:=fun hb=>by
 have:=(ok.funs.mem hb).1
 rw [e] at this;cases this
theorem Inv.bs (I:Inv X pins σ H s):∀ b o,X.base.get? b=some o->s.heap.get? b=some o/\H b=none:=fun b o e =>
 ⟨I.base.keep b o (I.ok.bs b o e).1 (I.ok.bs b o e).2 (I.ok.nofr e) (I.ok.noex b o e),I.base.free b o (I.ok.bs b o e).1 (I.ok.bs b o e).2 (I.ok.noex b o e)⟩
theorem Inv.bk (I:Inv X pins σ H s):∀ b o,X.base.get? b=some o->s.heap.get? b=some o:=fun b o e=>(I.bs b o e).1
theorem Inv.mod (I:Inv X pins σ H s):Mod X.K X.mg X.base:=I.ok.mod
theorem Inv.kIn (I:Inv X pins σ H s):X.K.In s.heap:=I.ok.mod.kin.keeps I.bk
theorem Inv.fr (I:Inv X pins σ H s):∃ m,Fr X.base X.env.locals s.heap m :=
 let ⟨m,hn,_⟩:=I.loc
 ⟨m,hn,I.bk,Nat.le_trans I.ok.bsz I.ok.above⟩
theorem Inv.lt (I:Inv X pins σ H s):X.env.locals<s.heap.objs.size:=let ⟨_,hn,_⟩:=I.loc;hn.lt
theorem Inv.sz (I:Inv X pins σ H s):X.s₀.heap.objs.size<=s.heap.objs.size:=Nat.le_trans I.ok.above (Nat.le_of_lt I.lt)
theorem Inv.nofs (I:Inv X pins σ H s) {a:Addr} (h:s.heap.objs.size<=a):a∉X.fs:=fun hb=>by
 obtain ⟨_,o,ho,_⟩:=I.ok.funs.mem hb
 exact absurd (Nat.lt_of_lt_of_le (Heap.lt_size ho) (Nat.le_trans I.sz h)) (Nat.lt_irrefl _)
theorem Inv.cne (I:Inv X pins σ H s):∀ x c,X.env.cells.lookup x=some c->c≠X.env.locals:=fun x c e z=>by
 obtain ⟨v,o,ho,hd⟩:=I.cell x c e
 obtain ⟨m,⟨o',es,ep,ho',hd',_⟩,_⟩:=I.loc
 rw [z,ho'] at ho;cases ho;rw [hd'] at hd;cases hd
theorem Inv.funs (I:Inv X pins σ H s):s.heap.FunFrames X.base X.outer:=by
 have all:∀ (l:List Env),(∀ b∈frs l,b∈X.fs)->X.s₀.heap.FunFrames X.base l->s.heap.FunFrames X.base l:=by
  intro l
  induction l with
  | nil=>intro _ _;trivial
  | cons env r ih =>
   intro hs hl
   obtain ⟨hk,⟨L,o,hf,hn,ho,hd⟩,hr⟩:=hl
   have hL:L∈X.fs:=hs L (by unfold frs;rw [List.filterMap_cons,hf];exact List.mem_cons_self)
   obtain ⟨sl,e⟩:=I.base.slot L o ho (I.ok.frf L hL) hL fun z=>I.ok.exfs L z hL
   exact ⟨hk,⟨L,_,hf,hn,e,hd⟩,ih (fun b hb=>hs b (by unfold frs;rw [List.filterMap_cons,hf];exact List.mem_cons_of_mem _ hb)) hr⟩
 exact all X.outer (fun _ hb=>hb) I.ok.funs
theorem Inv.stack (I:Inv X pins σ H s):s.heap.FunFrames X.base X.stack:=by
 rcases I.ok.stk with e | ⟨e,hf⟩
 ·rw [e];exact I.funs
 ·rw [e]
  obtain ⟨m,hn,_⟩:=I.loc
  refine .cons (by rw [I.ok.kind];decide) hf hn ?_ I.funs
  exact Heap.get?_none_of_le (Nat.le_trans I.ok.bsz I.ok.above)
theorem Inv.stkSub (I:Inv X pins σ H s):∀ b∈frs X.stack,b∈X.env.locals::X.fs:=fun b hb=>by
 rcases I.ok.stk with e | ⟨e,hf⟩
 ·rw [e] at hb;exact List.mem_cons_of_mem _ hb
 ·rw [e] at hb
  unfold frs at hb
  rw [List.filterMap_cons,hf] at hb
  exact hb
theorem Inv.stkFree (I:Inv X pins σ H s):∀ b∈frs X.stack,H b=none:=fun b hb=>by
 rcases List.mem_cons.mp (I.stkSub b hb) with e | hb
 ·rw [e];exact I.free
 ·obtain ⟨_,o,ho,_⟩:=I.ok.funs.mem hb
  exact I.base.free b o ho (I.ok.frf b hb) fun z=>I.ok.exfs b z hb
theorem Inv.step {g':Array GenState} {t':Nat} {d':Drawn} {ch:List Addr} (I:Inv X pins σ H s)
  (hch:∀ b∈ch,(b∈X.ex\/X.s₀.heap.objs.size<=b)/\b≠X.env.locals/\(∀ x c,X.env.cells.lookup x=some c->c≠b)/\∀ p∈X.pn++pins,p.1≠b)
  (keep:∀ b o,b≠X.env.locals->b∉X.fs->b∉ch->s.heap.get? b=some o->H b=none->h'.get? b=some o)
  (slot:∀ b o,b≠X.env.locals->b∈X.fs->b∉ch->s.heap.get? b=some o->H b=none->∃ sl,h'.get? b=some { o with slots:=sl }) (free:∀ b o,b∉ch->s.heap.get? b=some o->H b=none->H' b=none)
  (there:∀ b o,b∉ch->s.heap.get? b=some o->∃ o',h'.get? b=some o')
  (tups:∀ b xs,H b=some (.tup xs)->H' b=some (.tup xs)) (frzs:∀ b o u,H b=some (.frz o u)->H' b=some (.frz o u)) (tbls:∀ b ps,H b=some (.tbl ps)->∃ more,H' b=some (.tbl (ps++more)))
  (ns:∀ m,s.heap.Ns X.env.locals m->h'.Ns X.env.locals m) (hok:HOk X.prog X.w H' h') (hg:AllBare g') :
  Inv X pins σ H' { s with heap:=h',gens:=g',drawn:=d',toks:=t' }:=by
 have neL:∀ b o,X.s₀.heap.get? b=some o->b≠X.env.locals:=fun b o e=>Nat.ne_of_lt (Nat.lt_of_lt_of_le (Heap.lt_size e) I.ok.above)
 have neC:∀ b o,X.s₀.heap.get? b=some o->b∉X.ex->b∉ch:=fun b o e hx hb=>by
  rcases (hch b hb).1 with z | z
  ·exact hx z
  ·exact absurd (Nat.lt_of_lt_of_le (Heap.lt_size e) z) (Nat.lt_irrefl _)
 have cellK:∀ x c,X.env.cells.lookup x=some c->∀ v,s.heap.IsCell c v->h'.IsCell c v:=fun x c e v ⟨o,ho,hd⟩=>by
  have nch:c∉ch:=fun z=>(hch c z).2.2.1 x c e rfl
  by_cases hc:c∈X.fs
  ·obtain ⟨sl,q⟩:=slot c o (I.cne x c e) hc nch ho (I.freeC x c e)
   exact ⟨_,q,hd⟩
  ·exact ⟨o,keep c o (I.cne x c e) hc nch ho (I.freeC x c e),hd⟩
 refine ⟨I.ok,I.os,hg,⟨fun b o e n hb hx=>?_,fun b o e n hb hx=>?_,fun b o e n hx=>?_,fun b o e hx=>?_,fun b xs e=>tups b xs (I.base.tups b xs e),fun b o xs e=>frzs b o xs (I.base.frzs b o xs e),fun b ps e=>?_⟩,?_,fun x c e=>?_,?_,fun x c e=>?_,fun p hp=>?_,hok,I.len⟩
 ·exact keep b o (neL b o e) hb (neC b o e hx) (I.base.keep b o e n hb hx) (I.base.free b o e n hx)
 ·obtain ⟨sl,e1⟩:=I.base.slot b o e n hb hx
  obtain ⟨sl',e2⟩:=slot b _ (neL b o e) hb (neC b o e hx) e1 (I.base.free b o e n hx)
  exact ⟨sl',e2⟩
 ·obtain ⟨o',e1⟩:=I.base.there b o e hx
  exact free b o' (neC b o e hx) e1 (I.base.free b o e n hx)
 ·obtain ⟨o',e1⟩:=I.base.there b o e hx
  exact there b o' (neC b o e hx) e1
 ·obtain ⟨m1,e1⟩:=I.base.tbls b ps e
  obtain ⟨m2,e2⟩:=tbls b _ e1
  exact ⟨m1++m2,by rw [e2,Array.append_assoc]⟩
 ·obtain ⟨m,hn,hl⟩:=I.loc
  refine ⟨m,ns m hn,fun i x v e1 e2 e3=>?_⟩
  obtain ⟨u,r,l⟩:=hl i x v e1 e2 e3
  refine ⟨u,r,?_⟩
  rcases l with l | ⟨k,c,e,z⟩
  ·exact .inl l
  ·exact .inr ⟨k,c,e,cellK x c e _ z⟩
 ·obtain ⟨v,z⟩:=I.cell x c e
  exact ⟨v,cellK x c e v z⟩
 ·obtain ⟨m,⟨o,_,_,ho,_⟩,_⟩:=I.loc
  exact free _ o (fun z=>(hch _ z).2.1 rfl) ho I.free
 ·obtain ⟨v,o,ho,hd⟩:=I.cell x c e
  exact free c o (fun z=>(hch c z).2.2.1 x c e rfl) ho (I.freeC x c e)
 ·obtain ⟨e,n,ne,nf,d⟩:=I.pin p hp
  have nch:p.1∉ch:=fun z=>(hch p.1 z).2.2.2 p hp rfl
  exact ⟨keep p.1 p.2 ne nf nch e n,free p.1 p.2 nch e n,ne,nf,d⟩
theorem Inv.un {t':Nat} (I:Inv X pins σ H s) (u:Un X.fs [] H H' s.heap h') (hok:HOk X.prog X.w H' h'):Inv X pins σ H' { s with heap:=h',toks:=t' }:=by
 obtain ⟨m,⟨o,es,ep,ho,r⟩,_⟩:=id I.loc
 obtain ⟨sl,hL⟩:=u.any ho I.free (by simp)
 exact I.step (g' := s.gens) (d' := s.drawn) (ch:=[]) (fun _ z=>nomatch z) (fun b o _ hb _ e n=>u.keep b o e n hb (by simp)) (fun b o _ hb _ e n=>u.slot b o e n hb (by simp)) (fun b o _ e n=>u.free b o e n (by simp)) (fun b o _ e=>u.there b o e (by simp)) u.tups u.frzs u.tbls (fun m' hm=>by
  obtain ⟨o',es',ep',ho',r'⟩:=hm
  rw [ho] at ho';cases ho'
  exact ⟨_,es',ep',hL,r'⟩) hok I.bare
theorem Inv.call {g':Array GenState} {t':Nat} {d':Drawn} {ch:List Addr} (I:Inv X pins σ H s) (u:Un (frs X.stack) ch H H' s.heap h') (hok:HOk X.prog X.w H' h') (hg:AllBare g')
  (hch:∀ b∈ch,(b∈X.ex\/X.s₀.heap.objs.size<=b)/\b≠X.env.locals/\(∀ x c,X.env.cells.lookup x=some c->c≠b)/\∀ p∈X.pn++pins,p.1≠b) :
  Inv X pins σ H' { s with heap:=h',gens:=g',drawn:=d',toks:=t' }:=by
 obtain ⟨m,⟨o,es,ep,ho,r⟩,_⟩:=id I.loc
 obtain ⟨sl,hL⟩:=u.any ho I.free fun z=>(hch _ z).2.1 rfl
 exact I.step (ch:=ch) hch (fun b o hL hb hc e n=>u.keep b o e n (fun z=>(List.mem_cons.mp (I.stkSub b z)).elim hL hb) hc) (fun b o _ _ hc e n=>u.any e n hc) (fun b o hc e n=>u.free b o e n hc) (fun b o hc e=>u.there b o e hc) u.tups u.frzs u.tbls (fun m' hm=>by
  obtain ⟨o',es',ep',ho',r'⟩:=hm
  rw [ho] at ho';cases ho'
  exact ⟨_,es',ep',hL,r'⟩) hok hg
theorem Inv.turned {t':Nat} {it:Addr} (I:Inv X pins σ H s) (k:∀ b o,b≠it->s.heap.get? b=some o->h'.get? b=some o) (hn:H it=none) (hL:it≠X.env.locals)
  (h1:it∈X.ex\/X.s₀.heap.objs.size<=it) (h2:∀ x c,X.env.cells.lookup x=some c->c≠it) (h3:∀ p∈X.pn++pins,p.1≠it):Inv X pins σ H { s with heap:=h',toks:=t' }:=by
 have nit:∀ b u,H b=some u->b≠it:=fun b u e z=>by rw [z,hn] at e;cases e
 refine I.step (g' := s.gens) (d' := s.drawn) (ch:=[it]) (fun b hb=>?_) (fun b o _ _ hc e _=>k b o (fun z=>hc (by simp [z])) e) (fun b o _ _ hc e _=>⟨o.slots,k b o (fun z=>hc (by simp [z])) e⟩) (fun _ _ _ _ n=>n)
  (fun b o hc e=>⟨o,k b o (fun z=>hc (by simp [z])) e⟩) (fun _ _ e=>e) (fun _ _ _ e=>e) (fun b ps e=>⟨#[],by rw [e];simp⟩) (fun m hm=>?_) (fun b u e=>?_) I.bare
 ·have e:b=it:=by simpa using hb
  subst e
  exact ⟨h1,hL,h2,h3⟩
 ·obtain ⟨o,es,ep,ho,r⟩:=hm
  exact ⟨o,es,ep,k _ o (Ne.symm hL) ho,r⟩
 ·refine (I.hok b u e).stay (fun c v hc q=>k c v ?_ q) (fun _ q=>q) fun _ _ q=>q
  rcases hc with z | z
  ·rw [z];exact nit b u e
  ·exact nit c _ z
theorem Inv.tok (I:Inv X pins σ H s) (t:Nat):Inv X pins σ H { s with toks:=t }:=I.un (h' := s.heap) (t' := t) Un.refl I.hok
theorem Inv.kept {t':Nat} (I:Inv X pins σ H s) (k:∀ b u,s.heap.get? b=some u->h'.get? b=some u):Inv X pins σ H { s with heap:=h',toks:=t' }:=I.un (Un.kept k) (I.hok.kept k)
theorem Inv.laid {a:Addr} {o:HO} {t':Nat} (I:Inv X pins σ H s) (k:∀ b u,s.heap.get? b=some u->h'.get? b=some u) (hp:s.heap.objs.size<=a) (new:ObjOk X.prog X.w (upd H a o) h' a o) :
  Inv X pins σ (upd H a o) { s with heap:=h',toks:=t' }:=I.un (Un.laid k hp (I.hok.fresh hp)) (I.hok.laid k hp new)
theorem Inv.write {x e:Addr} {o:HO} {t':Nat} (I:Inv X pins σ H s) (mu:Mut (H x)) (he:e=x\/H e=some (.own x)) (k:∀ b u,b≠e->s.heap.get? b=some u->h'.get? b=some u) (heo:∃ u,h'.get? e=some u)
  (new:ObjOk X.prog X.w (upd H x o) h' x o):Inv X pins σ (upd H x o) { s with heap:=h',toks:=t' }:=I.un (Un.write mu he k heo) (I.hok.write mu he k heo new)
theorem Inv.weak {σ':List (Option V)} (I:Inv X pins σ H s) (hl:σ'.length=σ.length) (w:∀ (i:Nat) v,σ'[i]? = some (some v)->σ[i]? = some (some v)):Inv X pins σ' H s :=
 ⟨I.ok,I.os,I.bare,I.base,let ⟨m,hn,hl'⟩:=I.loc;⟨m,hn,fun i x v e1 e2 e3=>hl' i x v e1 (w i v e2) e3⟩,I.cell,I.free,I.freeC,I.pin,I.hok,hl.trans I.len⟩
theorem Inv.pins_of {pins':List (Addr×Obj)} (I:Inv X pins σ H s) (h:∀ p∈pins',s.heap.get? p.1=some p.2/\H p.1=none/\p.1≠X.env.locals/\p.1∉X.fs/\∀ v,p.2.data ≠ .cell v):Inv X pins' σ H s :=
 ⟨I.ok,I.os,I.bare,I.base,I.loc,I.cell,I.free,I.freeC,fun p hp=>(List.mem_append.mp hp).elim (fun z=>I.pin p (List.mem_append_left _ z)) (h p),I.hok,I.len⟩
theorem zcP {N:List Str} (hN:N.Nodup) {i j:Nat} {x:Str} (a:N[i]? = some x) (b:N[j]? = some x):i=j:=by
 obtain ⟨h1,e1⟩:=List.getElem?_eq_some_iff.mp a
 obtain ⟨h2,e2⟩:=List.getElem?_eq_some_iff.mp b
 exact (List.getElem_inj hN).mp (e1.trans e2.symm)
theorem zdS {M:Model} {A:Around} {E:Value->Shared->Prop} {i:Nat} {x:Str} {v:V} {u:Value} {Q:Unit->Shared->Prop} (I:Inv X pins σ H s) (hN:X.N.Nodup) (hi:X.N[i]? = some x) (hx:Loc X.env.scope x) (r:RelV v u)
  (h:∀ s',Inv X pins (σ.set i (some v)) H s'->(∃ a,Heap.SameBut a s.heap s'.heap/\(a=X.env.locals\/X.env.cells.lookup x=some a))->Q () s') (hf:X.fn x=true\/X.env.scope.names.lookup x=some .local:=by first | exact .inl rfl | exact .inr rfl | assumption):wpAny M A (storeName X.env x u) Q E s:=by
 obtain ⟨m,hn,hl⟩:=id I.loc
 have hcls:(X.env.scope.kind == .class || (X.env.scope.kind == .module && X.env.locals != X.env.globals))=false:=by rw [I.ok.kind];rfl
 have hiσ:i<σ.length:=by rw [I.len];exact (List.getElem?_eq_some_iff.mp hi).1
 have cne:=I.cne
 have tracked:∀ {a:Addr} {h':Heap},(∃ o,s.heap.get? a=some o/\H a=none)->Heap.SameBut a s.heap h'->HOk X.prog X.w H h' := fun {a h'} ha hs b ob e=>by
  obtain ⟨_,_,hfree⟩:=ha
  refine (I.hok b ob e).stay (fun c w' hc q=>(hs.2 c ?_).trans q) (fun _ q=>q) fun _ _ q=>q
  rintro rfl
  rcases hc with rfl | hc
  ·rw [hfree] at e;cases e
  ·rw [hfree] at hc;cases hc
 rcases hx with hk | hk
 ·refine wpAny_storeName_local hk hn (fun h' hn' hs=>?_) hcls
  obtain ⟨oL,_,_,hoL,_⟩:=id hn
  refine h _ ⟨I.ok,I.os,I.bare,⟨fun b o e n hb hx=>?_,fun b o e n hb hx=>?_,I.base.free,fun b o e hx=>?_,I.base.tups,I.base.frzs,I.base.tbls⟩,⟨_,hn',fun j y v' e1 e2 e3=>?_⟩,fun y c e=>?_,I.free,I.freeC,fun p hp=>?_,tracked ⟨oL,hoL,I.free⟩ hs,by simpa using I.len⟩ ⟨_,hs,.inl rfl⟩
  ·exact (hs.2 b (Nat.ne_of_lt (Nat.lt_of_lt_of_le (Heap.lt_size e) I.ok.above))).trans (I.base.keep b o e n hb hx)
  ·obtain ⟨sl,e1⟩:=I.base.slot b o e n hb hx
   exact ⟨sl,(hs.2 b (Nat.ne_of_lt (Nat.lt_of_lt_of_le (Heap.lt_size e) I.ok.above))).trans e1⟩
  ·obtain ⟨o',e1⟩:=I.base.there b o e hx
   exact ⟨o',(hs.2 b (Nat.ne_of_lt (Nat.lt_of_lt_of_le (Heap.lt_size e) I.ok.above))).trans e1⟩
  ·by_cases hj:j=i
   ·subst hj
    rw [hi] at e1;cases e1
    rw [List.getElem?_set_self hiσ] at e2
    cases e2
    exact ⟨u,r,.inl ⟨hk,by simp⟩⟩
   ·rw [List.getElem?_set_ne (Ne.symm hj)] at e2
    obtain ⟨u',r',q⟩:=hl j y v' e1 e2 e3
    refine ⟨u',r',?_⟩
    rcases q with ⟨k,e⟩ | ⟨k,c,e,z⟩
    ·refine .inl ⟨k,?_⟩
     have:y≠x:=fun e=>hj (zcP hN e1 (e▸hi))
     simp [this,e]
    ·exact .inr ⟨k,c,e,z.sameBut hs (cne y c e)⟩
  ·obtain ⟨w',z⟩:=I.cell y c e
   exact ⟨w',z.sameBut hs (cne y c e)⟩
  ·obtain ⟨e,n,ne,nf,d⟩:=I.pin p hp
   exact ⟨(hs.2 p.1 ne).trans e,n,ne,nf,d⟩
 ·have hfn:X.fn x=true:=by
   rcases hf with z | z
   ·exact z
   ·rw [z] at hk;cases hk
  obtain ⟨c,hc⟩:=I.ok.has x (.inl hk)
  obtain ⟨w',z⟩:=I.cell x c hc
  refine wpAny_storeName_cell I.ok.kind hk hc z (fun h' hc' hs=>?_)
  obtain ⟨oc,hoc,hocd⟩:=id z
  refine h { s with heap:=h' } ⟨I.ok,I.os,I.bare,⟨fun b o e n hb hx=>?_,fun b o e n hb hx=>?_,I.base.free,fun b o e hx=>?_,I.base.tups,I.base.frzs,I.base.tbls⟩,⟨m,hn.sameBut hs (Ne.symm (cne x c hc)),fun j y v' e1 e2 e3=>?_⟩,fun y c' e=>?_,I.free,I.freeC,fun p hp=>?_,tracked ⟨oc,hoc,I.freeC x c hc⟩ hs,by simpa using I.len⟩ ⟨c,hs,.inr hc⟩
  ·exact (hs.2 b (Nat.ne_of_lt (Nat.lt_of_lt_of_le (Heap.lt_size e) (I.ok.cab x c hfn hc)))).trans (I.base.keep b o e n hb hx)
  ·obtain ⟨sl,e1⟩:=I.base.slot b o e n hb hx
   exact ⟨sl,(hs.2 b (Nat.ne_of_lt (Nat.lt_of_lt_of_le (Heap.lt_size e) (I.ok.cab x c hfn hc)))).trans e1⟩
  ·obtain ⟨o',e1⟩:=I.base.there b o e hx
   exact ⟨o',(hs.2 b (Nat.ne_of_lt (Nat.lt_of_lt_of_le (Heap.lt_size e) (I.ok.cab x c hfn hc)))).trans e1⟩
  ·by_cases hj:j=i
   ·subst hj
    rw [hi] at e1;cases e1
    rw [List.getElem?_set_self hiσ] at e2
    cases e2
    exact ⟨u,r,.inr ⟨.inl hk,c,hc,hc'⟩⟩
   ·rw [List.getElem?_set_ne (Ne.symm hj)] at e2
    obtain ⟨u',r',q⟩:=hl j y v' e1 e2 e3
    refine ⟨u',r',?_⟩
    rcases q with q | ⟨k,c',e,z'⟩
    ·exact .inl q
    ·refine .inr ⟨k,c',e,z'.sameBut hs ?_⟩
     rintro rfl
     exact hj (zcP hN e1 (I.ok.inj _ _ _ e hc▸hi))
  ·by_cases hcc:c'=c
   ·subst hcc;exact ⟨_,hc'⟩
   ·obtain ⟨w2,z2⟩:=I.cell y c' e
    exact ⟨w2,z2.sameBut hs hcc⟩
  ·obtain ⟨e,n,ne,nf,d⟩:=I.pin p hp
   refine ⟨(hs.2 p.1 ?_).trans e,n,ne,nf,d⟩
   intro q
   rw [q,hoc] at e
   have q':oc=p.2:=Option.some.inj e
   exact d w' (by rw [<- q'];exact hocd)
theorem zcQ {M:Model} {A:Around} {E:Value->Shared->Prop} {i:Nat} {x:Str} {v:V} {u:Value} {Q:Unit->Shared->Prop} (I:Inv X pins σ H s) (hN:X.N.Nodup) (hi:X.N[i]? = some x) (hx:Loc X.env.scope x) (r:RelV v u)
  (h:∀ s',Inv X pins (σ.set i (some v)) H s'->Q () s') (hf:X.fn x=true\/X.env.scope.names.lookup x=some .local:=by first | exact .inl rfl | exact .inr rfl | assumption):wpAny M A (storeName X.env x u) Q E s :=
 zdS I hN hi hx r (fun s' I' _=>h s' I') hf
theorem Inv.call' {s':Shared} {ch:List Addr} (I:Inv X pins σ H s) (ho:s'.os=s.os) (u:Un (frs X.stack) ch H H' s.heap s'.heap) (hok:HOk X.prog X.w H' s'.heap) (hg:AllBare s'.gens)
  (hch:∀ b∈ch,(b∈X.ex\/X.s₀.heap.objs.size<=b)/\b≠X.env.locals/\(∀ x c,X.env.cells.lookup x=some c->c≠b)/\∀ p∈X.pn++pins,p.1≠b):Inv X pins σ H' s' := by
 obtain ⟨h',g',d',t',o'⟩:=s'
 have e:o'=s.os:=ho
 subst e
 exact I.call (g' := g') (t' := t') (d' := d') u hok hg hch
end
abbrev XK:=Value->Option Addr->Hp->Prop
abbrev St:=List (Option V)
abbrev VK:=V->Hp->Prop
abbrev TE:=St->Hp->VK->Prop
abbrev TT:=St->Hp->(Bool->Hp->Prop)->Prop
abbrev TA:=St->Hp->(List V->Hp->Prop)->Prop
structure Ends where
 nx:St->Hp->Prop
 rt:VK
 bk:St->Hp->Prop:=fun _ _=>False
 ct:St->Hp->Prop:=fun _ _=>False
abbrev TS:=Ends->St->Hp->Prop
def EP (X:Cx) (pins:List (Addr×Obj)) (σ:St) (Q:VK) (u:Value) (s':Shared):Prop:=∃ v H',Inv X pins σ H' s'/\RelV v u/\Q v H'
def TP (X:Cx) (pins:List (Addr×Obj)) (σ:St) (Q:Bool->Hp->Prop) (b:Bool) (s':Shared):Prop:=∃ H',Inv X pins σ H' s'/\Q b H'
def AP (X:Cx) (pins:List (Addr×Obj)) (σ:St) (Q:List V->Hp->Prop) (us:List Value) (s':Shared):Prop:=∃ vs H',Inv X pins σ H' s'/\Vals vs us/\Q vs H'
def SP (X:Cx) (pins:List (Addr×Obj)) (D:Ends) (f:Flow) (s':Shared):Prop :=
 match f with
 | .next=>∃ σ' H',Inv X pins σ' H' s'/\D.nx σ' H'
 | .brk=>∃ σ' H',Inv X pins σ' H' s'/\D.bk σ' H'
 | .cont=>∃ σ' H',Inv X pins σ' H' s'/\D.ct σ' H'
 | .ret u=>∃ v σ' H',Inv X pins σ' H' s'/\RelV v u/\D.rt v H'
def PE (X:Cx) (e:Expr) (t:TE):Prop :=
 ∀ (pins:List (Addr×Obj)) (s:Shared) (σ:St) (H:Hp) (Q:VK),Inv X pins σ H s->t σ H Q->wpAny (model X.prog X.w) X.A (eval e X.env) (EP X pins σ Q) X.xe s
def PT (X:Cx) (e:Expr) (t:TT):Prop :=
 ∀ (pins:List (Addr×Obj)) (s:Shared) (σ:St) (H:Hp) (Q:Bool->Hp->Prop),Inv X pins σ H s->t σ H Q->wpAny (model X.prog X.w) X.A (isTrue e X.env (eval e X.env)) (TP X pins σ Q) X.xe s
def PW (X:Cx) (e:Expr) (t:TT):Prop :=
 ∀ (whole:Sem Value) (pins:List (Addr×Obj)) (s:Shared) (σ:St) (H:Hp) (Q:Bool->Hp->Prop),Inv X pins σ H s->t σ H Q->wpAny (model X.prog X.w) X.A (isTrue e X.env whole) (TP X pins σ Q) X.xe s
theorem PW.pt {X:Cx} {e:Expr} {t:TT} (h:PW X e t):PT X e t:=h _
def PA (X:Cx) (es:List Expr) (t:TA):Prop :=
 ∀ (pos:Pos) (pins:List (Addr×Obj)) (s:Shared) (σ:St) (H:Hp) (Q:List V->Hp->Prop),Inv X pins σ H s->t σ H Q->wpAny (model X.prog X.w) X.A (spliced (backTo pos (starEach es X.env))) (AP X pins σ Q) X.xe s
def PS (X:Cx) (st:Stmt) (t:TS):Prop :=
 ∀ (pins:List (Addr×Obj)) (s:Shared) (σ:St) (H:Hp) (D:Ends),Inv X pins σ H s->t D σ H->wpAny (model X.prog X.w) X.A (exec st X.env) (SP X pins D) X.xe s
def PSs (X:Cx) (st:List Stmt) (t:TS):Prop :=
 ∀ (pins:List (Addr×Obj)) (s:Shared) (σ:St) (H:Hp) (D:Ends),Inv X pins σ H s->t D σ H->wpAny (model X.prog X.w) X.A (execs st X.env) (SP X pins D) X.xe s
theorem thn {α:Type} {t:Sem α} {Q Q':α->Shared->Prop} {M:Model} {A:Around} {E:Value->Shared->Prop} {s:Shared} (h:wpAny M A t Q E s) (hQ:∀ a s,Q a s->Q' a s):wpAny M A t Q' E s:=wpAny_mono h hQ fun _ _ x=>x
end L2
namespace L2
open PySem PySem.Spec PyProof.Rows
section
variable {X:Cx}
theorem bin {a b:Expr} {ta tb:TE} (ha:PE X a ta) (hb:PE X b tb) {pins:List (Addr×Obj)} {s:Shared} {σ:St} {H:Hp} {R:V->V->Hp->Prop} (I:Inv X pins σ H s) (h:ta σ H fun x H1=>tb σ H1 fun y H2=>R x y H2)
  {α:Type} {Q:α->Shared->Prop} {f:Value->Value->Sem α}
  (hf:∀ v u s2 x y H2,Inv X pins σ H2 s2->RelV x v->RelV y u->R x y H2->wpAny (model X.prog X.w) X.A (f v u) Q X.xe s2) :
  wpAny (model X.prog X.w) X.A (eval a X.env) (fun v s₁=>wpAny (model X.prog X.w) X.A (eval b X.env) (fun u s₂=>wpAny (model X.prog X.w) X.A (f v u) Q X.xe s₂) X.xe s₁) X.xe s:=by
 refine thn (ha pins s σ H _ I h) fun v s1 ⟨x,H1,I1,r1,q1⟩=>?_
 refine thn (hb pins s1 σ H1 _ I1 q1) fun u s2 ⟨y,H2,I2,r2,q2⟩=>?_
 exact hf v u s2 x y H2 I2 r1 r2 q2
def tVar (i:Nat):TE:=fun σ H Q=>∃ v,σ[i]? = some (some v)/\Q v H
def tC (v:V):TE:=fun _ H Q=>Q v H
theorem ygi {i:Nat} {x:Str} {pos:Pos} (hN:X.N[i]? = some x) (hv:Vis X.env.scope x) (hd:(x == ("__debug__" : Str))=false:=by decide) (hcd:(x == ("__classdict__" : Str))=false:=by decide):PE X (.Name x pos) (tVar i):=by
 intro pins s σ H Q I h
 obtain ⟨v,e,h⟩:=h
 obtain ⟨m,hn,hl⟩:=I.loc
 obtain ⟨u,r,l⟩:=hl i x v hN e hv
 have fin:EP X pins σ Q u s:=⟨v,H,I,r,h⟩
 rcases l with ⟨hk,hm⟩ | ⟨hk,c,hc,hcell⟩
 ·exact wpAny_Name (wpAny_loadName_local I.ok.kind hk hn hm fin) hd
 ·rcases hk with hk | hk
  ·exact wpAny_Name (wpAny_loadName_cell I.ok.kind hk hc hcell fin) hd
  ·exact wpAny_Name (wpAny_loadName_free I.ok.kind hk hc hcell fin hcd) hd
theorem ygj {i j pos}:PE X (.Constant (.int i) j pos) (tC (.int i)):=fun _ _ _ H _ I h=>wpAny_Constant_int ⟨.int i,H,I.tok _,⟨_,rfl⟩,h⟩
theorem yhv {b j pos}:PE X (.Constant (.bool b) j pos) (tC (.bl b)):=fun _ _ _ H _ I h=>Constant_bool ⟨.bl b,H,I,rfl,h⟩
theorem ygk {x j pos}:PE X (.Constant (.str x) j pos) (tC (.str x)):=fun _ _ _ H _ I h=>Calls.Constant_str ⟨.str x,H,I.tok _,⟨_,rfl⟩,h⟩
def Gl (X:Cx) (x:Str):Prop:=X.env.kindOf x=some .globalImplicit
theorem zcj {E:Value->Shared->Prop} {pins:List (Addr×Obj)} {s:Shared} {σ:St} {H:Hp} {x:Str} {u:Value} {pos:Pos} {Q:Value->Shared->Prop} (I:Inv X pins σ H s) (hg:Gl X x) (hm:X.mg x=some u) (h:Q u s)
  (hd:(x == ("__debug__" : Str))=false:=by decide):wpAny (model X.prog X.w) X.A (eval (.Name x pos) X.env) Q E s :=
 Calls.Name_function_global I.ok.kind hg (Calls.loadGlobal_global (by rw [I.ok.glob];exact I.mod.glob.keeps I.bk) hm h) hd
theorem yd7 {E:Value->Shared->Prop} {pins:List (Addr×Obj)} {s:Shared} {σ:St} {H:Hp} {x:Str} {u:Value} {pos:Pos} {Q:Value->Shared->Prop} (I:Inv X pins σ H s) (hg:Gl X x) (hm:X.mg x=none) (hv:bootBuiltins x=some u) (h:Q u s)
  (hn:x ≠ "__name__" := by decide) (hd:(x == ("__debug__" : Str))=false:=by decide):wpAny (model X.prog X.w) X.A (eval (.Name x pos) X.env) Q E s:=by
 obtain ⟨mb,h1,h2⟩:=I.mod.blt
 exact Calls.Name_function_global I.ok.kind hg (Calls.loadGlobal_builtin (by rw [I.ok.glob];exact I.mod.glob.keeps I.bk) hm (by rw [I.ok.blt];exact h1.keeps I.bk) ((h2 x hn).trans hv) h) hd
theorem ziM {x:Str} {v:V} {u:Value} {pos:Pos} (hg:Gl X x) (hm:X.mg x=some u) (r:RelV v u) (hd:(x == ("__debug__" : Str))=false:=by decide):PE X (.Name x pos) (tC v) :=
 fun _ _ _ H _ I h=>zcj I hg hm ⟨v,H,I,r,h⟩ hd
theorem ziN {x:Str} {v:V} {u:Value} {pos:Pos} (hg:Gl X x) (hm:X.mg x=none) (hv:bootBuiltins x=some u) (r:RelV v u) (hn:x ≠ "__name__" := by decide) (hd:(x == ("__debug__" : Str))=false:=by decide):PE X (.Name x pos) (tC v) :=
 fun _ _ _ H _ I h=>yd7 I hg hm hv ⟨v,H,I,r,h⟩ hn hd
variable {a b:Expr} {ta tb:TE} {pos:Pos}
variable {tA tB':TT} {rest:List Expr}
def tOr (t u:TT):TT:=fun σ H Q=>t σ H fun c H1=>if c=true then Q true H1 else u σ H1 Q
def tNot (t:TT):TT:=fun σ H Q=>t σ H fun c H1=>Q (!c) H1
theorem ygl (ha:PT X a tA):PW X (.BoolOp .Or [a] pos) tA:=by
 intro wh pins s σ H Q I h
 refine isTrue_or (thn (ha pins s σ H Q I h) fun c s1 e=>?_)
 cases c with
 | false=>exact isTrue_or_nil e
 | true=>exact e
theorem yhw (ha:PT X a tA) (hb:PW X (.BoolOp .Or (b::rest) pos) tB'):PW X (.BoolOp .Or (a::b::rest) pos) (tOr tA tB'):=by
 intro wh pins s σ H Q I h
 refine isTrue_or (thn (ha pins s σ H _ I h) fun c s1 ⟨H1,I1,q1⟩=>?_)
 cases c with
 | true=>exact ⟨H1,I1,q1⟩
 | false=>exact hb wh pins s1 σ H1 Q I1 q1
theorem ygm (ha:PT X a tA):PT X (.UnaryOp .Not a pos) (tNot tA):=by
 intro pins s σ H Q I h
 exact isTrue_not (ha pins s σ H (fun c H1=>Q (!c) H1) I h)
def yhx (ta tb:TE):TE:=fun σ H Q=>ta σ H fun x H1=>∃ c,x = .bl c/\if c=true then tb σ H1 Q else Q (.bl false) H1
def tOrV (ta tb:TE):TE:=fun σ H Q=>ta σ H fun x H1=>∃ c,x = .bl c/\if c=true then Q (.bl true) H1 else tb σ H1 Q
def yhy (ta:TE):TE:=fun σ H Q=>ta σ H fun x H1=>∃ c,x = .bl c/\Q (.bl (!c)) H1
theorem ygn {op} {t:TE} (h:PE X a t):PE X (.BoolOp op [a] pos) t:=fun pins s σ H Q I hw=>BoolOp_one (h pins s σ H Q I hw)
theorem ygo (ha:PE X a ta) (hb:PE X (.BoolOp .And (b::rest) pos) tb):PE X (.BoolOp .And (a::b::rest) pos) (yhx ta tb):=by
 intro pins s σ H Q I h
 refine BoolOp_and (thn (ha pins s σ H _ I h) fun v s1 ⟨x,H1,I1,r1,q1⟩=>?_)
 obtain ⟨c,rfl,q1⟩:=q1
 cases r1
 refine wpAny_truthy_bool ?_
 cases c with
 | true=>exact hb pins s1 σ H1 Q I1 q1
 | false=>exact ⟨.bl false,H1,I1,rfl,q1⟩
theorem yhz (ha:PE X a ta) (hb:PE X (.BoolOp .Or (b::rest) pos) tb):PE X (.BoolOp .Or (a::b::rest) pos) (tOrV ta tb):=by
 intro pins s σ H Q I h
 refine BoolOp_or (thn (ha pins s σ H _ I h) fun v s1 ⟨x,H1,I1,r1,q1⟩=>?_)
 obtain ⟨c,rfl,q1⟩:=q1
 cases r1
 refine wpAny_truthy_bool ?_
 cases c with
 | false=>exact hb pins s1 σ H1 Q I1 q1
 | true=>exact ⟨.bl true,H1,I1,rfl,q1⟩
theorem ygp (ha:PE X a ta):PE X (.UnaryOp .Not a pos) (yhy ta):=by
 intro pins s σ H Q I h
 refine UnaryOp_ (thn (ha pins s σ H _ I h) fun v s1 ⟨x,H1,I1,r1,q1⟩=>?_)
 obtain ⟨c,rfl,q1⟩:=q1
 cases r1
 exact not_of (wpAny_truthy_bool ⟨.bl (!c),H1,I1,rfl,q1⟩)
end
end L2
namespace L2
open PySem PySem.Spec PyProof.Rows
def SqL (K:PySem.W.Frag) (H:Hp) (a:Addr) (xs:List V):Prop :=
 Rd H a (.lst xs) \/
  ∃ (o:Obj) (its:Array Value) (n:Nat),K.lookup a=some o/\o.cls = .type "list" /\ o.dict=none/\o.data = .seq its n/\its.size<=sizeLine/\Vals xs its.toList
def SqT (K:PySem.W.Frag) (H:Hp) (a:Addr) (xs:List V):Prop :=
 Rd H a (.tup xs) \/
  ∃ (o:Obj) (its:Array Value) (n:Nat),K.lookup a=some o/\o.cls = .type "tuple" /\ o.data = .seq its n/\its.size<=sizeLine/\Vals xs its.toList
def absV:Value->Option V
 | .none=>some .non
 | .bool b=>some (.bl b)
 | .int i _=>some (.int i)
 | .str x _=>some (.str x)
 | .bytes b _=>some (.byt b)
 | .float b _=>some (.flt b)
 | .ref a=>some (.ref a)
 | .type n=>some (.ty n)
 | _=>none
theorem RelV.abs {x:V} {u:Value} (r:RelV x u):absV u=some x:=by
 cases x with
 | non=>cases r;rfl
 | bl _=>cases r;rfl
 | int _=>obtain ⟨t,rfl⟩:=r;rfl
 | str _=>obtain ⟨t,rfl⟩:=r;rfl
 | byt _=>obtain ⟨t,rfl⟩:=r;rfl
 | flt _=>obtain ⟨t,rfl⟩:=r;rfl
 | ref _=>cases r;rfl
 | ty _=>cases r;rfl
theorem RelV.inj {x y:V} {u:Value} (r:RelV x u) (q:RelV y u):x=y:=Option.some.inj (r.abs.symm.trans q.abs)
theorem Vals.inj:∀ {xs ys:List V} {us:List Value},Vals xs us->Vals ys us->xs=ys
 | _,_,_,.nil,.nil=>rfl
 | _,_,_,.cons r t,.cons r' t' => by rw [r.inj r',Vals.inj t t']
section
variable {X:Cx} {pins:List (Addr×Obj)} {σ:St} {H:Hp} {s:Shared} {a:Addr} {xs ys:List V}
theorem SqL.of {K:PySem.W.Frag} (h:H a=some (.lst xs)):SqL K H a xs:=.inl (.inl h)
theorem SqT.of {K:PySem.W.Frag} (h:H a=some (.tup xs)):SqT K H a xs:=.inl (.inl h)
theorem Inv.list (I:Inv X pins σ H s) (h:SqL X.K H a xs):∃ its:List Value,Vals xs its/\PlainL s.heap a its.toArray/\xs.length<=sizeLine:=by
 rcases h with h | ⟨o,its,n,hk,hc,hd,hs,hz,r⟩
 ·obtain ⟨z,its,n,r,e⟩:=h.ok I.hok
  exact ⟨its,r,⟨_,n,e,rfl,rfl,rfl⟩,z⟩
 ·refine ⟨its.toList,r,⟨o,n,I.kIn a o hk,hc,hd,by simpa using hs⟩,?_⟩
  have e:=r.length
  simp only [Array.length_toList] at e
  lia
theorem Inv.tuple (I:Inv X pins σ H s) (h:SqT X.K H a xs):∃ its:List Value,Vals xs its/\IsTup s.heap a its.toArray/\xs.length<=sizeLine:=by
 rcases h with h | ⟨o,its,n,hk,hc,hs,hz,r⟩
 ·obtain ⟨z,its,r,p⟩:=h.ok I.hok
  exact ⟨its,r,p,z⟩
 ·refine ⟨its.toList,r,⟨o,I.kIn a o hk,hc,n,by simpa using hs⟩,?_⟩
  have e:=r.length
  simp only [Array.length_toList] at e
  lia
theorem Inv.list_inj (I:Inv X pins σ H s) (h:SqL X.K H a xs) (h':SqL X.K H a ys):xs=ys:=by
 obtain ⟨its,r,⟨o,n,e,_,_,d⟩,_⟩:=I.list h
 obtain ⟨its',r',⟨o',n',e',_,_,d'⟩,_⟩:=I.list h'
 rw [e] at e';cases e'
 rw [d] at d'
 injection d' with d1 _
 have:its=its' := by simpa using congrArg Array.toList d1
 subst this
 exact r.inj r'
theorem Inv.tuple_inj (I:Inv X pins σ H s) (h:SqT X.K H a xs) (h':SqT X.K H a ys):xs=ys:=by
 obtain ⟨its,r,⟨o,e,_,n,d⟩,_⟩:=I.tuple h
 obtain ⟨its',r',⟨o',e',_,n',d'⟩,_⟩:=I.tuple h'
 rw [e] at e';cases e'
 rw [d] at d'
 injection d' with d1 _
 have:its=its' := by simpa using congrArg Array.toList d1
 subst this
 exact r.inj r'
end
abbrev Cx.wish (X:Cx) (E:Value->Shared->Prop):Cx:={ X with xe:=E }
abbrev Cx.nox (X:Cx):Cx:=X.wish fun _ _=>False
theorem Cx.Ok.wish {X:Cx} (ok:X.Ok) (E:Value->Shared->Prop):(X.wish E).Ok :=
 ⟨ok.mod,ok.kind,ok.glob,ok.blt,ok.above,ok.inj,ok.has,ok.cab,ok.hd,ok.frames,ok.stk,ok.exf,ok.bs,ok.bsz,ok.noex,ok.exfs,ok.funs,ok.frf⟩
theorem Cx.Ok.unwish {X:Cx} {E:Value->Shared->Prop} (ok:(X.wish E).Ok):X.Ok :=
 ⟨ok.mod,ok.kind,ok.glob,ok.blt,ok.above,ok.inj,ok.has,ok.cab,ok.hd,ok.frames,ok.stk,ok.exf,ok.bs,ok.bsz,ok.noex,ok.exfs,ok.funs,ok.frf⟩
section
variable {X:Cx} {pins:List (Addr×Obj)} {σ:St} {H:Hp} {s:Shared} {E:Value->Shared->Prop}
theorem Inv.wish (I:Inv X pins σ H s) (E:Value->Shared->Prop):Inv (X.wish E) pins σ H s:=⟨I.ok.wish E,I.os,I.bare,I.base,I.loc,I.cell,I.free,I.freeC,I.pin,I.hok,I.len⟩
theorem Inv.unwish (I:Inv (X.wish E) pins σ H s):Inv X pins σ H s:=⟨I.ok.unwish,I.os,I.bare,I.base,I.loc,I.cell,I.free,I.freeC,I.pin,I.hok,I.len⟩
theorem SP.unwish {D:Ends} {f:Flow} {s':Shared} (h:SP (X.wish E) pins D f s'):SP X pins D f s' := by
 cases f with
 | next=>obtain ⟨σ',H',I,q⟩:=h;exact ⟨σ',H',I.unwish,q⟩
 | brk=>obtain ⟨σ',H',I,q⟩:=h;exact ⟨σ',H',I.unwish,q⟩
 | cont=>obtain ⟨σ',H',I,q⟩:=h;exact ⟨σ',H',I.unwish,q⟩
 | ret u=>obtain ⟨v,σ',H',I,r,q⟩:=h;exact ⟨v,σ',H',I.unwish,r,q⟩
end
section
variable {X:Cx} {st:Stmt} {rest:List Stmt} {t u:TS} {e:Expr} {te:TE} {pos:Pos}
def yhA:TS:=fun D σ H=>D.nx σ H
def tSeq (t u:TS):TS:=fun D σ H=>t { D with nx:=u D } σ H
theorem ziO:PSs X [] yhA:=fun _ _ σ H _ I h=>wpAny_execs_nil ⟨σ,H,I,h⟩
theorem zhH (h1:PS X st t) (h2:PSs X rest u):PSs X (st::rest) (tSeq t u):=by
 intro pins s σ H D I h
 refine wpAny_execs_cons (thn (h1 pins s σ H { D with nx:=u D } I h) fun f s1 q=>?_)
 cases f with
 | next =>
  obtain ⟨σ',H',I',q⟩:=q
  exact h2 pins s1 σ' H' D I' q
 | ret v=>exact q
 | brk=>exact q
 | cont=>exact q
theorem ziP (h1:PS X st t):PSs X [st] t:=by
 intro pins s σ H D I h
 refine wpAny_execs_cons (thn (h1 pins s σ H D I h) fun f s1 q=>?_)
 cases f with
 | next=>exact wpAny_execs_nil q
 | ret v=>exact q
 | brk=>exact q
 | cont=>exact q
def yhB:TS:=fun D σ H=>D.ct σ H
theorem zfb:PS X (.Continue pos) yhB:=fun _ _ σ H _ I h=>wpAny_Continue ⟨σ,H,I,h⟩
theorem Inv.quiet {pins:List (Addr×Obj)} {σ:St} {H:Hp} {s:Shared} (I:Inv X pins σ H s):interactive X.env=false:=by simp [interactive,I.ok.kind]
def yhC (te:TE):TS:=fun D σ H=>te σ H fun _ H1=>D.nx σ H1
theorem ziQ (he:PE X e te) (hs:swapsWith e none pos.line X.env=pure false:=by rfl):PS X (.Expr e pos) (yhC te):=by
 intro pins s σ H D I h
 exact wpAny_Expr_any (thn (he pins s σ H _ I h) fun v s1 ⟨x,H1,I1,r1,q1⟩=>⟨σ,H1,I1,q1⟩) I.quiet hs
def tRet (te:TE):TS:=fun D σ H=>te σ H D.rt
theorem ygq (he:PE X e te):PS X (.Return (some e) pos) (tRet te):=by
 intro pins s σ H D I h
 exact wpAny_Return_some (thn (he pins s σ H _ I h) fun v s1 ⟨x,H1,I1,r1,q1⟩=>⟨x,σ,H1,I1,r1,q1⟩)
def tIfS (c:TT) (t u:TS):TS:=fun D σ H=>c σ H fun b H1=>if b=true then t D σ H1 else u D σ H1
theorem yhD {c:Expr} {a b:List Stmt} {tc:TT} (hc:PT X c tc) (ha:PSs X a t) (hb:PSs X b u):PS X (.If c a b pos) (tIfS tc t u):=by
 intro pins s σ H D I h
 refine wpAny_If (thn (hc pins s σ H _ I h) fun d s1 ⟨H1,I1,q1⟩=>?_)
 cases d with
 | true=>exact ha pins s1 σ H1 D I1 q1
 | false=>exact hb pins s1 σ H1 D I1 q1
end
abbrev TG:=V->St->Hp->(St->Hp->Prop)->Prop
abbrev TGs:=List V->St->Hp->(St->Hp->Prop)->Prop
def PG (X:Cx) (target:Expr) (t:TG):Prop :=
 ∀ (pins:List (Addr×Obj)) (s:Shared) (σ:St) (H:Hp) (v:V) (u:Value) (Q:St->Hp->Prop),Inv X pins σ H s->RelV v u->t v σ H Q ->
  wpAny (model X.prog X.w) X.A (assign target X.env u) (fun _ s' => ∃ σ' H',Inv X pins σ' H' s'/\Q σ' H') X.xe s
def PGs (X:Cx) (ts:List Expr) (t:TGs):Prop :=
 ∀ (pins:List (Addr×Obj)) (s:Shared) (σ:St) (H:Hp) (vs:List V) (us:List Value) (Q:St->Hp->Prop),Inv X pins σ H s->Vals vs us->t vs σ H Q ->
  wpAny (model X.prog X.w) X.A (assignInOrder ((assignEach ts X.env).map (·.2)) us) (fun _ s' => ∃ σ' H',Inv X pins σ' H' s'/\Q σ' H') X.xe s
abbrev TSet:=V->V->V->Hp->(Hp->Prop)->Prop
def PSet (X:Cx) (t:TSet):Prop :=
 ∀ (pins:List (Addr×Obj)) (s:Shared) (σ:St) (H:Hp) (o i v:V) (ov iv u:Value) (Q:Hp->Prop),Inv X pins σ H s->RelV o ov->RelV i iv->RelV v u->t o i v H Q ->
  wpAny (model X.prog X.w) X.A (setItem ov iv u) (fun _ s' => ∃ H',Inv X pins σ H' s'/\Q H') X.xe s
section
variable {X:Cx} {pos:Pos}
def yej (i:Nat):TG:=fun v σ H Q=>Q (σ.set i (some v)) H
theorem zck {i:Nat} {x:Str} (hN:X.N.Nodup) (hi:X.N[i]? = some x) (hx:Loc X.env.scope x) (hf:X.fn x=true\/X.env.scope.names.lookup x=some .local:=by first | exact .inl rfl | exact .inr rfl | assumption):PG X (.Name x pos) (yej i):=by
 intro pins s σ H v u Q I r h
 exact wpAny_assign_Name (zcQ I hN hi hx r (fun s' I' => ⟨_,H,I',h⟩) hf)
def gNil:TGs:=fun vs σ H Q=>vs=[]/\Q σ H
def yfb (t:TG) (u:TGs):TGs:=fun vs σ H Q=>∃ v r,vs=v::r/\t v σ H fun σ' H' => u r σ' H' Q
theorem zfw:PGs X [] gNil:=by
 intro pins s σ H vs us Q I r h
 obtain ⟨e,h⟩:=h
 subst e
 cases r
 exact assignInOrder_nil ⟨σ,H,I,h⟩
theorem zcR {e:Expr} {es:List Expr} {t:TG} {u:TGs} (h1:PG X e t) (h2:PGs X es u)
  (hs:(assignEach (e::es) X.env).map (·.2)=assign e X.env::(assignEach es X.env).map (·.2):=by rfl):PGs X (e::es) (yfb t u):=by
 intro pins s σ H vs us Q I r h
 obtain ⟨v,vr,e1,h⟩:=h
 subst e1
 cases r with
 | cons r rr =>
  rw [hs]
  refine assignInOrder_cons (thn (h1 pins s σ H _ _ _ I r h) fun _ s1 ⟨σ1,H1,I1,q1⟩=>?_)
  exact h2 pins s1 σ1 H1 _ _ Q I1 rr q1
def gTup (K:PySem.W.Frag) (n:Nat) (t:TGs):TG:=fun v σ H Q=>∃ a xs,v = .ref a/\SqT K H a xs/\xs.length=n/\t xs σ H Q
theorem yfo {es:List Expr} {k:Nat} {t:TGs} {n:Nat} (hc:X.calm=true) (h:PGs X es t)
  (hn:(assignEach es X.env).length=n:=by rfl) (hst:(assignEach es X.env).findIdx? (·.1)=none:=by rfl):PG X (.Tuple es k pos) (gTup X.K n t):=by
 intro pins s σ H v u Q I r hw
 obtain ⟨a,xs,e1,hq,hl,hw⟩:=hw
 subst e1
 cases r
 obtain ⟨its,rv,ht,hz⟩:=I.tuple hq
 refine assign_Tuple_tuple (I.ok.hd hc) ht (by simp [hn,<- hl,rv.length]) hst fun h' hx=>?_
 have I1:Inv X pins σ H { s with heap:=h' }:=I.kept (t' := s.toks) fun b o e=>hx b o (Nat.ne_of_lt (Heap.lt_size e)) e
 exact h pins _ σ H xs _ Q I1 (by simpa using rv) hw
def gSub (to ti:TE) (t:TSet):TG:=fun v σ H Q=>to σ H fun o H1=>ti σ H1 fun i H2=>t o i v H2 fun H3=>Q σ H3
theorem ygr {o i:Expr} {to ti:TE} {t:TSet} (ho:PE X o to) (hi:PE X i ti) (hs:PSet X t)
  (ha:∀ v,assign (.Subscript o i pos) X.env v=(do
   let ov <- holding [v] (eval o X.env)
   let iv <- holding [v,ov] (eval i X.env)
   standAt pos
   holding [v,ov,iv] (setItem ov iv v)
   release [v,ov,iv] []):=by intro _;rfl):PG X (.Subscript o i pos) (gSub to ti t):=by
 intro pins s σ H v u Q I r h
 rw [ha]
 refine wpAny_bind (wpAny_holding (thn (ho pins s σ H _ I h) fun ov s1 ⟨x,H1,I1,r1,q1⟩=>?_))
 refine wpAny_bind (wpAny_holding (thn (hi pins s1 σ H1 _ I1 q1) fun iv s2 ⟨y,H2,I2,r2,q2⟩=>?_))
 refine wpAny_bind (wpAny_standAt (wpAny_bind (wpAny_holding (thn (hs pins s2 σ H2 x y v ov iv u _ I2 r1 r2 r q2) fun _ s3 ⟨H3,I3,q3⟩=>?_))))
 exact wpAny_release ⟨σ,H3,I3,q3⟩
def tAsg (te:TE) (g:TG):TS:=fun D σ H=>te σ H fun x H1=>g x σ H1 D.nx
theorem yfp {tg e:Expr} {te:TE} {g:TG} (he:PE X e te) (hg:PG X tg g) (hs:swapsWithSole [tg] e pos.line X.env=pure false:=by rfl) (hw:swappedStores [tg] e X.env=pure none:=by rfl)
  (h1:(assignEach [tg] X.env).map (·.2)=[assign tg X.env]:=by rfl):PS X (.Assign [tg] e pos) (tAsg te g):=by
 intro pins s σ H D I h
 refine wpAny_Assign_stores (thn (he pins s σ H _ I h) fun v s1 ⟨x,H1,I1,r1,q1⟩=>?_) hs hw
 rw [h1]
 exact thn (hg pins s1 σ H1 x v _ I1 r1 q1) fun _ s2 q=>q
theorem ygs {i:Nat} {x:Str} {e:Expr} {te:TE} {pos':Pos} (hN:X.N.Nodup) (hi:X.N[i]? = some x) (hx:Loc X.env.scope x) (he:PE X e te) (hs:swapsWith e (some (.Name x pos')) pos.line X.env=pure false:=by rfl) (hf:X.fn x=true\/X.env.scope.names.lookup x=some .local:=by first | exact .inl rfl | exact .inr rfl | assumption) :
  PS X (.Assign [.Name x pos'] e pos) (tAsg te (yej i)):=by
 intro pins s σ H D I h
 refine wpAny_Assign_Name (thn (he pins s σ H _ I h) fun v s1 ⟨y,H1,I1,r1,q1⟩=>?_) hs
 exact zcQ I1 hN hi hx r1 (fun s2 I2=>⟨_,H1,I2,q1⟩) hf
end
section
variable {X:Cx} {pos:Pos}
def ygt (c:TT) (tb:TS):TS:=fun D σ H=>∃ W:Nat->St->Hp->Prop,(∃ m,W m σ H)/\∀ m σ H,W m σ H ->
 c σ H fun b H1=>if b=true then ∃ N:St->Hp->Prop,(∀ σ' H',N σ' H'->∃ m',m'<m/\W m' σ' H')/\tb { D with nx:=N,ct:=N,bk:=D.nx } σ H1 else D.nx σ H1
theorem zhI {c:Expr} {body:List Stmt} {tc:TT} {tb:TS} (hp:PassesOwn (model X.prog X.w) X.A X.env X.xe) (hc:PT X c tc) (hb:PSs X body tb):PS X (.While c body [] pos) (ygt tc tb):=by
 intro pins s σ H D I h
 obtain ⟨W,⟨m0,w0⟩,turn⟩:=h
 refine wpAny_While (codeAny_whileLoop (fun n s' => ∃ σ' H',Inv X pins σ' H' s'/\W n σ' H') ?_ m0 ⟨σ,H,I,w0⟩)
 rintro n s1 ⟨σ1,H1,I1,w1⟩
 refine wpAny_passesOwn hp (thn (hc pins s1 σ1 H1 _ I1 (turn n σ1 H1 w1)) fun b s2 ⟨H2,I2,q2⟩=>?_)
 cases b with
 | true =>
  obtain ⟨N,hN,q2⟩:=q2
  rw [if_pos rfl]
  refine wpAny_passesOwn hp (thn (hb pins s2 σ1 H2 _ I2 q2) fun f s3 q3=>?_)
  cases f with
  | next =>
   obtain ⟨σ3,H3,I3,n3⟩:=q3
   obtain ⟨m',hm,w3⟩:=hN σ3 H3 n3
   exact ⟨m',hm,σ3,H3,I3,w3⟩
  | cont =>
   obtain ⟨σ3,H3,I3,n3⟩:=q3
   obtain ⟨m',hm,w3⟩:=hN σ3 H3 n3
   exact ⟨m',hm,σ3,H3,I3,w3⟩
  | brk=>exact q3
  | ret v=>exact q3
 | false =>
  rw [if_neg Bool.false_ne_true]
  exact wpAny_execs_nil ⟨σ1,H2,I2,q2⟩
end
structure It where
 go:Nat->Hp->Prop
 yld:Nat->Hp->V->Hp->Prop
 stop:Nat->Hp->Prop
def FpOk (X:Cx) (pins:List (Addr×Obj)) (H:Hp) (b:Addr):Prop :=
 H b=none/\b≠X.env.locals/\b∉X.fs/\(b∈X.ex\/X.s₀.heap.objs.size<=b)/\(∀ x c,X.env.cells.lookup x=some c->c≠b)/\∀ p∈X.pn++pins,p.1≠b
theorem Inv.fpOk {X:Cx} {pins:List (Addr×Obj)} {σ:St} {H H':Hp} {s:Shared} {b:Addr} (I:Inv X pins σ H s) (hb:s.heap.objs.size<=b) (hn:H' b=none):FpOk X pins H' b:=by
 refine ⟨hn,Nat.ne_of_gt (Nat.lt_of_lt_of_le I.lt hb),I.nofs hb,.inr (Nat.le_trans I.sz hb),fun x c e z=>?_,fun p hp z=>?_⟩
 ·obtain ⟨v,q⟩:=I.cell x c e
  exact absurd (Nat.lt_of_lt_of_le q.lt (by rw [z];exact hb)) (Nat.lt_irrefl _)
 ·exact absurd (Nat.lt_of_lt_of_le (Heap.lt_size (I.pin p hp).1) (by rw [z];exact hb)) (Nat.lt_irrefl _)
structure Turn (P:Program) (w:World) (K:PySem.W.Frag) (tg:Expr) (J:It) (fp:List Addr) (it:Addr) (tn:Nat->Heap->Prop):Prop where
 mem:it∈fp
 obj:∀ i h,tn i h->∀ b∈fp,∃ o,h.get? b=some o/\∀ v,o.data ≠ .cell v
 keep:∀ i h h',tn i h->(∀ b∈fp,∀ o,h.get? b=some o->h'.get? b=some o)->tn i h'
 item:∀ (X:Cx),X.prog=P->X.w=w->X.K=K->X.calm=true->∀ (i:Nat) (pins:List (Addr×Obj)) (s:Shared) (σ:St) (H:Hp) (E:Value->Shared->Prop),Inv X pins σ H s->(∀ b∈fp,FpOk X pins H b)->tn i s.heap->J.go i H ->
  wpAny (model P w) X.A (pyNext (.ref it)) (fun r s1=>∃ u,r=some u /\
   wpAny (model P w) X.A (letOwnedTupleGo tg (.ref it) u) (fun _ s2=>∃ x H',Inv X pins σ H' s2/\RelV x u/\J.yld i H x H'/\tn (i+1) s2.heap/\∀ b∈fp,H' b=none) E s1) E s
 done:∀ (X:Cx),X.prog=P->X.w=w->X.K=K->X.calm=true->∀ (i:Nat) (pins:List (Addr×Obj)) (s:Shared) (σ:St) (H:Hp) (E:Value->Shared->Prop),Inv X pins σ H s->(∀ b∈fp,FpOk X pins H b)->tn i s.heap->J.stop i H ->
  wpAny (model P w) X.A (pyNext (.ref it)) (fun r s1=>r=none/\Inv X pins σ H s1) E s
 self:∀ (A:Around) (i:Nat) (s:Shared) (Q:Value->Shared->Prop) (E:Value->Shared->Prop),tn i s.heap->Q (.ref it) s->wpAny (model P w) A (pyIter (.ref it)) Q E s
abbrev TI:=St->Hp->(It->Hp->Prop)->Prop
def PIE (X:Cx) (pins:List (Addr×Obj)) (σ:St) (tg:Expr) (R:It->Hp->Prop) (itv:Value) (s2:Shared):Prop :=
 ∃ (it:Addr) (fp:List Addr) (tn:Nat->Heap->Prop) (J:It) (H':Hp),itv = .ref it/\Inv X pins σ H' s2/\Turn X.prog X.w X.K tg J fp it tn/\tn 0 s2.heap/\(∀ b∈fp,FpOk X pins H' b)/\R J H'
def PI (X:Cx) (tg iter:Expr) (wi:TI):Prop :=
 ∀ (pins:List (Addr×Obj)) (s:Shared) (σ:St) (H:Hp) (R:It->Hp->Prop),Inv X pins σ H s->wi σ H R ->
  wpAny (model X.prog X.w) X.A (eval iter X.env) (fun v s1=>wpAny (model X.prog X.w) X.A (pyIter v) (PIE X pins σ tg R) X.xe s1) X.xe s
theorem yeN {M:Model} {A:Around} {E:Value->Shared->Prop} {s:Shared} {tg:Expr} {it:Addr} {u:Value} {o:Obj} {n:String} {vs:Array Value} {Q:Unit->Shared->Prop} (ho:s.heap.get? it=some o) (hc:o.cls = .type n) (hd:o.data = .fields vs)
  (hn:["enumerate", "zip", "dict_itemiterator", "dict_reverseitemiterator", "odict_iterator", "itertools.zip_longest", "itertools.pairwise"].contains n=false) (hQ:Q () s):wpAny M A (letOwnedTupleGo tg (.ref it) u) Q E s:=by
 unfold letOwnedTupleGo
 cases tg<;>first
  | exact wpAny_pure hQ
  | (cases u<;>first
    | exact wpAny_pure hQ
    | (refine wpAny_bind (wpAny_load ho ?_)
       rw [hc,hd]
       show wpAny M A (if (["enumerate", "zip", "dict_itemiterator", "dict_reverseitemiterator", "odict_iterator", "itertools.zip_longest", "itertools.pairwise"].contains n && vs[0]? == some (rawInt _))=true then _ else _) Q E s
       rw [if_neg (by intro h;rw [hn,Bool.false_and] at h;cases h)]
       exact wpAny_pure hQ))
def Itl (K:PySem.W.Frag) (a:Addr):It :=
 ⟨fun i H=>∃ xs x,SqL K H a xs/\xs[i]? = some x,fun i H x H' => H'=H/\∀ xs,SqL K H a xs->xs[i]? = some x,fun i H=>∃ xs,SqL K H a xs/\xs.length<=i⟩
def Itt (K:PySem.W.Frag) (a:Addr):It :=
 ⟨fun i H=>∃ xs x,SqT K H a xs/\xs[i]? = some x,fun i H x H' => H'=H/\∀ xs,SqT K H a xs->xs[i]? = some x,fun i H=>∃ xs,SqT K H a xs/\xs.length<=i⟩
def Itr (lo:Int) (n:Nat):It:=⟨fun i _=>i<n,fun i H x H' => H'=H/\x = .int (lo+i),fun i _=>n<=i⟩
theorem zgQ {P:Program} {w:World} {K:PySem.W.Frag} {tg:Expr} (a it:Addr):Turn P w K tg (Itl K a) [it] it (fun i h=>h.IsListIter it a i) where
 mem:=by simp
 obj:=fun i h st b hb=>by
  have e:b=it:=by simpa using hb
  subst e
  obtain ⟨o,e,c,d⟩:=st
  exact ⟨o,e,fun v z=>by rw [d] at z;cases z⟩
 keep:=fun i h h' st k=>st.at fun o e=>k it (by simp) o e
 item:=by
  intro X hP hw hK hc i pins s σ H E I hf st hg
  subst hP hw hK
  obtain ⟨xs,x,hq,hx⟩:=hg
  obtain ⟨its,rv,p,hz⟩:=I.list hq
  obtain ⟨u,hu,ru⟩:=rv.get hx
  obtain ⟨f0,f1,f2,f3,f4,f5⟩:=hf it (by simp)
  refine wpAny_pyNext_list_item st p.isList (x:=u) (by simpa using hu) fun h' st' sb=>?_
  have I1:Inv X pins σ H { s with heap:=h' }:=I.turned (t' := s.toks) (fun b o hb e=>(sb.2 b hb).trans e) f0 f1 f3 f4 f5
  obtain ⟨o,e,c,d⟩:=id st'
  exact ⟨u,rfl,yeN (s:={ s with heap:=h' }) e c d (by decide) ⟨x,H,I1,ru,⟨rfl,fun ys hy=>by rw [I.list_inj hy hq];exact hx⟩,st',fun b hb=>(hf b hb).1⟩⟩
 done:=by
  intro X hP hw hK hc i pins s σ H E I hf st hg
  subst hP hw hK
  obtain ⟨xs,hq,hx⟩:=hg
  obtain ⟨its,rv,p,hz⟩:=I.list hq
  obtain ⟨f0,f1,f2,f3,f4,f5⟩:=hf it (by simp)
  have hl:=rv.length
  exact wpAny_pyNext_list_end (I.ok.hd hc) st p.isList (by simp;lia) fun h' eb=>⟨rfl,I.turned (t' := s.toks) (fun b o hb e=>eb b o hb e) f0 f1 f3 f4 f5⟩
 self:=fun _ _ _ _ _ st h=>wpAny_pyIter_listiter st h
theorem zgg {P:Program} {w:World} {K:PySem.W.Frag} {tg:Expr} (a it:Addr):Turn P w K tg (Itt K a) [it] it (fun i h=>h.IsTupleIter it a i) where
 mem:=by simp
 obj:=fun i h st b hb=>by
  have e:b=it:=by simpa using hb
  subst e
  obtain ⟨o,e,c,d⟩:=st
  exact ⟨o,e,fun v z=>by rw [d] at z;cases z⟩
 keep:=fun i h h' st k=>st.at fun o e=>k it (by simp) o e
 item:=by
  intro X hP hw hK hc i pins s σ H E I hf st hg
  subst hP hw hK
  obtain ⟨xs,x,hq,hx⟩:=hg
  obtain ⟨its,rv,p,hz⟩:=I.tuple hq
  obtain ⟨u,hu,ru⟩:=rv.get hx
  obtain ⟨f0,f1,f2,f3,f4,f5⟩:=hf it (by simp)
  refine wpAny_pyNext_tuple_item st (show s.heap.IsTuple a its.toArray from p) (x:=u) (by simpa using hu) fun h' st' sb=>?_
  have I1:Inv X pins σ H { s with heap:=h' }:=I.turned (t' := s.toks) (fun b o hb e=>(sb.2 b hb).trans e) f0 f1 f3 f4 f5
  obtain ⟨o,e,c,d⟩:=id st'
  exact ⟨u,rfl,yeN (s:={ s with heap:=h' }) e c d (by decide) ⟨x,H,I1,ru,⟨rfl,fun ys hy=>by rw [I.tuple_inj hy hq];exact hx⟩,st',fun b hb=>(hf b hb).1⟩⟩
 done:=by
  intro X hP hw hK hc i pins s σ H E I hf st hg
  subst hP hw hK
  obtain ⟨xs,hq,hx⟩:=hg
  obtain ⟨its,rv,p,hz⟩:=I.tuple hq
  obtain ⟨f0,f1,f2,f3,f4,f5⟩:=hf it (by simp)
  have hl:=rv.length
  exact wpAny_pyNext_tuple_end (I.ok.hd hc) st (show s.heap.IsTuple a its.toArray from p) (by simp;lia) fun h' eb=>⟨rfl,I.turned (t' := s.toks) (fun b o hb e=>eb b o hb e) f0 f1 f3 f4 f5⟩
 self:=fun _ _ _ _ _ st h=>wpAny_pyIter_tupleiter st h
theorem zgh {P:Program} {w:World} {K:PySem.W.Frag} {tg:Expr} (it:Addr) (lo:Int) (n:Nat):Turn P w K tg (Itr lo n) [it] it (fun i h=>IsRangeIter h it (lo+(i:Nat)*1) ((n:Int)-(i:Nat)) 1) where
 mem:=by simp
 obj:=fun i h st b hb=>by
  have e:b=it:=by simpa using hb
  subst e
  exact ⟨_,st,fun v z=>by
   have z':Data.fields _=Data.cell v:=z
   cases z'⟩
 keep:=fun i h h' st k=>k it (by simp) _ st
 item:=by
  intro X hP hw hK hc i pins s σ H E I hf st hg
  subst hP hw hK
  obtain ⟨f0,f1,f2,f3,f4,f5⟩:=hf it (by simp)
  have W:=Walks.range (prog:=X.prog) (w:=X.w) (I.ok.hd hc) it lo 1 n
  refine W.item i s _ _ hg st fun v h' tk hv st' kk=>?_
  obtain ⟨t,rfl⟩:=hv
  have I1:Inv X pins σ H { s with heap:=h',toks:=tk }:=I.turned (fun b o hb e=>kk b o (by simpa using hb) e) f0 f1 f3 f4 f5
  refine ⟨_,rfl,yeN (s:={ s with heap:=h',toks:=tk }) (n := "range_iterator") st' rfl rfl (by decide) ⟨.int (lo+i),H,I1,⟨t,?_⟩,⟨rfl,rfl⟩,st',fun b hb=>(hf b hb).1⟩⟩
  rw [Int.mul_one]
 done:=by
  intro X hP hw hK hc i pins s σ H E I hf st hg
  subst hP hw hK
  obtain ⟨f0,f1,f2,f3,f4,f5⟩:=hf it (by simp)
  exact wpAny_pyNext_range_end (I.ok.hd hc) st (by have:n<=i:=hg;lia) fun h' eb=>⟨rfl,I.turned (t' := s.toks) (fun b o hb e=>eb b o hb e) f0 f1 f3 f4 f5⟩
 self:=fun _ _ _ _ _ st h=>wpAny_pyIter_rangeiter st h
end L2
namespace L2
open PySem PySem.Spec PyProof.Rows
section
variable {X:Cx} {tg:Expr}
def yfV (K:PySem.W.Frag) (tl:TE):TI:=fun σ H R=>tl σ H fun x H1=>∃ a,x = .ref a/\(∃ xs,SqL K H1 a xs)/\R (Itl K a) H1
def iTup (K:PySem.W.Frag) (tl:TE):TI:=fun σ H R=>tl σ H fun x H1=>∃ a,x = .ref a/\(∃ xs,SqT K H1 a xs)/\R (Itt K a) H1
theorem zfx {l:Expr} {tl:TE} (hl:PE X l tl):PI X tg l (yfV X.K tl):=by
 intro pins s σ H R I h
 refine thn (hl pins s σ H _ I h) fun v s1 ⟨x,H1,I1,r1,q1⟩=>?_
 obtain ⟨a,e,⟨xs,hq⟩,q⟩:=q1
 subst e
 cases r1
 obtain ⟨its,rv,p,hz⟩:=I1.list hq
 refine wpAny_pyIter_list p.isList ?_
 refine ⟨s1.heap.objs.size,[s1.heap.objs.size],_,_,H1,rfl,I1.kept (t' := s1.toks) fun b o e=>Heap.get?_push_of_some _ e,zgQ a _,⟨_,Heap.get?_push_size _ rfl,rfl,rfl⟩,fun b hb=>?_,q⟩
 have e:b=s1.heap.objs.size:=by simpa using hb
 subst e
 exact I1.fpOk (Nat.le_refl _) (I1.hok.fresh (Nat.le_refl _))
theorem yfq {l:Expr} {tl:TE} (hl:PE X l tl):PI X tg l (iTup X.K tl):=by
 intro pins s σ H R I h
 refine thn (hl pins s σ H _ I h) fun v s1 ⟨x,H1,I1,r1,q1⟩=>?_
 obtain ⟨a,e,⟨xs,hq⟩,q⟩:=q1
 subst e
 cases r1
 obtain ⟨its,rv,p,hz⟩:=I1.tuple hq
 refine wpAny_pyIter_tuple (show s1.heap.IsTuple a its.toArray from p) ?_
 refine ⟨s1.heap.objs.size,[s1.heap.objs.size],_,_,H1,rfl,I1.kept (t' := s1.toks) fun b o e=>Heap.get?_push_of_some _ e,zgg a _,⟨_,Heap.get?_push_size _ rfl,rfl,rfl⟩,fun b hb=>?_,q⟩
 have e:b=s1.heap.objs.size:=by simpa using hb
 subst e
 exact I1.fpOk (Nat.le_refl _) (I1.hok.fresh (Nat.le_refl _))
theorem zhJ {pins:List (Addr×Obj)} {σ:St} {H:Hp} {s:Shared} {R:It->Hp->Prop} {E:Value->Shared->Prop} {lo hi:Int} {t u v:Tok} {tk:Nat} (I:Inv X pins σ H s) (h1 : -(2 ^ 62)<=lo) (h2:lo<2 ^ 62) (h3 : -(2 ^ 62)<=hi) (h4:hi<2 ^ 62)
  (q:R (Itr lo (hi-lo).toNat) H):wpAny (model X.prog X.w) X.A (pyIter (.ref s.heap.objs.size)) (PIE X pins σ tg R) E { s with heap:=s.heap.push { cls:=.type "range",data:=.fields #[.int lo t,.int hi u,.int 1 v] },toks:=tk }:=by
 refine wpAny_pyIter_range (IsRange.new ..) (small_one h1 h2 h3 h4) ?_
 have I1:Inv X pins σ H { s with heap:=s.heap.push { cls:=.type "range",data:=.fields #[.int lo t,.int hi u,.int 1 v] },toks:=tk }:=I.kept fun b o e=>Heap.get?_push_of_some _ e
 refine ⟨(s.heap.push { cls:=.type "range",data:=.fields #[.int lo t,.int hi u,.int 1 v] }).objs.size,[(s.heap.push { cls:=.type "range",data:=.fields #[.int lo t,.int hi u,.int 1 v] }).objs.size],_,_,H,rfl,
  I1.kept (t' := tk) fun b o e=>Heap.get?_push_of_some _ e,zgh _ lo (hi-lo).toNat,?_,fun b hb=>?_,q⟩
 ·have e1:lo+((0:Nat):Int)*1=lo:=by simp
  have e2:(((hi-lo).toNat:Nat):Int)-((0:Nat):Int)=Builtin.Range.rangeSize lo hi 1:=by rw [rangeSize_one];split<;>lia
  show IsRangeIter _ _ (lo+((0:Nat):Int)*1) ((((hi-lo).toNat:Nat):Int)-((0:Nat):Int)) 1
  rw [e1,e2]
  exact Heap.get?_push_size _ rfl
 ·have e:b=(s.heap.push { cls:=.type "range",data:=.fields #[.int lo t,.int hi u,.int 1 v] }).objs.size:=by simpa using hb
  subst e
  exact I1.fpOk (Nat.le_refl _) (I1.hok.fresh (Nat.le_refl _))
def yhE (ta:TA):TI:=fun σ H R=>ta σ H fun vs H1=>∃ j:Int,vs=[.int j] /\ -(2 ^ 62)<=j/\j<2 ^ 62/\R (Itr 0 j.toNat) H1
theorem zgR {a:Expr} {ta:TA} {p pos:Pos} (hg:Gl X "range") (hm:X.mg "range" = none) (ha:PA X [a] ta) (hs:starEach [a] X.env=[(false,eval a X.env)]:=by rfl):PI X tg (.Call (.Name "range" p) [a] [] pos) (yhE ta):=by
 intro pins s σ H R I h
 refine Call_ (yd7 I hg hm boot_range (PyProof.Rows.callWith_type1 (thn (ha pos pins s σ H _ I h) fun us s1 ⟨vs,H1,I1,r1,q1⟩=>?_) hs rfl))
 obtain ⟨j,e,q1,q2,q⟩:=q1
 subst e
 cases r1 with
 | cons r rr =>
  cases rr
  obtain ⟨t,rfl⟩:=r
  exact call_range_1 (zhJ I1 (by lia) (by lia) q1 q2 (by simpa using q))
def tFor (wi:TI) (g:TG) (tb:TS):TS:=fun D σ H=>wi σ H fun J H1=>∃ W:Nat->Nat->St->Hp->Prop,(∃ m,W 0 m σ H1)/\∀ i m σ H,W i m σ H ->
 (J.stop i H/\D.nx σ H)\/(J.go i H/\∃ N:St->Hp->Prop,(∀ σ' H',N σ' H'->∃ m',m'<m/\W (i+1) m' σ' H')/\∀ x H',J.yld i H x H'->g x σ H' fun σ2 H2=>tb { D with nx:=N,ct:=N,bk:=D.nx } σ2 H2)
def ybM (fp:List Addr) (h:Heap):List (Addr×Obj):=fp.filterMap fun b=>(h.get? b).map fun o=>(b,o)
theorem zaO {fp:List Addr} {h:Heap} {b:Addr} {o:Obj} (hb:b∈fp) (e:h.get? b=some o):(b,o)∈ybM fp h:=List.mem_filterMap.mpr ⟨b,hb,by rw [e];rfl⟩
theorem zgS {fp:List Addr} {h:Heap} {p:Addr×Obj} (hp:p∈ybM fp h):p.1∈fp/\h.get? p.1=some p.2:=by
 obtain ⟨b,hb,e⟩:=List.mem_filterMap.mp hp
 cases q:h.get? b with
 | none=>rw [q] at e;cases e
 | some o =>
  rw [q] at e
  have e':(b,o)=p:=Option.some.inj e
  subst e'
  exact ⟨hb,q⟩
theorem Inv.pinned {pins:List (Addr×Obj)} {σ:St} {H:Hp} {s:Shared} {fp:List Addr} (I:Inv X pins σ H s) (hf:∀ b∈fp,FpOk X pins H b) (ho:∀ b∈fp,∃ o,s.heap.get? b=some o/\∀ v,o.data ≠ .cell v):Inv X (pins++ybM fp s.heap) σ H s :=
 I.pins_of fun p hp=>(List.mem_append.mp hp).elim (fun z=>I.pin p (List.mem_append_right _ z)) fun z=>by
  obtain ⟨hb,e⟩:=zgS z
  obtain ⟨f0,f1,f2,_⟩:=hf p.1 hb
  obtain ⟨o,e',d⟩:=ho p.1 hb
  rw [e] at e';cases e'
  exact ⟨e,f0,f1,f2,d⟩
theorem Inv.unpinned {pins pl:List (Addr×Obj)} {σ:St} {H:Hp} {s:Shared} (I:Inv X (pins++pl) σ H s):Inv X pins σ H s:=I.pins_of fun p hp=>I.pin p (List.mem_append_right _ (List.mem_append_left _ hp))
theorem ygu {iter:Expr} {body:List Stmt} {wi:TI} {g:TG} {tb:TS} {pos:Pos} (hp:PassesOwn (model X.prog X.w) X.A X.env X.xe) (hc:X.calm=true) (hi:PI X tg iter wi) (hg:PG X tg g) (hb:PSs X body tb)
  (hs:∀ x,foldedSetIterable iter X.env x=pure x:=by intro _;rfl):PS X (.For tg iter body [] pos) (tFor wi g tb):=by
 intro pins s σ H D I h
 refine wpAny_For (thn (hi pins s σ H _ I h) fun v s1 h1=>thn h1 fun itv s2 h2=>?_) hs
 obtain ⟨it,fp,tn,J,H2,e,I2,T,st2,f2,W,⟨m0,w0⟩,turn⟩:=h2
 subst e
 have stat:∀ {H':Hp},(∀ b∈fp,H' b=none)->∀ b∈fp,FpOk X pins H' b:=fun hn b hb=>⟨hn b hb,(f2 b hb).2⟩
 refine codeAny_forLoop_any (fun n s' => ∃ i σ' H',Inv X pins σ' H' s'/\tn i s'.heap/\(∀ b∈fp,H' b=none)/\W i n σ' H') ?_ m0 ⟨0,σ,H2,I2,st2,fun b hb=>(f2 b hb).1,w0⟩
 rintro n s3 ⟨i,σ3,H3,I3,st3,fr3,w3⟩
 rcases turn i n σ3 H3 w3 with ⟨stop,qn⟩ | ⟨go,N,hN,step⟩
 ·refine wpAny_passesOwn hp (thn (T.done X rfl rfl rfl hc i pins s3 σ3 H3 X.xe I3 (stat fr3) st3 stop) fun r s4 ⟨hr,I4⟩=>?_)
  subst hr
  exact wpAny_execs_nil ⟨σ3,H3,I4,qn⟩
 ·refine wpAny_passesOwn hp (thn (T.item X rfl rfl rfl hc i pins s3 σ3 H3 X.xe I3 (stat fr3) st3 go) fun r s4 ⟨u,hr,h4⟩=>?_)
  subst hr
  refine wpAny_passesOwn hp (thn h4 fun _ s5 ⟨x,H5,I5,r5,y5,st5,fr5⟩=>?_)
  have I5' := I5.pinned (stat fr5) (T.obj _ _ st5)
  refine wpAny_passesOwn hp (thn (hg _ s5 σ3 H5 x u _ I5' r5 (step x H5 y5)) fun _ s6 ⟨σ6,H6,I6,q6⟩=>?_)
  refine wpAny_passesOwn hp (thn (hb _ s6 σ6 H6 _ I6 q6) fun f s7 q7=>?_)
  have again:∀ {σ7:St} {H7:Hp},Inv X (pins++ybM fp s5.heap) σ7 H7 s7->N σ7 H7->∃ m,m<n/\∃ i σ' H',Inv X pins σ' H' s7/\tn i s7.heap/\(∀ b∈fp,H' b=none)/\W i m σ' H' := fun {σ7 H7} I7 n7=>by
   obtain ⟨m',hm,w7⟩:=hN σ7 H7 n7
   refine ⟨m',hm,i+1,σ7,H7,I7.unpinned,T.keep _ _ _ st5 fun b hb o e=>(I7.pin (b,o) (List.mem_append_right _ (List.mem_append_right _ (zaO hb e)))).1,fun b hb=>?_,w7⟩
   obtain ⟨o,e,d⟩:=T.obj _ _ st5 b hb
   exact (I7.pin (b,o) (List.mem_append_right _ (List.mem_append_right _ (zaO hb e)))).2.1
  cases f with
  | next=>obtain ⟨σ7,H7,I7,n7⟩:=q7;exact again I7 n7
  | cont=>obtain ⟨σ7,H7,I7,n7⟩:=q7;exact again I7 n7
  | brk=>obtain ⟨σ7,H7,I7,q7⟩:=q7;exact ⟨σ7,H7,I7.unpinned,q7⟩
  | ret v=>obtain ⟨x7,σ7,H7,I7,r7,q7⟩:=q7;exact ⟨x7,σ7,H7,I7.unpinned,r7,q7⟩
end
end L2
namespace L2
open PySem PySem.Spec PyProof.Rows
abbrev R2:=V->V->Hp->VK->Prop
def OpR (X:Cx) (f:Value->Value->Sem Value) (r:R2):Prop :=
 ∀ (pins:List (Addr×Obj)) (s:Shared) (σ:St) (H:Hp) (x y:V) (v u:Value) (Q:VK),Inv X pins σ H s->RelV x v->RelV y u->r x y H Q ->
  wpAny (model X.prog X.w) X.A (f v u) (EP X pins σ Q) X.xe s
def UnR (X:Cx) (f:Value->Sem Value) (r:V->Hp->VK->Prop):Prop :=
 ∀ (pins:List (Addr×Obj)) (s:Shared) (σ:St) (H:Hp) (x:V) (v:Value) (Q:VK),Inv X pins σ H s->RelV x v->r x H Q ->
  wpAny (model X.prog X.w) X.A (f v) (EP X pins σ Q) X.xe s
def CallR (X:Cx) (f:Value) (r:List V->Hp->VK->Prop):Prop :=
 ∀ (pins:List (Addr×Obj)) (s:Shared) (σ:St) (H:Hp) (xs:List V) (us:List Value) (Q:VK),Inv X pins σ H s->Vals xs us->r xs H Q ->
  wpAny (model X.prog X.w) X.A (call f us) (EP X pins σ Q) X.xe s
def TruR (X:Cx) (r:V->Hp->(Bool->Hp->Prop)->Prop):Prop :=
 ∀ (pins:List (Addr×Obj)) (s:Shared) (σ:St) (H:Hp) (x:V) (v:Value) (Q:Bool->Hp->Prop),Inv X pins σ H s->RelV x v->r x H Q ->
  wpAny (model X.prog X.w) X.A (truthy v) (TP X pins σ Q) X.xe s
def tOp (r:R2) (ta tb:TE):TE:=fun σ H Q=>ta σ H fun x H1=>tb σ H1 fun y H2=>r x y H2 Q
def tUn (r:V->Hp->VK->Prop) (ta:TE):TE:=fun σ H Q=>ta σ H fun x H1=>r x H1 Q
def rI (C:Int->Int->Prop) (g:Int->Int->V):R2:=fun x y H Q=>∃ i j,x = .int i/\y = .int j/\C i j/\Q (g i j) H
def rI0 (g:Int->Int->V):R2:=fun x y H Q=>∃ i j,x = .int i/\y = .int j/\Q (g i j) H
def rU (g:Int->V):V->Hp->VK->Prop:=fun x H Q=>∃ i,x = .int i/\Q (g i) H
section
variable {X:Cx} {a b c:Expr} {ta tb tc:TE} {pos:Pos}
theorem binT (ha:PE X a ta) (hb:PE X b tb) {pins:List (Addr×Obj)} {s:Shared} {σ:St} {H:Hp} {R:V->V->Hp->Prop} (I:Inv X pins σ H s)
  (h:ta σ H fun x H1=>tb σ H1 fun y H2=>R x y H2) {Q:Value->Shared->Prop} {f:Value->Value->Sem Value}
  (hf:∀ v u s2 x y H2,Inv X pins σ H2 s2->RelV x v->RelV y u->R x y H2->wpAny (model X.prog X.w) X.A (f v u) Q X.xe s2) :
  wpAny (model X.prog X.w) X.A (eval a X.env) (fun v s₁=>wpAny (model X.prog X.w) X.A (eval b X.env) (fun u s₂=>wpAny (model X.prog X.w) X.A (f v u) Q X.xe s₂) X.xe s₁) X.xe s:=by
 refine thn (ha pins s σ H _ I h) fun v s1 ⟨x,H1,I1,r1,q1⟩=>?_
 refine thn (hb pins s1 σ H1 _ I1 q1) fun u s2 ⟨y,H2,I2,r2,q2⟩=>?_
 exact hf v u s2 x y H2 I2 r1 r2 q2
theorem yhF {op:Operator} {r:R2} (ho:OpR X (binaryOp op) r) (ha:PE X a ta) (hb:PE X b tb):PE X (.BinOp a op b pos) (tOp r ta tb):=by
 intro pins s σ H Q I h
 exact wpAny_BinOp (binT ha hb I h fun v u s2 x y H2 I2 rx ry q=>ho pins s2 σ H2 x y v u Q I2 rx ry q)
theorem yhG {op:UnaryOp} {r:V->Hp->VK->Prop} (ho:UnR X (unaryOp op) r) (ha:PE X a ta):PE X (.UnaryOp op a pos) (tUn r ta):=by
 intro pins s σ H Q I h
 exact UnaryOp_ (thn (ha pins s σ H _ I h) fun v s1 ⟨x,H1,I1,r1,q1⟩=>ho pins s1 σ H1 x v Q I1 r1 q1)
theorem opI {f:Value->Value->Sem Value} {C:Int->Int->Prop} {g:Int->Int->Int}
  (rule:∀ (i j:Int) (t u:Tok) (s:Shared) (Q:Value->Shared->Prop) (E:Value->Shared->Prop),C i j->Q (.int (g i j) s.toks) { s with toks:=s.toks+1 }->wpAny (model X.prog X.w) X.A (f (.int i t) (.int j u)) Q E s) :
  OpR X f (rI C fun i j=>.int (g i j)):=by
 intro pins s σ H x y v u Q I rx ry h
 obtain ⟨i,j,rfl,rfl,hc,q⟩:=h
 obtain ⟨t,rfl⟩:=rx
 obtain ⟨t',rfl⟩:=ry
 exact rule i j t t' s _ _ hc ⟨.int (g i j),H,I.tok _,⟨_,rfl⟩,q⟩
theorem opI0 {f:Value->Value->Sem Value} {g:Int->Int->Int}
  (rule:∀ (i j:Int) (t u:Tok) (s:Shared) (Q:Value->Shared->Prop) (E:Value->Shared->Prop),Q (.int (g i j) s.toks) { s with toks:=s.toks+1 }->wpAny (model X.prog X.w) X.A (f (.int i t) (.int j u)) Q E s) :
  OpR X f (rI0 fun i j=>.int (g i j)):=by
 intro pins s σ H x y v u Q I rx ry h
 obtain ⟨i,j,rfl,rfl,q⟩:=h
 obtain ⟨t,rfl⟩:=rx
 obtain ⟨t',rfl⟩:=ry
 exact rule i j t t' s _ _ ⟨.int (g i j),H,I.tok _,⟨_,rfl⟩,q⟩
theorem opB0 {f:Value->Value->Sem Value} {g:Int->Int->Bool}
  (rule:∀ (i j:Int) (t u:Tok) (s:Shared) (Q:Value->Shared->Prop) (E:Value->Shared->Prop),Q (.bool (g i j)) s->wpAny (model X.prog X.w) X.A (f (.int i t) (.int j u)) Q E s) :
  OpR X f (rI0 fun i j=>.bl (g i j)):=by
 intro pins s σ H x y v u Q I rx ry h
 obtain ⟨i,j,rfl,rfl,q⟩:=h
 obtain ⟨t,rfl⟩:=rx
 obtain ⟨t',rfl⟩:=ry
 exact rule i j t t' s _ _ ⟨.bl (g i j),H,I,rfl,q⟩
def CPow (i j:Int):Prop:=0<=j/\j<=1000000/\i.natAbs<2 ^ 64
def CMul (i j:Int):Prop:=(-(2 ^ 64)<i/\i<2 ^ 64)\/(-(2 ^ 64)<j/\j<2 ^ 64)
theorem CMul.ok {i j:Int} (h:CMul i j):IntMulOk i j:=by
 rcases h with ⟨h1,h2⟩ | ⟨h1,h2⟩
 ·exact .of_left (intBits_le_64 h1 h2)
 ·exact .of_right (intBits_le_64 h1 h2)
theorem op_add:OpR X (binaryOp .Add) (rI0 fun i j=>.int (i+j)):=opI0 fun _ _ _ _ _ _ _ q=>add_int q
theorem ygv:OpR X (binaryOp .Sub) (rI0 fun i j=>.int (i-j)):=opI0 fun _ _ _ _ _ _ _ q=>sub_int q
theorem ygw:OpR X (binaryOp .Mod) (rI (fun _ j=>0<j) fun i j=>.int (i % j)):=opI fun i j _ _ _ _ _ hc q=>by
 have h1:(0:Int)<j:=hc
 exact mod_int' (by lia) (by rw [Int.fmod_eq_emod_of_nonneg i (by lia)];exact q)
theorem ygx:OpR X (binaryOp .Pow) (rI CPow fun i j=>.int (i ^ j.toNat)):=opI fun _ _ _ _ _ _ _ hc q=>pow_int_small hc.1 hc.2.1 hc.2.2 q
theorem unI {f:Value->Sem Value} {g:Int->Int}
  (rule:∀ (i:Int) (t:Tok) (s:Shared) (Q:Value->Shared->Prop) (E:Value->Shared->Prop),Q (.int (g i) s.toks) { s with toks:=s.toks+1 }->wpAny (model X.prog X.w) X.A (f (.int i t)) Q E s) :
  UnR X f (rU fun i=>.int (g i)):=by
 intro pins s σ H x v Q I rx h
 obtain ⟨i,rfl,q⟩:=h
 obtain ⟨t,rfl⟩:=rx
 exact rule i t s _ _ ⟨.int (g i),H,I.tok _,⟨_,rfl⟩,q⟩
theorem ygy:UnR X (unaryOp .USub) (rU fun i=>.int (-i)):=unI fun _ _ _ _ _ q=>neg_int q
end
def scal:V->V->Bool
 | .non,.non=>true | .non,.int _=>true | .int _,.non=>true | .non,.bl _=>true | .bl _,.non=>true | .non,.str _=>true | .str _,.non=>true
 | .int _,.int _=>true | .bl _,.bl _=>true | .str _,.str _=>true | .byt _,.byt _=>true
 | .int _,.str _=>true | .str _,.int _=>true | .bl _,.str _=>true | .str _,.bl _=>true
 | _,_=>false
def rEq:R2:=fun x y H Q=>scal x y=true/\Q (.bl (decide (x=y))) H
def rNe:R2:=fun x y H Q=>scal x y=true/\Q (.bl (!decide (x=y))) H
theorem zfy {i j:Int}:decide (V.int i=V.int j)=(i == j):=by
 rw [Bool.eq_iff_iff]
 simp
theorem yfr {i j:Bool}:decide (V.bl i=V.bl j)=(i == j):=by
 rw [Bool.eq_iff_iff]
 simp
theorem zfz {i j:Str}:decide (V.str i=V.str j)=(i == j):=by
 rw [Bool.eq_iff_iff]
 simp
theorem zfA {i j:Array UInt8}:decide (V.byt i=V.byt j)=(i.toList == j.toList):=by
 rw [Bool.eq_iff_iff]
 cases i
 cases j
 simp
section
variable {X:Cx} {a b c:Expr} {ta tb tc:TE} {pos:Pos}
theorem yaS {pins:List (Addr×Obj)} {σ:St} {H:Hp} {s:Shared} {Q:VK} {k k':Bool} (I:Inv X pins σ H s) (q:Q (.bl k) H) (e:k=k'):EP X pins σ Q (.bool k') s:=by
 subst e
 exact ⟨.bl k,H,I,rfl,q⟩
theorem op_eq:OpR X (compareOp .Eq) rEq:=by
 intro pins s σ H x y v u Q I rx ry h
 obtain ⟨hs,q⟩:=h
 cases x with
 | non =>
  cases rx
  cases y with
  | non=>cases ry;exact PySem.EqNone.eq_none_none (yaS I q (by simp))
  | bl j=>cases ry;exact PySem.EqNone.eq_none_bool (yaS I q (by simp))
  | int j=>obtain ⟨t',rfl⟩:=ry;exact PySem.EqNone.eq_none_int (yaS I q (by simp))
  | str j=>obtain ⟨t',rfl⟩:=ry;exact PySem.EqNone.eq_none_str (yaS I q (by simp))
  | _=>exact absurd (show false=true from hs) Bool.false_ne_true
 | bl i =>
  cases rx
  cases y with
  | non=>cases ry;exact PySem.EqNone.eq_bool_none (yaS I q (by simp))
  | bl j=>cases ry;exact eq_bool (yaS I q yfr)
  | str j=>obtain ⟨t',rfl⟩:=ry;exact PySem.EqMixed.eq_bool_str (yaS I q (by simp))
  | _=>exact absurd (show false=true from hs) Bool.false_ne_true
 | int i =>
  obtain ⟨t,rfl⟩:=rx
  cases y with
  | non=>cases ry;exact PySem.EqNone.eq_int_none (yaS I q (by simp))
  | int j=>obtain ⟨t',rfl⟩:=ry;exact eq_int (yaS I q zfy)
  | str j=>obtain ⟨t',rfl⟩:=ry;exact PySem.EqMixed.eq_int_str (yaS I q (by simp))
  | _=>exact absurd (show false=true from hs) Bool.false_ne_true
 | str i =>
  obtain ⟨t,rfl⟩:=rx
  cases y with
  | non=>cases ry;exact PySem.EqNone.eq_str_none (yaS I q (by simp))
  | bl j=>cases ry;exact PySem.EqMixed.eq_str_bool (yaS I q (by simp))
  | int j=>obtain ⟨t',rfl⟩:=ry;exact PySem.EqMixed.eq_str_int (yaS I q (by simp))
  | str j=>obtain ⟨t',rfl⟩:=ry;exact eq_str (yaS I q zfz)
  | _=>exact absurd (show false=true from hs) Bool.false_ne_true
 | byt i =>
  obtain ⟨t,rfl⟩:=rx
  cases y with
  | byt j=>obtain ⟨t',rfl⟩:=ry;exact PySem.W.eq_bytes (yaS I q zfA)
  | _=>exact absurd (show false=true from hs) Bool.false_ne_true
 | _=>cases y<;>exact absurd (show false=true from hs) Bool.false_ne_true
theorem op_ne:OpR X (compareOp .NotEq) rNe:=by
 intro pins s σ H x y v u Q I rx ry h
 obtain ⟨hs,q⟩:=h
 cases x with
 | non =>
  cases rx
  cases y with
  | non=>cases ry;exact PySem.EqNone.ne_none_none (yaS I q (by simp))
  | bl j=>cases ry;exact PySem.EqNone.ne_none_bool (yaS I q (by simp))
  | int j=>obtain ⟨t',rfl⟩:=ry;exact PySem.EqNone.ne_none_int (yaS I q (by simp))
  | str j=>obtain ⟨t',rfl⟩:=ry;exact PySem.EqNone.ne_none_str (yaS I q (by simp))
  | _=>exact absurd (show false=true from hs) Bool.false_ne_true
 | bl i =>
  cases rx
  cases y with
  | non=>cases ry;exact PySem.EqNone.ne_bool_none (yaS I q (by simp))
  | bl j=>cases ry;exact ne_bool (yaS I q (congrArg not yfr))
  | str j=>obtain ⟨t',rfl⟩:=ry;exact PySem.EqMixed.ne_bool_str (yaS I q (by simp))
  | _=>exact absurd (show false=true from hs) Bool.false_ne_true
 | int i =>
  obtain ⟨t,rfl⟩:=rx
  cases y with
  | non=>cases ry;exact PySem.EqNone.ne_int_none (yaS I q (by simp))
  | int j=>obtain ⟨t',rfl⟩:=ry;exact ne_int (yaS I q (congrArg not zfy))
  | str j=>obtain ⟨t',rfl⟩:=ry;exact PySem.EqMixed.ne_int_str (yaS I q (by simp))
  | _=>exact absurd (show false=true from hs) Bool.false_ne_true
 | str i =>
  obtain ⟨t,rfl⟩:=rx
  cases y with
  | non=>cases ry;exact PySem.EqNone.ne_str_none (yaS I q (by simp))
  | bl j=>cases ry;exact PySem.EqMixed.ne_str_bool (yaS I q (by simp))
  | int j=>obtain ⟨t',rfl⟩:=ry;exact PySem.EqMixed.ne_str_int (yaS I q (by simp))
  | str j=>obtain ⟨t',rfl⟩:=ry;exact ne_str (yaS I q (congrArg not zfz))
  | _=>exact absurd (show false=true from hs) Bool.false_ne_true
 | byt i =>
  obtain ⟨t,rfl⟩:=rx
  cases y with
  | byt j=>obtain ⟨t',rfl⟩:=ry;exact PySem.W.ne_bytes (yaS I q (congrArg not zfA))
  | _=>exact absurd (show false=true from hs) Bool.false_ne_true
 | _=>cases y<;>exact absurd (show false=true from hs) Bool.false_ne_true
theorem op_lt:OpR X (compareOp .Lt) (rI0 fun i j=>.bl (decide (i<j))):=opB0 fun _ _ _ _ _ _ _ q=>lt_int q
theorem op_le:OpR X (compareOp .LtE) (rI0 fun i j=>.bl (decide (i<=j))):=opB0 fun _ _ _ _ _ _ _ q=>le_int q
theorem yhH:OpR X (compareOp .Gt) (rI0 fun i j=>.bl (decide (j<i))):=opB0 fun _ _ _ _ _ _ _ q=>gt_int q
theorem yhI:OpR X (compareOp .GtE) (rI0 fun i j=>.bl (decide (j<=i))):=opB0 fun _ _ _ _ _ _ _ q=>ge_int q
theorem zgT:OpR X (compareOp .Lt) (fun x y H Q=>∃ i j,x = .str i/\y = .str j/\Q (.bl (decide (i.cps.toList<j.cps.toList))) H):=by
 intro pins s σ H x y v u Q I rx ry h
 obtain ⟨i,j,rfl,rfl,q⟩:=h
 obtain ⟨t,rfl⟩:=rx
 obtain ⟨t',rfl⟩:=ry
 exact lt_str (yaS I q rfl)
theorem OpR.or {f:Value->Value->Sem Value} {r r':R2} (h:OpR X f r) (h':OpR X f r'):OpR X f (fun x y H Q=>r x y H Q\/r' x y H Q):=by
 intro pins s σ H x y v u Q I rx ry q
 rcases q with q | q
 ·exact h pins s σ H x y v u Q I rx ry q
 ·exact h' pins s σ H x y v u Q I rx ry q
theorem yaq (b:Expr) {op:CmpOp} (h:op ≠ .In:=by decide) (h2:op ≠ .NotIn:=by decide):behindInMarks op b=false:=by
 have e1:(op == CmpOp.In)=false:=by cases op<;>first | rfl | exact absurd rfl h
 have e2:(op == CmpOp.NotIn)=false:=by cases op<;>first | rfl | exact absurd rfl h2
 cases b<;>simp [behindInMarks,e1,e2]
theorem ziR {op:CmpOp} {r:R2} (ho:OpR X (compareOp op) r) (ha:PE X a ta) (hb:PE X b tb) (hm:behindInMarks op b=false):PE X (.Compare a [op] [b] pos) (tOp r ta tb):=by
 intro pins s σ H Q I h
 exact wpAny_Compare1 (binT ha hb I h fun v u s2 x y H2 I2 rx ry q=>ho pins s2 σ H2 x y v u Q I2 rx ry q) hm
def yfc (t:TE):TT:=fun σ H Q=>t σ H fun x H' => ∃ k,x = .bl k/\Q k H'
theorem ziS {op:CmpOp} {r:R2} (ho:OpR X (compareOp op) r) (ha:PE X a ta) (hb:PE X b tb) (hm:behindInMarks op b=false):PT X (.Compare a [op] [b] pos) (yfc (tOp r ta tb)):=by
 intro pins s σ H Q I h
 refine wpAny_isTrue_Compare1 (thn (ha pins s σ H _ I h) fun v s1 ⟨x,H1,I1,r1,q1⟩=>thn (hb pins s1 σ H1 _ I1 q1) fun u s2 ⟨y,H2,I2,r2,q2⟩ =>
  thn (ho pins s2 σ H2 x y v u _ I2 r1 r2 q2) fun c s3 ⟨z,H3,I3,r3,k,e,q3⟩=>?_) hm
 subst e
 cases r3
 exact wpAny_truthy_bool ⟨H3,I3,q3⟩
def yeX (r r':R2) (ta tb tc:TE):TE:=fun σ H Q=>ta σ H fun x H1=>tb σ H1 fun y H2=>r x y H2 fun z H3=>∃ k,z = .bl k /\
 (if k=true then tc σ H3 fun w' H4=>r' y w' H4 Q else Q (.bl false) H3)
theorem zhK {op op':CmpOp} {r r':R2} (ho:OpR X (compareOp op) r) (ho':OpR X (compareOp op') r') (ha:PE X a ta) (hb:PE X b tb) (hc:PE X c tc)
  (hm:lastMarks [op,op'] [b,c]=false:=by with_unfolding_all rfl):PE X (.Compare a [op,op'] [b,c] pos) (yeX r r' ta tb tc):=by
 intro pins s σ H Q I h
 refine Compare_chain (thn (ha pins s σ H _ I h) fun v s1 ⟨x,H1,I1,r1,q1⟩=>chain_link (thn (hb pins s1 σ H1 _ I1 q1) fun u s2 ⟨y,H2,I2,r2,q2⟩ =>
  thn (ho pins s2 σ H2 x y v u _ I2 r1 r2 q2) fun d s3 ⟨z,H3,I3,r3,k,e,q3⟩=>?_)) hm
 subst e
 cases r3
 refine wpAny_truthy_bool ?_
 cases k with
 | false=>exact ite_ff ⟨.bl false,H3,I3,rfl,q3⟩
 | true=>exact ite_tt (chain_last (thn (hc pins s3 σ H3 _ I3 q3) fun w' s4 ⟨z',H4,I4,r4,q4⟩=>ho' pins s4 σ H4 y z' u w' Q I4 r2 r4 q4))
theorem zhL {op op':CmpOp} {r r':R2} (ho:OpR X (compareOp op) r) (ho':OpR X (compareOp op') r') (ha:PE X a ta) (hb:PE X b tb) (hc:PE X c tc)
  (hm:lastMarks [op,op'] [b,c]=false:=by with_unfolding_all rfl):PT X (.Compare a [op,op'] [b,c] pos) (yfc (yeX r r' ta tb tc)):=by
 intro pins s σ H Q I h
 refine isTrue_chain (thn (ha pins s σ H _ I h) fun v s1 ⟨x,H1,I1,r1,q1⟩=>test_link (thn (hb pins s1 σ H1 _ I1 q1) fun u s2 ⟨y,H2,I2,r2,q2⟩ =>
  thn (ho pins s2 σ H2 x y v u _ I2 r1 r2 q2) fun d s3 ⟨z,H3,I3,r3,k,e,q3⟩=>?_)) hm
 subst e
 cases r3
 refine wpAny_truthy_bool ?_
 cases k with
 | false =>
  obtain ⟨k',e',q'⟩:=q3
  cases e'
  exact ite_ff ⟨H3,I3,q'⟩
 | true =>
  refine ite_tt (test_last (thn (hc pins s3 σ H3 _ I3 q3) fun w' s4 ⟨z',H4,I4,r4,q4⟩=>thn (ho' pins s4 σ H4 y z' u w' _ I4 r2 r4 q4) fun d' s5 ⟨z2,H5,I5,r5,k2,e2,q5⟩=>?_))
  subst e2
  cases r5
  exact wpAny_truthy_bool ⟨H5,I5,q5⟩
def TruV (K:PySem.W.Frag) (x:V) (H:Hp) (k:Bool):Prop :=
 match x with
 | .non=>k=false
 | .bl b=>k=b
 | .int i=>k=(i != 0)
 | .str y=>y.length<=sizeLine/\k=((y.length:Int) != 0)
 | .byt y=>y.size<=sizeLine/\k=((y.size:Int) != 0)
 | .ref p=>(∃ xs,SqL K H p xs/\k = !xs.isEmpty)\/(∃ xs,SqT K H p xs/\k = !xs.isEmpty)\/∃ kvs,H p=some (.dK kvs)/\k = !kvs.isEmpty
 | _=>False
theorem zgi {κ:Type} {kvs:List (κ×V)} {vs:List (κ×Value)} (r:KV kvs vs):(!vs.isEmpty) = !kvs.isEmpty:=by
 cases r<;>rfl
theorem zdd {xs:List V} {its:List Value} (r:Vals xs its):(!its.toArray.isEmpty) = !xs.isEmpty:=by
 cases r<;>simp
theorem ydl:(sizeLine:Nat)<2 ^ 63:=by rw [sizeLine_eq];decide
theorem ygz:TruR X (fun x H Q=>∃ k,TruV X.K x H k/\Q k H):=by
 intro pins s σ H x v Q I rx h
 obtain ⟨k,e,q⟩:=h
 have hl:=ydl
 have hs:sizeLine=16777216:=sizeLine_eq
 cases x with
 | non =>
  cases rx
  have e':k=false:=e
  subst e'
  exact truthy_none ⟨H,I,q⟩
 | bl b =>
  cases rx
  have e':k=b:=e
  subst e'
  exact wpAny_truthy_bool ⟨H,I,q⟩
 | int i =>
  obtain ⟨t,rfl⟩:=rx
  have e':k=(i != 0):=e
  subst e'
  exact PySem.P.truthy_int ⟨H,I,q⟩
 | str y =>
  obtain ⟨t,rfl⟩:=rx
  obtain ⟨hy,e'⟩:y.length<=sizeLine/\k=((y.length:Int) != 0):=e
  subst e'
  exact PySem.P.truthy_str (by lia) ⟨H,I.tok _,q⟩
 | byt y =>
  obtain ⟨t,rfl⟩:=rx
  obtain ⟨hy,e'⟩:y.size<=sizeLine/\k=((y.size:Int) != 0):=e
  subst e'
  exact PySem.W.truthy_bytes (by lia) ⟨H,I.tok _,q⟩
 | ref p =>
  cases rx
  have e':(∃ xs,SqL X.K H p xs/\k = !xs.isEmpty)\/(∃ xs,SqT X.K H p xs/\k = !xs.isEmpty)\/∃ kvs,H p=some (.dK kvs)/\k = !kvs.isEmpty:=e
  rcases e' with ⟨xs,hx,e'⟩ | ⟨xs,hx,e'⟩ | ⟨kvs,hx,e'⟩
  ·subst e'
   obtain ⟨its,r,pl,hz⟩:=I.list hx
   have hlen:=r.length
   exact wpAny_truthy_list pl.isList (by simp only [List.size_toArray];lia) ⟨H,I.tok _,by rw [zdd r];exact q⟩
  ·subst e'
   obtain ⟨its,r,pl,hz⟩:=I.tuple hx
   have hlen:=r.length
   exact truthy_tuple pl (by simp only [List.size_toArray];lia) ⟨H,I.tok _,by rw [zdd r];exact q⟩
  ·subst e'
   obtain ⟨hz,hS,vs,r,m⟩:kvs.length<=sizeLine/\(p == sysModules)=false/\∃ vs,KV kvs vs/\s.heap.DictOf (ybl X.prog X.w) p vs:=I.hok p _ hx
   have hlen:kvs.length=vs.length:=Paired.length r
   exact wpAny_truthy_dict hS m (by lia) ⟨H,I.tok _,by rw [zgi r];exact q⟩
 | _=>exact (show False from e).elim
theorem zhM (ha:PE X a ta) (he:∀ whole,isTrue a X.env whole=(do let v <- whole;standAt a.pos;holding [v] (truthy v))) :
  PT X a (fun σ H Q=>ta σ H fun x H' => ∃ k,TruV X.K x H' k/\Q k H'):=by
 intro pins s σ H Q I h
 exact isTrue_plain (thn (ha pins s σ H _ I h) fun v s1 ⟨x,H1,I1,r1,q1⟩=>ygz pins s1 σ H1 x v Q I1 r1 q1) (he _)
theorem zgj:OpR X (binaryOp .Add) (fun x y H Q=>∃ i j,x = .str i/\y = .str j/\i.length+j.length<=sizeLine/\Q (.str (i++j)) H):=by
 intro pins s σ H x y v u Q I rx ry h
 obtain ⟨i,j,rfl,rfl,hz,q⟩:=h
 obtain ⟨t,rfl⟩:=rx
 obtain ⟨t',rfl⟩:=ry
 exact add_str (fun t' tk=>⟨.str (i++j),H,I.tok _,⟨_,rfl⟩,q⟩) hz
theorem ydx {x:V} {us:List Value} (r:Vals [x] us):∃ u,us=[u]/\RelV x u:=by
 cases r with
 | cons r1 r2=>cases r2;exact ⟨_,rfl,r1⟩
theorem yeO {x y:V} {us:List Value} (r:Vals [x,y] us):∃ u w',us=[u,w']/\RelV x u/\RelV y w' := by
 cases r with
 | cons r1 r2 =>
  cases r2 with
  | cons r3 r4=>cases r4;exact ⟨_,_,rfl,r1,r3⟩
theorem zhN:CallR X (.builtin "abs") (fun xs H Q=>∃ i,xs=[.int i]/\Q (.int (if i<0 then -i else i)) H):=by
 intro pins s σ H xs us Q I r h
 obtain ⟨i,rfl,q⟩:=h
 obtain ⟨u,rfl,t,rfl⟩:=ydx r
 exact call_abs_int fun u tk=>⟨.int (if i<0 then -i else i),H,I.tok _,⟨_,rfl⟩,q⟩
theorem zgU (hc:X.calm=true):CallR X (.builtin "max") (fun xs H Q=>∃ i j,xs=[.int i,.int j]/\Q (.int (if j > i then j else i)) H):=by
 intro pins s σ H xs us Q I r h
 obtain ⟨i,j,rfl,q⟩:=h
 obtain ⟨u,w',rfl,⟨t,rfl⟩,⟨t',rfl⟩⟩:=yeO r
 refine max_two_ints (I.ok.hd hc) fun h' tk k=>⟨_,H,I.kept k,?_,q⟩
 by_cases hj:j > i
 ·rw [if_pos hj,if_pos hj];exact ⟨_,rfl⟩
 ·rw [if_neg hj,if_neg hj];exact ⟨_,rfl⟩
theorem zgV (hc:X.calm=true):CallR X (.builtin "min") (fun xs H Q=>∃ i j,xs=[.int i,.int j]/\Q (.int (if j<i then j else i)) H):=by
 intro pins s σ H xs us Q I r h
 obtain ⟨i,j,rfl,q⟩:=h
 obtain ⟨u,w',rfl,⟨t,rfl⟩,⟨t',rfl⟩⟩:=yeO r
 refine min_two_ints (I.ok.hd hc) fun h' tk k=>⟨_,H,I.kept k,?_,q⟩
 by_cases hj:j<i
 ·rw [if_pos hj,if_pos hj];exact ⟨_,rfl⟩
 ·rw [if_neg hj,if_neg hj];exact ⟨_,rfl⟩
end
end L2
namespace L2
open PySem PySem.Spec PyProof.Rows
structure ObjM (h:Heap) (x dx C:Addr) (mA:Str->Option Value):Prop where
 obj:h.get? x=some (PySem.W.instObj C dx)
 ns:h.Ns1 dx mA
 ne:dx≠x
theorem zgW {h:Heap} {dx:Addr} {mA:Str->Option Value} (n:h.Ns1 dx mA):∃ od,h.get? dx=some od/\∀ name,PySem.W.lookIn name od=some (mA name):=by
 obtain ⟨o,es,ep,ho,hd,hk,_,hm⟩:=n
 refine ⟨o,ho,fun name=>?_⟩
 have e:=hm name
 unfold nsFind findBy at e
 rw [<- Array.find?_toList] at e
 unfold PySem.W.lookIn
 rw [hd]
 dsimp only
 split
 ·rename_i y q
  rw [q] at e
  exact congrArg some e
 ·rename_i q
  rw [q] at e
  have a:es.toList.any (·.refKey)=false:=by
   rw [List.any_eq_false]
   intro y hy
   obtain ⟨z,t,hkey⟩:=hk y (Array.mem_toList_iff.mp hy)
   simp [DictEntry.refKey,hkey]
  have a' : ¬ es.toList.any (·.refKey)=true:=by rw [a];exact Bool.false_ne_true
  rw [if_neg a']
  exact congrArg some e
theorem ObjM.look {h:Heap} {x dx C:Addr} {mA:Str->Option Value} (I:ObjM h x dx C mA):∃ od,PySem.W.InstAt h x (PySem.W.instObj C dx) C (some od)/\∀ name,PySem.W.lookIn name od=some (mA name) :=
 let ⟨od,ho,hl⟩:=zgW I.ns
 ⟨od,⟨I.obj,rfl,rfl,ho⟩,hl⟩
section
variable {prog:Program} {w:World} {A:Around} {E:Value->Shared->Prop} {s:Shared} {K:PySem.W.Frag} {x dx C f:Addr} {mA:Str->Option Value} {name:Str} {v:Value}
theorem ziT {expr:Bool} {Q:Value->Shared->Prop} (X:K.In s.heap) (I:ObjM s.heap x dx C mA) (hg:PySem.W.plainGet K C name=true) (hh:PySem.W.hasDictIn K C=true)
  (ha:PySem.W.findIn K (.ref C) name=some none) (hv:mA name=some v) (hv':PySem.W.handedIn v=true) (h:Q v { s with toks:=s.toks+1 }) :
  wpAny (model prog w) A (getAttr (.ref x) name expr) Q E s:=by
 obtain ⟨od,J,hl⟩:=I.look
 exact PySem.W.get_value X J (PySem.W.plainGet_of hg).1 (PySem.W.findObj_own hh ha rfl (by rw [hl,hv])) hv' h
theorem zhO {pl:Sem Bool} {Q:Value×List Value->Shared->Prop} (X:K.In s.heap) (I:ObjM s.heap x dx C mA) (hg:PySem.W.plainGet K C name=true)
  (hf:PySem.W.findIn K (.ref C) name=some (some (.ref f))) (ht:PySem.W.isFn K (.ref f)=true) (hv:mA name=none) (h:Q (.ref f,[.ref x]) s) :
  wpAny (model prog w) A (getMethod (.ref x) name pl) Q E s:=by
 obtain ⟨od,J,hl⟩:=I.look
 exact PySem.W.method_fn X J (PySem.W.plainGet_of hg).1 (PySem.W.plainGet_of hg).2 hf (beq_iff_eq.mp ht) (by show (PySem.W.lookIn name od).map (·.isSome)=some false;rw [hl,hv];rfl) h
theorem ziU {ns:List Str} {Q:Unit->Shared->Prop} (X:K.In s.heap) (I:ObjM s.heap x dx C mA)
  (hs:PySem.W.findIn K (.ref C) "__setattr__" = some (some (.builtin "object.__setattr__"))) (hp:PySem.W.plainOver K C=true) (ht:PySem.W.takerIn K C name=some none) (hh:PySem.W.hasDictIn K C=true)
  (hw:PySem.Within mA ns) (hsz:ns.length<=sizeLine)
  (h:∀ h',ObjM h' x dx C (fun y=>if y=name then some v else mA y)->Heap.SameBut dx s.heap h'->Q () { s with heap:=h',toks:=s.toks+2 }) :
  wpAny (model prog w) A (setAttr (.ref x) name v) Q E s:=by
 obtain ⟨od,J,hl⟩:=I.look
 refine PySem.W.set_plain X J hs (PySem.W.osa_open (s:={ s with toks:=s.toks+1 }) (r:=none) X J hp ht fun b=>?_)
 obtain ⟨cd,hc,hd'⟩:=PySem.W.any_some hh
 have hx:s.heap.get? x=some ⟨.ref C,some dx,.plain,#[]⟩:=I.obj
 refine wpAny_bind (wpAny_pure (wpAny_bind (wpAny_bind (wpAny_loadPart hx (wpAny_bind (PySem.W.Looks.here (s:={ s with toks:=s.toks+1 }) (PySem.W.looks_clsIn X hc) ?_))))))
 rw [hd']
 refine wpAny_pure (a:=some dx) (wpAny_bind (wpAny_pure (wpAny_bind ?_)))
 refine wpAny_nsSet1 (s:={ s with toks:=s.toks+1 }) I.ns fun h' hn2 hs2=>?_
 obtain ⟨oD,esD,epD,hoD,hdD,hcD⟩:=hn2.count (PySem.Within.cons name v hw)
 refine wpAny_bind (wpAny_lookBehind hoD (by rw [hdD];exact pastItsLine_dict (Nat.le_trans hcD (by rw [List.length_cons];lia))) ?_)
 exact wpAny_pure (h _ ⟨(hs2.2 _ (Ne.symm I.ne)).trans I.obj,hn2,I.ne⟩ hs2)
theorem zhP {R:Result->Shared->Prop} {vs:List Value} {kw:List (Str×Value)} (X:K.In s.heap) (hm:PySem.W.makesIn K C=true)
  (hi:PySem.W.findIn K (.ref C) "__init__" = some (some (.ref f))) (hf:PySem.W.typeIn K (.ref f)=some (.type "function"))
  (h:codeAny (model prog w) (A.under (.builtin "type.__call__" ⟨.ref C::vs,kw⟩)) (.call (.ref f) ⟨.ref (s.heap.objs.size+1)::vs,kw⟩) (PySem.W.InitBack (s.heap.objs.size+1) R)
   { s with heap:=(s.heap.push PySem.W.emptyDict).push (PySem.W.instObj C s.heap.objs.size) }) :
  codeAny (model prog w) A (.call (.ref C) ⟨vs,kw⟩) R s:=by
 obtain ⟨hh,g,d,t,os⟩:=s
 exact PySem.W.make_core (PySem.W.makes_of X hm) (PySem.W.looks_findIn X hi) (fun self=>PySem.W.bind_fn X self hf) (.inl rfl) h
end
def putF (f:Str) (v:V):List (Str×V)->List (Str×V)
 | []=>[(f,v)]
 | (g,x)::r=>if g=f then (g,v)::r else (g,x)::putF f v r
theorem za8 (f g:Str) (v:V):∀ fs:List (Str×V),(putF f v fs).lookup g=if g=f then some v else fs.lookup g
 | []=>by
  show List.lookup g [(f,v)]=_
  by_cases h:g=f
  ·have hb:(g == f)=true:=beq_iff_eq.mpr h
   simp only [List.lookup,hb,if_pos h]
  ·have hb:(g == f)=false:=beq_eq_false_iff_ne.mpr h
   simp only [List.lookup,hb,if_neg h]
 | (k,x)::r=>by
  have ih:=za8 f g v r
  rw [show putF f v ((k,x)::r)=(if k=f then (k,v)::r else (k,x)::putF f v r) from rfl]
  by_cases hk:k=f
  ·rw [if_pos hk]
   by_cases h:g=k
   ·have hb:(g == k)=true:=beq_iff_eq.mpr h
    simp only [List.lookup,hb,if_pos (h.trans hk)]
   ·have hb:(g == k)=false:=beq_eq_false_iff_ne.mpr h
    simp only [List.lookup,hb,if_neg (fun e:g=f=>h (e.trans hk.symm))]
  ·rw [if_neg hk]
   by_cases h:g=k
   ·have hb:(g == k)=true:=beq_iff_eq.mpr h
    simp only [List.lookup,hb,if_neg (fun e:g=f=>hk (h.symm.trans e))]
   ·have hb:(g == k)=false:=beq_eq_false_iff_ne.mpr h
    simp only [List.lookup,hb]
    exact ih
theorem zbX (f:Str) (v:V):∀ fs:List (Str×V),f∈(putF f v fs).map (·.1)/\∀ g,g∈fs.map (·.1)->g∈(putF f v fs).map (·.1)
 | []=>⟨by simp [putF],fun g h=>by simp at h⟩
 | (k,x)::r=>by
  obtain ⟨i1,i2⟩:=zbX f v r
  rw [show putF f v ((k,x)::r)=(if k=f then (k,v)::r else (k,x)::putF f v r) from rfl]
  by_cases hk:k=f
  ·rw [if_pos hk]
   subst hk
   exact ⟨by simp,fun g h=>by simpa using h⟩
  ·rw [if_neg hk]
   refine ⟨?_,fun g h=>?_⟩
   ·rw [List.map_cons]
    exact List.mem_cons_of_mem _ i1
   ·rw [List.map_cons] at h ⊢
    rcases List.mem_cons.mp h with e | e
    ·exact List.mem_cons.mpr (.inl e)
    ·exact List.mem_cons_of_mem _ (i2 g e)
theorem zcB (f:Str) (v:V):∀ fs:List (Str×V),(putF f v fs).length<=fs.length+1
 | []=>by simp [putF]
 | (k,x)::r=>by
  have ih:=zcB f v r
  rw [show putF f v ((k,x)::r)=(if k=f then (k,v)::r else (k,x)::putF f v r) from rfl]
  by_cases hk:k=f
  ·rw [if_pos hk,List.length_cons,List.length_cons];lia
  ·rw [if_neg hk,List.length_cons,List.length_cons];lia
theorem RelO.some_of {v:V} {o:Option Value} (r:RelO (some v) o):∃ u,o=some u/\RelV v u:=by
 cases o with
 | none=>exact (show False from r).elim
 | some u=>exact ⟨u,rfl,r⟩
theorem RelO.none_of {o:Option Value} (r:RelO none o):o=none:=by
 cases o with
 | none=>rfl
 | some u=>exact (show False from r).elim
theorem zgX {v:V} {u:Value} (r:RelV v u):PySem.W.handedIn u=true:=by
 cases v with
 | non=>cases (show u=Value.none from r);rfl
 | bl b=>cases (show u=Value.bool b from r);rfl
 | int i=>obtain ⟨t,e⟩:=(show ∃ t,u=Value.int i t from r);cases e;rfl
 | str x=>obtain ⟨t,e⟩:=(show ∃ t,u=Value.str x t from r);cases e;rfl
 | byt b=>obtain ⟨t,e⟩:=(show ∃ t,u=Value.bytes b t from r);cases e;rfl
 | flt b=>obtain ⟨t,e⟩:=(show ∃ t,u=Value.float b t from r);cases e;rfl
 | ref a=>cases (show u=Value.ref a from r);rfl
 | ty n=>cases (show u=Value.type n from r);rfl
section
variable {P:Program} {w:World} {H H':Hp} {h h':Heap} {a C dx:Addr} {fs fs':List (Str×V)}
theorem zcl (hok:HOk P w H h) (e:H a=some (.ins C dx fs)):∃ mA,ObjM h a dx C mA/\(∀ f,RelO (fs.lookup f) (mA f))/\PySem.Within mA (fs.map (·.1))/\fs.length<=1000/\H dx=some (.own a):=by
 obtain ⟨d,z,ne,ob,mA,n,r,q⟩:=(show ObjOk P w H h a (.ins C dx fs) from hok a _ e)
 exact ⟨mA,⟨ob,n,ne⟩,r,q,z,d⟩
end
structure Cls (K:PySem.W.Frag) (C:Addr):Prop where
 pg:PySem.W.plainGet K C Str.empty=true
 hd:PySem.W.hasDictIn K C=true
 po:PySem.W.plainOver K C=true
 sa:PySem.W.findIn K (.ref C) "__setattr__" = some (some (.builtin "object.__setattr__"))
theorem Cls.get {K:PySem.W.Frag} {C:Addr} (c:Cls K C) (f:Str):PySem.W.plainGet K C f=true:=c.pg
def NoAttr (K:PySem.W.Frag) (C:Addr) (f:Str):Prop:=PySem.W.findIn K (.ref C) f=some none
theorem NoAttr.taker {K:PySem.W.Frag} {C:Addr} {f:Str} (n:NoAttr K C f):PySem.W.takerIn K C f=some none:=by
 unfold PySem.W.takerIn
 rw [show PySem.W.findIn K (.ref C) f=some none from n]
 rfl
structure Meth (K:PySem.W.Frag) (C:Addr) (m:Str) (f:Addr):Prop where
 at_:PySem.W.findIn K (.ref C) m=some (some (.ref f))
 fn:PySem.W.isFn K (.ref f)=true
 kp:PySem.W.keepIn K (.ref f)=true
section
variable {X:Cx} {pins:List (Addr×Obj)} {σ:St} {H:Hp} {s:Shared} {a C dx:Addr} {fs:List (Str×V)} {f:Str} {v:V} {A:Around} {E:Value->Shared->Prop}
theorem zgk {b:Bool} {Q:Value->Shared->Prop} (I:Inv X pins σ H s) (e:H a=some (.ins C dx fs)) (c:Cls X.K C) (n:NoAttr X.K C f) (l:fs.lookup f=some v)
  (h:∀ u s',Inv X pins σ H s'->RelV v u->Q u s'):wpAny (model X.prog X.w) A (getAttr (.ref a) f b) Q E s:=by
 obtain ⟨mA,O,r,_,_,_⟩:=zcl I.hok e
 obtain ⟨u,hu,ru⟩:=RelO.some_of (v:=v) (o:=mA f) (by rw [<- l];exact r f)
 exact ziT I.kIn O (c.get f) c.hd n hu (zgX ru) (h u _ (I.tok _) ru)
theorem zde {m:Str} {g:Addr} {pl:Sem Bool} {Q:Value×List Value->Shared->Prop} (I:Inv X pins σ H s) (e:H a=some (.ins C dx fs)) (c:Cls X.K C) (k:Meth X.K C m g) (l:fs.lookup m=none)
  (h:Q (.ref g,[.ref a]) s):wpAny (model X.prog X.w) A (getMethod (.ref a) m pl) Q E s:=by
 obtain ⟨mA,O,r,_,_,_⟩:=zcl I.hok e
 have hn:mA m=none:=RelO.none_of (by rw [<- l];exact r m)
 exact zhO I.kIn O (c.get m) k.at_ k.fn hn h
theorem zgl {y:V} {u:Value} {Q:Unit->Shared->Prop} (I:Inv X pins σ H s) (e:H a=some (.ins C dx fs)) (c:Cls X.K C) (n:NoAttr X.K C f) (hl:fs.length<1000) (ry:RelV y u)
  (h:∀ s',Inv X pins σ (upd H a (.ins C dx (putF f y fs))) s'->Q () s'):wpAny (model X.prog X.w) A (setAttr (.ref a) f u) Q E s:=by
 obtain ⟨mA,O,r,wi,_,ho⟩:=zcl I.hok e
 have hz:(fs.map (·.1)).length<=sizeLine:=by rw [List.length_map,sizeLine_eq];lia
 refine ziU I.kIn O c.sa c.po n.taker c.hd wi hz fun h' O' sb=>h _ ?_
 have hd:∃ o,h'.get? dx=some o:=let ⟨o,_,_,e',_⟩:=O'.ns;⟨o,e'⟩
 refine I.write (x:=a) (e:=dx) (by rw [e];exact True.intro) (.inr ho) (fun b q hb z=>(sb.2 b hb).trans z) hd ?_
 refine ⟨by rw [yaC O.ne];exact ho,?_,O.ne,O'.obj,_,O'.ns,fun g=>?_,fun g hg=>?_⟩
 ·have:=zcB f y fs;lia
 ·show RelO ((putF f y fs).lookup g) (if g=f then some u else mA g)
  rw [za8]
  by_cases q:g=f
  ·rw [if_pos q,if_pos q];exact ry
  ·rw [if_neg q,if_neg q];exact r g
 ·by_cases q:g=f
  ·rw [q];exact (zbX f y fs).1
  ·refine (zbX f y fs).2 g (wi g fun z=>hg ?_)
   show (if g=f then some u else mA g)=none
   rw [if_neg q];exact z
theorem Inv.made (I:Inv X pins σ H s):Inv X pins σ (upd (upd H s.heap.objs.size (.own (s.heap.objs.size+1))) (s.heap.objs.size+1) (.ins C s.heap.objs.size []))
  { s with heap:=(s.heap.push PySem.W.emptyDict).push (PySem.W.instObj C s.heap.objs.size) }:=by
 have e1:(s.heap.push PySem.W.emptyDict).get? s.heap.objs.size=some PySem.W.emptyDict:=Heap.get?_push_size s.heap rfl
 have e2:((s.heap.push PySem.W.emptyDict).push (PySem.W.instObj C s.heap.objs.size)).get? (s.heap.objs.size+1)=some (PySem.W.instObj C s.heap.objs.size):=by
  have:=Heap.get?_push_size (s.heap.push PySem.W.emptyDict) (o:=PySem.W.instObj C s.heap.objs.size) rfl
  rwa [Heap.size_push] at this
 have e3:(s.heap.push PySem.W.emptyDict).Ns s.heap.objs.size (fun _=>none):=⟨PySem.W.emptyDict,#[],_,e1,rfl,(fun e he=>absurd he (by simp)),fun _=>rfl⟩
 have I1:=I.laid (a:=s.heap.objs.size) (o:=.own (s.heap.objs.size+1)) (h' := s.heap.push PySem.W.emptyDict) (t' := s.toks) (fun b u q=>Heap.get?_push_of_some _ q) (Nat.le_refl _) ⟨_,e1⟩
 refine I1.laid (a:=s.heap.objs.size+1) (o:=.ins C s.heap.objs.size []) (t' := s.toks) (fun b u q=>Heap.get?_push_of_some _ q) (Nat.le_of_eq (Heap.size_push _ _)) ?_
 have ne:s.heap.objs.size≠s.heap.objs.size+1:=Nat.ne_of_lt (Nat.lt_succ_self _)
 refine ⟨by rw [yaC ne,zat],Nat.zero_le _,ne,e2,fun _=>none,(Heap.Ns1.of_empty e3).at fun o q=>Heap.get?_push_of_some _ q,fun _=>True.intro,fun y hy=>absurd rfl hy⟩
theorem ziV {prog:Program} {w:World} {env:Env} {e:Expr} {f:Str} {pos:Pos} {s:Shared} {Q:Value->Shared->Prop} (hb:attributeBase e f env (eval e env)=eval e env)
  (h:wpAny (model prog w) A (eval e env) (fun o s₁=>wpAny (model prog w) A (getAttr o f true) Q E s₁) E s):wpAny (model prog w) A (eval (.Attribute e f pos) env) Q E s :=
 Attribute_any_ h (by rw [arm_eval_Attribute,hb])
end
def tFld (K:PySem.W.Frag) (ta:TE) (f:Str):TE:=fun σ H Q=>ta σ H fun x H1=>∃ a C dx fs v,x = .ref a/\H1 a=some (.ins C dx fs)/\Cls K C/\NoAttr K C f/\fs.lookup f=some v/\Q v H1
def sFld (K:PySem.W.Frag) (ta tv:TE) (f:Str):TS:=fun D σ H=>tv σ H fun y H1=>ta σ H1 fun x H2=>∃ a C dx fs,x = .ref a/\H2 a=some (.ins C dx fs)/\Cls K C/\NoAttr K C f/\fs.length<1000 /\
 D.nx σ (upd H2 a (.ins C dx (putF f y fs)))
section
variable {X:Cx} {o e value:Expr} {f:Str} {pos pos' tpos:Pos} {ta tv:TE}
theorem ygA (he:PE X e ta) (hb:attributeBase e f X.env (eval e X.env)=eval e X.env):PE X (.Attribute e f pos) (tFld X.K ta f):=by
 intro pins s σ H Q I h
 refine ziV hb (thn (he pins s σ H _ I h) fun u s1 ⟨x,H1,I1,rx,a,C,dx,fs,v,ex,ea,c,n,l,q⟩=>?_)
 subst ex
 obtain rfl:u=Value.ref a:=rx
 exact zgk I1 ea c n l fun u' s2 I2 ru=>⟨v,H1,I2,ru,q⟩
theorem ygB (ha:PE X o ta) (hv:PE X value tv) (hs:swapsWith value (some (.Attribute o f pos')) pos.line X.env=pure false):PS X (.Assign [.Attribute o f pos'] value pos) (sFld X.K ta tv f):=by
 intro pins s σ H D I h
 refine plainObj_wpAny_Assign_Attribute (thn (hv pins s σ H _ I h) fun u s1 ⟨y,H1,I1,ry,q⟩=>thn (ha pins s1 σ H1 _ I1 q) fun ov s2 ⟨x,H2,I2,rx,a,C,dx,fs,ex,ea,c,n,l,q2⟩=>?_) hs
 subst ex
 obtain rfl:ov=Value.ref a:=rx
 exact zgl I2 ea c n l ry fun s3 I3=>⟨σ,_,I3,q2⟩
end
section
variable {X:Cx} {pins:List (Addr×Obj)} {σ:St} {H:Hp} {s:Shared} {A:Around} {E:Value->Shared->Prop} {Q:Value->Shared->Prop} {c:Value} {b:Bool}
inductive TyOf (K:PySem.W.Frag) (H:Hp):V->Value->Prop where
 | non:TyOf K H .non (.type "NoneType")
 | bl (x:Bool):TyOf K H (.bl x) (.type "bool")
 | int (i:Int):TyOf K H (.int i) (.type "int")
 | str (x:Str):TyOf K H (.str x) (.type "str")
 | flt (x:UInt64):TyOf K H (.flt x) (.type "float")
 | lst {a:Addr} {xs:List V} (e:H a=some (.lst xs)):TyOf K H (.ref a) (.type "list")
 | frz {a:Addr} {o:Obj} {xs:List V} (e:H a=some (.frz o (.lst xs))):TyOf K H (.ref a) (.type "list")
 | tup {a:Addr} {xs:List V} (e:H a=some (.tup xs)):TyOf K H (.ref a) (.type "tuple")
 | dK {a:Addr} {kvs:List (Key×V)} (e:H a=some (.dK kvs)):TyOf K H (.ref a) (.type "dict")
 | dT {a:Addr} {kvs:List (List Key×V)} (e:H a=some (.dT kvs)):TyOf K H (.ref a) (.type "dict")
 | ins {a C dx:Addr} {fs:List (Str×V)} (e:H a=some (.ins C dx fs)) (cl:Cls K C) (ha:PySem.W.findIn K (.ref C) "__class__" = some (some (.builtin "object.__class__")))
   (hn:PySem.W.specialIn K (.builtin "object.__class__") "__get__" = some (some (.builtin "getset_descriptor.__get__"))) (htk:PySem.W.takesIn K (.builtin "object.__class__")=some true)
   (hm:PySem.W.mroIn K C (.type "object")=some true):TyOf K H (.ref a) (.ref C)
theorem zgY {x:V} {u t:Value} (I:Inv X pins σ H s) (rx:RelV x u) (ty:TyOf X.K H x t) (e:PySem.W.kitOne X.K t c=some b) (h:∀ tk,Q (.bool b) { s with toks:=tk }) :
  wpAny (model X.prog X.w) A (call (.builtin "isinstance") [u,c]) Q E s:=by
 cases ty with
 | non=>cases (show u=Value.none from rx);exact PySem.W.kia_one PySem.W.kitx_none I.kIn True.intro e (fun z=>nomatch z) h
 | bl y=>cases (show u=Value.bool y from rx);exact PySem.W.kia_one PySem.W.kitx_bool I.kIn True.intro e (fun z=>nomatch z) h
 | int i=>obtain ⟨t,q⟩:=(show ∃ t,u=Value.int i t from rx);cases q;exact PySem.W.kia_one PySem.W.kitx_int I.kIn True.intro e (fun z=>nomatch z) h
 | str y=>obtain ⟨t,q⟩:=(show ∃ t,u=Value.str y t from rx);cases q;exact PySem.W.kia_one PySem.W.kitx_str I.kIn True.intro e (fun z=>nomatch z) h
 | flt y=>obtain ⟨t,q⟩:=(show ∃ t,u=Value.float y t from rx);cases q;exact PySem.W.kia_one PySem.W.kitx_float I.kIn True.intro e (fun z=>nomatch z) h
 | @lst a xs ea =>
  cases (show u=Value.ref a from rx)
  obtain ⟨_,_,n,_,h1⟩:=(show ObjOk X.prog X.w H s.heap a (.lst xs) from I.hok a _ ea)
  exact PySem.W.kia_one PySem.W.kitx_list I.kIn ⟨_,h1,rfl⟩ e (fun z=>nomatch z) h
 | @frz a ob xs ea =>
  cases (show u=Value.ref a from rx)
  obtain ⟨_,_,_,n,_,h1⟩:=(show ObjOk X.prog X.w H s.heap a (.frz ob (.lst xs)) from I.hok a _ ea)
  exact PySem.W.kia_one PySem.W.kitx_list I.kIn ⟨_,h1,rfl⟩ e (fun z=>nomatch z) h
 | @tup a xs ea =>
  cases (show u=Value.ref a from rx)
  obtain ⟨_,_,_,p⟩:=(show ObjOk X.prog X.w H s.heap a (.tup xs) from I.hok a _ ea)
  obtain ⟨o,h1,h2,_⟩:=p
  exact PySem.W.kia_one PySem.W.kitx_tuple I.kIn ⟨o,h1,h2⟩ e (fun z=>nomatch z) h
 | @dK a kvs ea =>
  cases (show u=Value.ref a from rx)
  obtain ⟨_,_,vs,_,p⟩:=(show ObjOk X.prog X.w H s.heap a (.dK kvs) from I.hok a _ ea)
  obtain ⟨o,es,ep,h1,h2,_⟩:=p
  exact PySem.W.kia_one PySem.W.kitx_dict I.kIn ⟨o,h1,h2.1⟩ e (fun z=>nomatch z) h
 | @dT a kvs ea =>
  cases (show u=Value.ref a from rx)
  obtain ⟨_,_,xs,_,o,es,ep,h1,h2,_⟩:=(show ObjOk X.prog X.w H s.heap a (.dT kvs) from I.hok a _ ea)
  exact PySem.W.kia_one PySem.W.kitx_dict I.kIn ⟨o,h1,h2.1⟩ e (fun z=>nomatch z) h
 | @ins a C dx fs ea cl ha hn htk hm =>
  cases (show u=Value.ref a from rx)
  obtain ⟨mA,O,_⟩:=zcl I.hok ea
  obtain ⟨od,J,_⟩:=O.look
  exact PySem.W.kia_one (PySem.W.kitx_own (cl.get _) cl.hd ha hn htk hm) I.kIn J e (fun z=>nomatch z) h
end
end L2
namespace L2
open PySem PySem.Spec PyProof.Rows
structure Room (k:Nat) (A:Around):Prop where
 hd:A.handled=none
 dp:A.depth+3*k+5<recursionLimit
 un:A.units+16*k+200<cLine
theorem Room.mono {j k:Nat} {A:Around} (r:Room k A) (h:j<=k):Room j A:=⟨r.hd,by have:=r.dp;lia,by have:=r.un;lia⟩
theorem Room.deeper {k:Nat} {A:Around} (r:Room (k+1) A) (env:Env):Room k (A.deeper env) :=
 ⟨r.hd,by have:=r.dp;show A.depth+1+3*k+5<_;lia,by have:=r.un;show A.units+3+16*k+200<_;lia⟩
theorem zgm {A:Around} {C:Addr} {us:List Value} {kw:List (Str×Value)}:(A.under (.builtin "type.__call__" ⟨.ref C::us,kw⟩)).depth=A.depth+1:=by
 first | rfl | simp [Around.under,Code.weight,Code.isCreation,Code.isGuard,Code.isCaller,Code.frames,Code.isFrame,guardIds]
theorem zgn {A:Around} {C:Addr} {us:List Value} {kw:List (Str×Value)}:(A.under (.builtin "type.__call__" ⟨.ref C::us,kw⟩)).units=A.units+1:=by
 first | rfl | simp [Around.under,Code.cUnits,Code.frames,Code.isFrame]
theorem Room.make {k:Nat} {A:Around} (r:Room (k+1) A) (C:Addr) (us:List Value) (kw:List (Str×Value)):Room k (A.under (.builtin "type.__call__" ⟨.ref C::us,kw⟩)) :=
 ⟨r.hd,by have:=r.dp;rw [zgm];lia,by have:=r.un;rw [zgn];lia⟩
theorem Room.depth {k:Nat} {A:Around} (r:Room k A):A.depth<recursionLimit:=by have:=r.dp;lia
def tNil:TA:=fun _ H Q=>Q [] H
def yhJ (ta:TE) (tr:TA):TA:=fun σ H Q=>ta σ H fun x H1=>tr σ H1 fun xs H2=>Q (x::xs) H2
section
variable {X:Cx} {e:Expr} {es:List Expr} {te:TE} {t:TA} {pos:Pos}
theorem yfs:PA X [] tNil:=fun _ _ _ _ H Q I h=>Calls.spliced_nil ⟨[],H,I,.nil,h⟩
theorem zdv (ha:PE X e te) (hr:PA X es t) (hs:starEach (e::es) X.env=(false,eval e X.env)::starEach es X.env:=by rfl):PA X (e::es) (yhJ te t):=by
 intro pos pins s σ H Q I h
 rw [hs]
 show wpAny _ _ (spliced ((false,eval e X.env)::backTo pos (starEach es X.env))) _ _ s
 refine Calls.spliced_cons (thn (ha pins s σ H _ I h) fun u s1 ⟨x,H1,I1,r1,q1⟩=>?_)
 exact thn (hr pos pins s1 σ H1 _ I1 q1) fun us s2 ⟨xs,H2,I2,r2,q2⟩=>⟨x::xs,H2,I2,.cons r1 r2,q2⟩
def tTup (t:TA):TE:=fun σ H Q=>t σ H fun xs H1=>xs.length<=sizeLine/\∀ p,H1 p=none->Q (.ref p) (upd H1 p (.tup xs))
def tLst (t:TA):TE:=fun σ H Q=>t σ H fun xs H1=>xs.length<=sizeLine/\∀ p,H1 p=none->Q (.ref p) (upd H1 p (.lst xs))
theorem ygC {x1} (h:PA X es t):PE X (.Tuple es x1 pos) (tTup t):=by
 intro pins s σ H Q I hq
 refine wpAny_Tuple_spliced (thn (h pos pins s σ H _ I hq) fun us s1 ⟨xs,H1,I1,r,z,q⟩=>⟨by rw [<- r.length];exact z,?_⟩)
 have hf:H1 s1.heap.objs.size=none:=I1.hok.fresh (Nat.le_refl _)
 refine ⟨.ref s1.heap.objs.size,upd H1 s1.heap.objs.size (.tup xs),I1.laid (t' := s1.toks) (fun b u e=>Heap.get?_push_of_some _ e) (Nat.le_refl _) ?_,rfl,q _ hf⟩
 exact ⟨z,us,r,⟨_,Heap.get?_push_size _ rfl,rfl,_,rfl⟩⟩
theorem yft (h:PA X es t):PE X (.List es pos) (tLst t):=by
 intro pins s σ H Q I hq
 refine wpAny_List_spliced (thn (h pos pins s σ H _ I hq) fun us s1 ⟨xs,H1,I1,r,z,q⟩=>⟨by rw [<- r.length];exact z,?_⟩)
 have hf:H1 s1.heap.objs.size=none:=I1.hok.fresh (Nat.le_refl _)
 refine ⟨.ref s1.heap.objs.size,upd H1 s1.heap.objs.size (.lst xs),I1.laid (t' := s1.toks) (fun b u e=>Heap.get?_push_of_some _ e) (Nat.le_refl _) ?_,rfl,q _ hf⟩
 exact ⟨z,us,0,r,Heap.get?_push_size _ rfl⟩
end
abbrev Sp:=List V->Hp->VK->XK->Prop
abbrev CXT:=List Env->Hp->Shared->XK->Value->Shared->Prop
structure Env0 (P:Program) (w:World) (K:PySem.W.Frag) (mg:Str->Option Value) (base:Heap) (A:Around) (outer:List Env) (s:Shared) (H:Hp):Prop where
 frames:A.frames=some outer
 mod:Mod K mg base
 bs:∀ b o,base.get? b=some o->s.heap.get? b=some o/\H b=none
 bsz:base.objs.size<=s.heap.objs.size
 funs:s.heap.FunFrames base outer
 frf:∀ b∈frs outer,H b=none
 hok:HOk P w H s.heap
 bare:AllBare s.gens
def CE (outer:List Env) (P:Program) (w:World) (H:Hp) (s:Shared) (Q:VK) (u:Value) (s':Shared):Prop :=
 ∃ v H',s'.os=s.os/\AllBare s'.gens/\Un (frs outer) [] H H' s.heap s'.heap/\HOk P w H' s'.heap/\RelV v u/\Q v H'
def CR (CX:CXT) (outer:List Env) (P:Program) (w:World) (H:Hp) (s:Shared) (Q:VK) (E:XK) (r:Result) (s':Shared):Prop :=
 match r with
 | .ok (.ret u)=>CE outer P w H s Q u s'
 | .ok _=>False
 | .error e=>CX outer H s E e s'
structure FnOk (P:Program) (w:World) (K:PySem.W.Frag) (mg:Str->Option Value) (base:Heap) (CX:CXT) (k:Nat) (f:Addr) (fd:FuncData) (ps:List Str) (sp:Sp):Prop where
 len:∀ vs H Q E,sp vs H Q E->vs.length=ps.length
 run:∀ (A:Around) (outer:List Env) (s:Shared) (H:Hp) (args:Args) (us:List Value) (vs:List V) (Q:VK) (E:XK),Room k A->Env0 P w K mg base A outer s H->BindsTo s fd args (ps.zip us)->Vals vs us->sp vs H Q E ->
  codeAny (model P w) A (.call (.ref f) args) (CR CX outer P w H s Q E) s
theorem FnOk.imp {P:Program} {w:World} {K:PySem.W.Frag} {mg:Str->Option Value} {base:Heap} {CX:CXT} {k:Nat} {f:Addr} {fd:FuncData} {ps:List Str} {sp sp':Sp} (F:FnOk P w K mg base CX k f fd ps sp)
  (h:∀ vs H Q E,sp' vs H Q E->sp vs H Q E):FnOk P w K mg base CX k f fd ps sp' :=
 ⟨fun vs H Q E q=>F.len vs H Q E (h _ _ _ _ q),fun A outer s H args us vs Q E hr he hb hv hs=>F.run A outer s H args us vs Q E hr he hb hv (h _ _ _ _ hs)⟩
theorem Env0.make {P:Program} {w:World} {K:PySem.W.Frag} {mg:Str->Option Value} {base:Heap} {A:Around} {outer:List Env} {s:Shared} {H:Hp} (e:Env0 P w K mg base A outer s H) (C:Addr) (us:List Value) (kw:List (Str×Value)) :
  Env0 P w K mg base (A.under (.builtin "type.__call__" ⟨.ref C::us,kw⟩)) outer s H:=⟨by first | exact e.frames | (simpa [Around.under,Code.envs,Code.isFrame,pushEnvs] using e.frames),e.mod,e.bs,e.bsz,e.funs,e.frf,e.hok,e.bare⟩
section
variable {X:Cx} {pins:List (Addr×Obj)} {σ:St} {H:Hp} {s s':Shared}
theorem Inv.env0 (I:Inv X pins σ H s):Env0 X.prog X.w X.K X.mg X.base X.A X.stack s H :=
 ⟨I.ok.frames,I.ok.mod,I.bs,Nat.le_trans I.ok.bsz I.sz,I.stack,I.stkFree,I.hok,I.bare⟩
theorem Inv.after {Q:VK} {u:Value} (I:Inv X pins σ H s) (h:CE X.stack X.prog X.w H s Q u s'):EP X pins σ Q u s' := by
 obtain ⟨v,H',os,bare,un,hok,r,q⟩:=h
 obtain ⟨hh,g,d,t,os'⟩:=s'
 obtain rfl:os'=s.os:=os
 exact ⟨v,H',I.call (h' := hh) (g' := g) (d' := d) (t' := t) (ch:=[]) un hok bare (fun b z=>absurd z (by simp)),r,q⟩
end
def Binds (K:PySem.W.Frag) (fd:FuncData) (ps:List Str) (ds:List Value):Prop :=
 ∀ (s:Shared) (us:List Value),K.In s.heap->(us++ds).length=ps.length->BindsTo s fd ⟨us,[]⟩ (ps.zip (us++ds))
theorem Binds.all {K:PySem.W.Frag} {fd:FuncData} {ps:List Str} (h:∀ us:List Value,us.length=ps.length->bindArgs fd ⟨us,[]⟩=pure (ps.zip us)):Binds K fd ps []:=fun s us _ hl=>by
 rw [List.append_nil] at hl ⊢
 exact .of_eq (h us hl)
def ygD (CX:CXT) (X:Cx) (E:XK):Prop:=∀ (pins:List (Addr×Obj)) (σ:St) (H:Hp) (s:Shared) (e:Value) (s':Shared),Inv X pins σ H s->CX X.stack H s E e s'->X.xe e s'
section
variable {X:Cx} {CX:CXT} {k:Nat} {f C:Addr} {fd:FuncData} {ps:List Str} {sp:Sp} {dvs:List V} {ds:List Value} {E:XK} {x m:Str} {p pos apos:Pos} {e o:Expr} {es:List Expr} {ta:TE} {t:TA}
structure Mk (K:PySem.W.Frag) (C f:Addr):Prop where
 makes:PySem.W.makesIn K C=true
 init:PySem.W.findIn K (.ref C) "__init__" = some (some (.ref f))
 fn:PySem.W.isFn K (.ref f)=true
 kp:PySem.W.keepIn K (.ref C)=true
end
section
variable {X:Cx} {CX:CXT} {k:Nat} {f C:Addr} {fd:FuncData} {ps ks:List Str} {sp:Sp} {E:XK} {x m:Str} {p pos apos kpos:Pos} {e o:Expr} {es:List Expr} {kws:List Keyword} {te ta:TE} {t tk:TA} {nm:Option Str}
variable {g:List Value->List Value->List Value} {gV:List V->List V->List V}
end
structure FnScope (N P:List Str) (sc:Scope):Prop where
 kind:sc.kind = .function
 co:sc.isCoroutine=false
 gen:sc.isGenerator=false
 nd:N.Nodup
 pre:N.take P.length=P
 par:∀ x∈P,sc.names.lookup x=some .local\/sc.names.lookup x=some .cell
 nofree:∀ y∈sc.names,y.2 ≠ .free
theorem zdT {kindOf:Str->Option NameKind} {x:Str}:∀ {binds:List (Str×Value)} {m:Str->Option Value},(∀ v,(x,v)∉binds)->bindL kindOf binds m x=m x
 | [],_,_=>rfl
 | (n,v)::r,m,h=>by
  unfold bindL
  rw [zdT fun w hw=>h w (List.mem_cons_of_mem _ hw)]
  split
  ·have:x≠n:=by rintro rfl;exact h v List.mem_cons_self
   simp [this]
  ·rfl
theorem zdU {kindOf:Str->Option NameKind} {x:Str}:∀ {binds:List (Str×Value)} {m:Str->Option Value},(∀ v,(x,v)∉binds)->bindC kindOf binds m x=m x
 | [],_,_=>rfl
 | (n,v)::r,m,h=>by
  unfold bindC
  rw [zdU fun w hw=>h w (List.mem_cons_of_mem _ hw)]
  split
  ·rfl
  ·have:x≠n:=by rintro rfl;exact h v List.mem_cons_self
   simp [this]
theorem zdV {kindOf:Str->Option NameKind} {x:Str} {v:Value}:∀ {P:List Str} {vs:List Value} {i:Nat} {m:Str->Option Value},P.Nodup->P[i]? = some x->vs[i]? = some v->kindOf x=some .local ->
  bindL kindOf (P.zip vs) m x=some v
 | [],_,_,_,_,h,_,_=>by simp at h
 | _::_,[],_,_,_,_,h,_=>by simp at h
 | p::P,w::vs,0,m,nd,h1,h2,hk=>by
  simp at h1 h2;subst h1;subst h2
  show bindL kindOf ((p,w)::P.zip vs) m p=_
  unfold bindL
  rw [zdT fun v hv=>(List.nodup_cons.mp nd).1 (List.of_mem_zip hv).1,if_pos hk]
  simp
 | p::P,w::vs,i+1,m,nd,h1,h2,hk=>by
  show bindL kindOf ((p,w)::P.zip vs) m x=_
  unfold bindL
  exact zdV (i:=i) (List.nodup_cons.mp nd).2 (by simpa using h1) (by simpa using h2) hk
theorem zdW {kindOf:Str->Option NameKind} {x:Str} {v:Value}:∀ {P:List Str} {vs:List Value} {i:Nat} {m:Str->Option Value},P.Nodup->P[i]? = some x->vs[i]? = some v->kindOf x≠some .local ->
  bindC kindOf (P.zip vs) m x=some v
 | [],_,_,_,_,h,_,_=>by simp at h
 | _::_,[],_,_,_,_,h,_=>by simp at h
 | p::P,w::vs,0,m,nd,h1,h2,hk=>by
  simp at h1 h2;subst h1;subst h2
  show bindC kindOf ((p,w)::P.zip vs) m p=_
  unfold bindC
  rw [zdU fun v hv=>(List.nodup_cons.mp nd).1 (List.of_mem_zip hv).1,if_neg hk]
  simp
 | p::P,w::vs,i+1,m,nd,h1,h2,hk=>by
  show bindC kindOf ((p,w)::P.zip vs) m x=_
  unfold bindC
  exact zdW (i:=i) (List.nodup_cons.mp nd).2 (by simpa using h1) (by simpa using h2) hk
def start (N:List Str) (vs:List V):St:=vs.map some++List.replicate (N.length-vs.length) none
def cxOf (CX:CXT) (P:Program) (w:World) (K:PySem.W.Frag) (mg:Str->Option Value) (base:Heap) (N:List Str) (qual:Str) (scope:Scope) (f:Addr) (cd:Value) (A:Around) (outer:List Env) (s:Shared) (H:Hp) (E:XK):Cx where
 prog:=P
 w:=w
 K:=K
 mg:=mg
 base:=base
 A:=A.deeper (envOfC qual scope s.heap.objs.size f cd)
 N:=N
 s₀:=s
 H₀:=H
 env:=envOfC qual scope s.heap.objs.size f cd
 outer:=outer
 stack:=envOfC qual scope s.heap.objs.size f cd::outer
 ex:=[]
 calm:=true
 fn:=fun _=>true
 pn:=[]
 xe:=fun e s' => wpAny (model P w) (A.deeper (envOfC qual scope s.heap.objs.size f cd)) (leaving (envOfC qual scope s.heap.objs.size f cd) e) (fun _ s'' => CX outer H s E e s'') (fun e' s'' => CX outer H s E e' s'') s'
theorem zew {sc:Scope} {n:Nat} {x:Str} (h:sc.names.lookup x=some .cell):∃ c,(cellsFrom n sc.names []).lookup x=some c:=by
 have q:=PySem.W.cellsFrom_some sc.names n [] (.inl h)
 exact Option.isSome_iff_exists.mp q
theorem zgZ {CX:CXT} {P:Program} {w:World} {K:PySem.W.Frag} {mg:Str->Option Value} {base:Heap} {N ps:List Str} {qual:Str} {scope:Scope} {f:Addr} {cd:Value} {A:Around} {outer:List Env} {s s1:Shared} {H:Hp} {E:XK} {us:List Value} {vs:List V}
  (S:FnScope N ps scope) (hd:A.handled=none) (e0:Env0 P w K mg base A outer s H) (hl:vs.length=ps.length) (r:Vals vs us)
  (x:InCallC s s.heap.objs.size (bindL (envOfC qual scope s.heap.objs.size f cd).kindOf (ps.zip us) fun _=>none) (cellsFrom (s.heap.objs.size+1) scope.names []) (bindC (envOfC qual scope s.heap.objs.size f cd).kindOf (ps.zip us) fun _=>none) s1) :
  Inv (cxOf CX P w K mg base N qual scope f cd A outer s H E) [] (start N vs) H s1:=by
 have hpl:ps.length<=N.length:=by have:=congrArg List.length S.pre;rw [List.length_take] at this;lia
 obtain ⟨h1,tk,rfl,hk⟩:=x.done
 have noA:∀ b:Addr,b∉(cxOf CX P w K mg base N qual scope f cd A outer s H E).ex:=fun b z=>absurd (show b∈([]:List Addr) from z) (by simp)
 refine ⟨⟨e0.mod,S.kind,rfl,rfl,Nat.le_refl _,fun y z c h1 h2=>?_,fun y hy=>?_,fun y c _ h=>?_,fun _=>hd,Around.frames_deeper e0.frames,.inr ⟨rfl,rfl⟩,fun b z=>absurd z (noA b),e0.bs,e0.bsz,fun b _ _=>noA b,fun b z=>absurd z (noA b),e0.funs,e0.frf⟩,
  rfl,e0.bare,Un.kept hk,⟨_,x.toInCall.ns,fun i y v h1 h2 h3=>?_⟩,fun y c h=>⟨_,x.cell y c h⟩,e0.hok.fresh (Nat.le_refl _),fun y c h=>?_,fun p hp=>absurd (show p∈([]:List (Addr×Obj)) from hp) (by simp),e0.hok.kept hk,?_⟩
 ·exact name_of_addr x.apart (PySem.mem_of_lookup h1) (PySem.mem_of_lookup h2)
 ·have hy:scope.names.lookup y=some .cell\/scope.names.lookup y=some .free:=hy
  rcases hy with hy | hy
  ·exact zew hy
  ·exact absurd rfl (S.nofree _ (PySem.mem_of_lookup hy))
 ·exact Nat.le_of_lt (x.above y c (PySem.mem_of_lookup h))
 ·have hi:i<vs.length:=by
   unfold start at h2
   by_cases hi:i<vs.length
   ·exact hi
   ·rw [List.getElem?_append_right (by simpa using hi)] at h2
    rw [List.getElem?_replicate] at h2
    split at h2<;>cases h2
  have ha:vs[i]? = some v:=by
   unfold start at h2
   rw [List.getElem?_append_left (by simpa using hi),List.getElem?_map] at h2
   cases e:vs[i]? with
   | none=>rw [e] at h2;cases h2
   | some a=>rw [e] at h2;cases h2;rfl
  obtain ⟨u,hu,rv⟩:=r.get ha
  have hp:ps[i]? = some y:=by
   rw [<- S.pre,List.getElem?_take_of_lt (by lia)];exact h1
  have ndP:ps.Nodup:=by rw [<- S.pre];exact S.nd.sublist (List.take_sublist _ _)
  refine ⟨u,rv,?_⟩
  rcases S.par y (List.mem_of_getElem? hp) with k | k
  ·exact .inl ⟨k,zdV ndP hp hu k⟩
  ·obtain ⟨c,e⟩:=zew (n:=s.heap.objs.size+1) k
   refine .inr ⟨.inl k,c,e,?_⟩
   have q:=x.cell y c e
   rw [zdW ndP hp hu (by show scope.names.lookup y≠_;rw [k];decide)] at q
   exact q
 ·exact e0.hok.fresh (Nat.le_of_lt (x.above y c (PySem.mem_of_lookup h)))
 ·unfold start
  show _=N.length
  rw [List.length_append,List.length_map,List.length_replicate]
  lia
theorem yhK {CX:CXT} {P:Program} {w:World} {K:PySem.W.Frag} {mg:Str->Option Value} {base:Heap} {k:Nat} {f:Addr} {name qual:Str} {params:Arguments} {body:List Stmt} {scope:Scope} {dV kV doc pm cdv ct oc:Value} {an od:Option Addr}
  {osl:Array (Option Value)} {N ps:List Str} {sp:Sp} (lk:K.lookup f=some ⟨oc,od,.func (PySem.W.fnOf name qual params body scope dV kV doc pm an cdv ct),osl⟩) (hcd:PySem.W.codeIn K cdv qual=true) (S:FnScope N ps scope)
  (len:∀ vs H Q E,sp vs H Q E->vs.length=ps.length)
  (hbody:∀ (A:Around) (outer:List Env) (s:Shared) (H:Hp) (vs:List V) (Q:VK) (E:XK),Room k (A.deeper (envOfC qual scope s.heap.objs.size f cdv))->sp vs H Q E ->
   ∃ t,PSs (cxOf CX P w K mg base N qual scope f cdv A outer s H E) body t/\t { nx:=fun _ H' => Q .non H',rt:=Q } (start N vs) H) :
  FnOk P w K mg base CX (k+1) f (PySem.W.fnOf name qual params body scope dV kV doc pm an cdv ct) ps sp:=by
 refine ⟨len,fun A outer s H args us vs Q E hr e0 hb r hsp=>?_⟩
 have hl:=len _ _ _ _ hsp
 have KX:K.In s.heap:=e0.mod.kin.keeps fun b o e=>(e0.bs b o e).1
 have lim:s.heap.NoLimit:=e0.mod.nolimit.keeps fun b o e=>(e0.bs b o e).1
 have hkind:∀ y∈ps.zip us,scope.names.lookup y.1=some .local\/(scope.names.lookup y.1=some .cell/\((cellsFrom (s.heap.objs.size+1) scope.names []).lookup y.1).isSome=true):=fun ⟨n,v⟩ hy=>by
  rcases S.par n (List.of_mem_zip hy).1 with q | q
  ·exact .inl q
  ·exact .inr ⟨q,PySem.W.cellsFrom_some _ _ _ (.inl q)⟩
 refine codeAny_call_function hr.depth (KX _ _ lk) rfl S.co S.gen rfl (PySem.W.codeRec_of KX hcd) (hb _ _ _ _ ?_)
 refine wpAny_newFunctionEnv_cells S.kind hkind fun env he s1 x=>?_
 subst he
 refine ⟨lim.keeps x.toInCall.keep,codeAny_func ?_⟩
 obtain ⟨t,ht,hq⟩:=hbody A outer s H vs Q E (hr.deeper _) hsp
 have I:Inv (cxOf CX P w K mg base N qual scope f cdv A outer s H E) [] (start N vs) H s1:=zgZ S hr.hd e0 hl r x
 refine wpAny_mono (ht [] s1 (start N vs) H _ I hq) (fun fl s' hs=>?_) fun e s' hs=>hs
 have fin:∀ {σ':St} {H':Hp} {v:V} {u:Value},Inv (cxOf CX P w K mg base N qual scope f cdv A outer s H E) [] σ' H' s'->RelV v u->Q v H'->CE outer P w H s Q u s' :=
  fun {σ' H' v u} J rv q=>⟨v,H',J.os,J.bare,J.base,J.hok,rv,q⟩
 cases fl with
 | ret u =>
  obtain ⟨v,σ',H',J,rv,q⟩:=hs
  exact fin J rv q
 | next =>
  obtain ⟨σ',H',J,q⟩:=hs
  exact fin (v:=V.non) (u:=Value.none) J rfl q
 | brk =>
  obtain ⟨_,_,_,q⟩:=hs
  exact False.elim q
 | cont =>
  obtain ⟨_,_,_,q⟩:=hs
  exact False.elim q
end L2
namespace L2
open PySem PySem.Spec PyProof.Rows
section
variable {X:Cx} {x:Str} {p pos:Pos} {e:Expr} {es:List Expr} {t:TA} {id T:String} {r:List V->Hp->VK->Prop}
def tCB (r:List V->Hp->VK->Prop) (t:TA):TE:=fun σ H Q=>t σ H fun vs H1=>r vs H1 Q
theorem zex (hc:CallR X (.builtin id) r) (hg:Gl X x) (hm:X.mg x=none) (hv:bootBuiltins x=some (.builtin id)) (ha:PA X (e::es) t) (hn:x ≠ "__name__" := by decide) (hdb:(x == ("__debug__" : Str))=false:=by decide)
  (he:starEach (e::es) X.env=(false,eval e X.env)::starEach es X.env:=by rfl) (hpl:(backTo pos (starEach es X.env)).any (·.1)=false:=by rfl):PE X (.Call (.Name x p) (e::es) [] pos) (tCB r t):=by
 intro pins s σ H Q I h
 refine wpAny_Call_Name_kw (yd7 I hg hm hv ?_ hn hdb)
 exact PyProof.Rows.callWith_builtin1 (thn (ha pos pins s σ H _ I h) fun us s1 ⟨vs,H1,I1,r1,q1⟩=>hc pins s1 σ H1 vs us Q I1 r1 q1) he hpl
end
end L2
namespace HT
open PySem PyProof.Rows
section
open PySem.SeqAt
open PySem.AutoSeq1 (wpAny_loadPart')
open PySem.MeetsSeq PySem.MeetsSeq2 PySem.MeetsSeq3
end
section
variable {prog:Program} {w:World} {A:Around} {E:Value->Shared->Prop} {s:Shared}
theorem cat_tup {t b:Addr} {vs ws:List Value} {Q:Value->Shared->Prop} (ht:IsTup s.heap t vs.toArray) (hb:IsTup s.heap b ws.toArray) (hv:vs≠[])
  (h1:ws=[]->Q (.ref t) s) (h2:ws≠[]->Q (.ref s.heap.objs.size) { s with heap:=s.heap.push { cls:=.type "tuple",data:=.seq (vs++ws).toArray } })
  (hsz:vs.length+ws.length<=sizeLine):wpAny (model prog w) A (binaryOp .Add (.ref t) (.ref b)) Q E s:=by
 obtain ⟨⟨cls,dd,data,sl⟩,ho,hc,n,hd⟩:=id ht
 obtain ⟨⟨cls2,dd2,data2,sl2⟩,ho2,hc2,n2,hd2⟩:=id hb
 simp only at hc hd hc2 hd2
 subst hc hd hc2 hd2
 have e:vs.toArray++ws.toArray=(vs++ws).toArray:=by simp
 by_cases hw:ws=[]
 ·exact concat_meets ⟨_,ho,rfl⟩ ⟨_,ho2,rfl⟩ noFill_tuple_add seq_tuple_add PySem.F.slot_tuple_add PySem.F.entry_tuple_add (PySem.F.args_tuple_add_2 _ _)
   (tuple_addW1 t b vs.toArray ws.toArray n n2 dd dd2 sl sl2 (by simpa using hv) (by simp [hw])) ⟨ho,ho2,h1 hw⟩
 ·refine concat_meets ⟨_,ho,rfl⟩ ⟨_,ho2,rfl⟩ noFill_tuple_add seq_tuple_add PySem.F.slot_tuple_add PySem.F.entry_tuple_add (PySem.F.args_tuple_add_2 _ _)
   (tuple_addW2 t b vs.toArray ws.toArray n n2 dd dd2 sl sl2 (by simpa using hv) (by simpa using hw) (by rw [List.size_toArray,List.size_toArray];exact hsz)) ⟨ho,ho2,?_⟩
  rw [e]
  exact h2 hw
def sIx (n d:Nat):Option Int->Nat
 | none=>d
 | some v=>if v<0 then (v+(n:Int)).toNat else min v.toNat n
theorem sIx_none (n d:Nat):sIx n d none=d:=rfl
theorem sIx_nat (n d k:Nat):sIx n d (some (k:Int))=min k n:=by
 show (if (k:Int)<0 then ((k:Int)+(n:Int)).toNat else min (k:Int).toNat n)=min k n
 rw [if_neg (by lia),Int.toNat_natCast]
theorem sIx_le (n d:Nat) (hd:d<=n) (o:Option Int):sIx n d o<=n:=by
 cases o with
 | none=>exact hd
 | some v =>
  show (if v<0 then (v+(n:Int)).toNat else min v.toNat n)<=n
  by_cases hv:v<0
  ·rw [if_pos hv];lia
  ·rw [if_neg hv];exact Nat.min_le_right _ _
theorem zfB (v:Int) (n d:Nat):(if v<0 then max (v+(n:Int)) 0 else min v (n:Int))=((sIx n d (some v):Nat):Int):=by
 show (if v<0 then max (v+(n:Int)) 0 else min v (n:Int))=(((if v<0 then (v+(n:Int)).toNat else min v.toNat n):Nat):Int)
 by_cases hv:v<0
 ·simp only [if_pos hv];lia
 ·simp only [if_neg hv];lia
theorem zgo (lo hi:Option Int) (n:Nat):Builtin.Slice.sliceAdjust lo hi 1 (n:Int)=(((sIx n 0 lo:Nat):Int),((sIx n n hi:Nat):Int)):=by
 have h1 : ¬ ((1:Int)<0):=by lia
 unfold Builtin.Slice.sliceAdjust
 simp only [h1,if_false]
 refine Prod.ext ?_ ?_
 ·cases lo with
  | none=>rfl
  | some v=>exact zfB v n 0
 ·cases hi with
  | none=>rfl
  | some v=>exact zfB v n n
theorem zgp (i j:Nat):Builtin.Slice.slicePlaces (i:Int) (j:Int) 1=j-i:=by
 unfold Builtin.Slice.slicePlaces
 have h1:(1:Int) > 0:=by lia
 simp only [h1,if_true,Int.ediv_one]
 split<;>lia
theorem zdf {v:Value} {o:Option Int} {Q:Option Int->Shared->Prop} (p:IsPart v o) (h:Q o s):wpAny (model prog w) A (Builtin.Slice.slicePartIndex v) Q E s:=by
 cases p with
 | none=>exact slicePart_none h
 | int i t=>exact slicePart_int h
theorem zcS {sl:Addr} {vl vu:Value} {lo hi:Option Int} {n:Nat} {Q:Int×Int×Nat->Shared->Prop} (hs:s.heap.IsSliceOf sl vl vu .none) (pl:IsPart vl lo) (pu:IsPart vu hi)
  (h:Q (((sIx n 0 lo:Nat):Int),1,sIx n n hi-sIx n 0 lo) s):wpAny (model prog w) A (Builtin.Slice.sliceApplied (.ref sl) (pure (n:Int))) Q E s:=by
 obtain ⟨os,hos,hcs,hds⟩:=id hs
 unfold Builtin.Slice.sliceApplied Builtin.Slice.sliceFields
 refine wpAny_bind (wpAny_bind (wpAny_field hos hds (x:=vl) rfl (wpAny_bind (wpAny_field hos hds (x:=vu) rfl (wpAny_bind (wpAny_field hos hds (x:=.none) rfl (wpAny_pure ?_)))))))
 refine wpAny_bind (slicePart_none ?_)
 show wpAny _ _ (if ((1:Int) == 0)=true then _ else _) _ _ s
 rw [if_neg (by decide)]
 refine wpAny_bind (zdf pl (wpAny_bind (zdf pu (wpAny_bind (wpAny_pure ?_)))))
 show wpAny _ _ (match Builtin.Slice.sliceAdjust lo hi 1 (n:Int) with | (lo,hi)=>pure (lo,(1:Int),Builtin.Slice.slicePlaces lo hi 1)) _ _ s
 rw [zgo lo hi n]
 show wpAny _ _ (pure (((sIx n 0 lo:Nat):Int),(1:Int),Builtin.Slice.slicePlaces ((sIx n 0 lo:Nat):Int) ((sIx n n hi:Nat):Int) 1)) _ _ s
 rw [zgp]
 exact wpAny_pure h
theorem zhQ (xs:Array Value) (i k:Nat):((List.range k).filterMap fun (m:Nat)=>xs[((i:Int)+(m:Int)*1).toNat]?).toArray=((xs.toList.drop i).take k).toArray:=by
 have e:(fun (m:Nat)=>xs[((i:Int)+(m:Int)*1).toNat]?)=fun m=>xs[i+m]? := by
  funext m
  have:((i:Int)+(m:Int)*1).toNat=i+m:=by lia
  rw [this]
 rw [e]
 have:=pick_run xs i k
 rw [List.filterMap_map] at this
 have e2:((fun x=>xs[x]?) ∘ fun x=>i+x)=fun m=>xs[i+m]? := rfl
 rw [e2] at this
 rw [this]
theorem getItem_tuple_cut {t sl:Addr} {items:Array Value} {vl vu:Value} {lo hi:Option Int} {Q:Value->Shared->Prop} (ht:IsTup s.heap t items) (hs:s.heap.IsSliceOf sl vl vu .none) (pl:IsPart vl lo) (pu:IsPart vu hi)
  (hw : ¬ (sIx items.size 0 lo=0/\sIx items.size items.size hi=items.size))
  (h:Q (.ref s.heap.objs.size) { s with heap:=s.heap.push { cls:=.type "tuple",data:=.seq ((items.toList.drop (sIx items.size 0 lo)).take (sIx items.size items.size hi-sIx items.size 0 lo)).toArray } })
  (hsz:items.size<=sizeLine):wpAny (model prog w) A (getItem (.ref t) (.ref sl)) Q E s:=by
 have htake:sizeOk (.seq ((items.toList.drop (sIx items.size 0 lo)).take (sIx items.size items.size hi-sIx items.size 0 lo)).toArray):=by
  show ((items.toList.drop (sIx items.size 0 lo)).take (sIx items.size items.size hi-sIx items.size 0 lo)).toArray.size<=sizeLine
  rw [List.size_toArray,List.length_take,List.length_drop,Array.length_toList]
  omega
 have hj:sIx items.size items.size hi<=items.size:=sIx_le _ _ (Nat.le_refl _) hi
 obtain ⟨os,hos,hcs,hds⟩:=id hs
 have hTs:s.TypeIs (.ref sl) "slice" := ⟨os,hos,hcs⟩
 unfold getItem
 try with_reducible refine wpAny_holding ?_
 first | refine wpAny_bind (wpAny_pure ?_) | skip
 refine wpAny_bind (wpAny_sequenceKey ht.typeIs (by decide) ?_)
 refine wpAny_bind (wpAny_callSpecial?_slot (name:=Str.ofString "__getitem__") ht.typeIs PyProof.Rows.slot_tuple_getitem
  (wpAny_call_entry PyProof.Rows.slot_tuple_getitem ht.typeIs entry_tuple_getitem ?_ (args_tuple_getitem _ _)))
 show wpAny _ _ (Builtin.Tuple.tupleItemsOf (.ref t) >>= _) _ _ s
 refine wpAny_bind (tupleItemsOf_ ht ?_)
 refine wpAny_bind (wpAny_typeOf hTs ?_)
 rw [if_pos (by decide)]
 refine wpAny_bind (zcS hs pl pu ?_)
 have hno : ¬ ((((sIx items.size 0 lo:Nat):Int) == 0 && (1:Int) == 1 && (sIx items.size items.size hi-sIx items.size 0 lo) == items.size)=true):=by
  intro q
  rw [Bool.and_eq_true,Bool.and_eq_true] at q
  have q1:((sIx items.size 0 lo:Nat):Int)=0:=eq_of_beq q.1.1
  have q2:sIx items.size items.size hi-sIx items.size 0 lo=items.size:=eq_of_beq q.2
  exact hw ⟨by omega,by omega⟩
 show wpAny _ _ (if (((sIx items.size 0 lo:Nat):Int) == 0 && (1:Int) == 1 && (sIx items.size items.size hi-sIx items.size 0 lo) == items.size)=true then _ else _) _ _ s
 rw [if_neg hno,zhQ]
 first
  | exact wpAny_bind (m:=Builtin.Tuple.tupleExact _) (wpAny_newObj_type (wpAny_pure ⟨_,rfl,wpAny_pure h⟩) htake)
  | exact wpAny_bind (m:=Builtin.Tuple.tupleExact _) (wpAny_newObj_type (wpAny_bind (wpAny_pure (wpAny_pure ⟨_,rfl,wpAny_pure h⟩))) htake)
  | exact wpAny_bind (wpAny_bind (m:=Builtin.Tuple.tupleExact _) (wpAny_newObj_type (wpAny_pure (wpAny_pure ⟨_,rfl,wpAny_pure h⟩)) htake))
  | exact wpAny_bind (wpAny_bind (m:=Builtin.Tuple.tupleExact _) (wpAny_newObj_type (wpAny_pure ⟨_,rfl,wpAny_pure h⟩) htake))
end
end HT
namespace L2
open PySem PySem.Spec PyProof.Rows
abbrev TO:=St->Hp->(Option Int->Hp->Prop)->Prop
def PO (X:Cx) (e:Option Expr) (t:TO):Prop :=
 ∀ (pins:List (Addr×Obj)) (s:Shared) (σ:St) (H:Hp) (Q:Option Int->Hp->Prop),Inv X pins σ H s->t σ H Q ->
  wpAny (model X.prog X.w) X.A (evalPart e X.env) (fun u s' => ∃ o H',Inv X pins σ H' s'/\IsPart u o/\Q o H') X.xe s
def ye9:TO:=fun _ H Q=>Q none H
def yfW (t:TE):TO:=fun σ H Q=>t σ H fun x H1=>∃ i,x = .int i/\Q (some i) H1
section
variable {X:Cx} {e:Expr} {te:TE} {lo hi:Option Expr} {tl th:TO} {pos p2:Pos}
theorem ziW:PO X none ye9:=by
 intro pins s σ H Q I h
 rw [evalPart_none]
 exact wpAny_pure ⟨none,H,I,.none,h⟩
theorem ziX (h:PE X e te):PO X (some e) (yfW te):=by
 intro pins s σ H Q I hw
 rw [evalPart_some]
 refine thn (h pins s σ H _ I hw) fun u s1 ⟨x,H1,I1,r1,q1⟩=>?_
 obtain ⟨i,rfl,q⟩:=q1
 obtain ⟨t,rfl⟩:=r1
 exact ⟨some i,H1,I1,.int i t,q⟩
def SlR (X:Cx) (r:V->Option Int->Option Int->Hp->VK->Prop):Prop :=
 ∀ (pins:List (Addr×Obj)) (s:Shared) (σ:St) (H:Hp) (x:V) (v vl vu:Value) (lo hi:Option Int) (sl:Addr) (Q:VK),Inv X pins σ H s->RelV x v->s.heap.IsSliceOf sl vl vu .none->IsPart vl lo->IsPart vu hi->r x lo hi H Q ->
  ∃ T id,typeLookup (.type T) "__getitem__" = pure (some (.builtin id))/\s.TypeIs v T/\wpAny (model X.prog X.w) X.A (getItem v (.ref sl)) (EP X pins σ Q) X.xe s
theorem SlR.or {r r':V->Option Int->Option Int->Hp->VK->Prop} (h:SlR X r) (h':SlR X r'):SlR X (fun x lo hi H Q=>r x lo hi H Q\/r' x lo hi H Q):=by
 intro pins s σ H x v vl vu lo hi sl Q I rx hs pl pu q
 rcases q with q | q
 ·exact h pins s σ H x v vl vu lo hi sl Q I rx hs pl pu q
 ·exact h' pins s σ H x v vl vu lo hi sl Q I rx hs pl pu q
def tSl (r:V->Option Int->Option Int->Hp->VK->Prop) (te:TE) (tl th:TO):TE:=fun σ H Q=>te σ H fun x H1=>tl σ H1 fun l H2=>th σ H2 fun u H3=>r x l u H3 Q
theorem zhR {r:V->Option Int->Option Int->Hp->VK->Prop} (hr:SlR X r) (he:PE X e te) (hl:PO X lo tl) (hu:PO X hi th):PE X (.Subscript e (.Slice lo hi none p2) pos) (tSl r te tl th):=by
 intro pins s σ H Q I h
 refine Subscript_ (thn (he pins s σ H _ I h) fun v s1 ⟨x,H1,I1,r1,q1⟩=>?_)
 refine wpAny_Slice (thn (hl pins s1 σ H1 _ I1 q1) fun vl s2 ⟨l,H2,I2,pl,q2⟩=>thn (hu pins s2 σ H2 _ I2 q2) fun vu s3 ⟨u,H3,I3,pu,q3⟩=>?_)
 rw [evalPart_none]
 refine wpAny_pure ?_
 have I4:Inv X pins σ H3 { s3 with heap:=s3.heap.push { cls:=.type "slice",data:=.fields #[vl,vu,.none] } }:=I3.kept (t' := s3.toks) fun b ob q=>Heap.get?_push_of_some _ q
 obtain ⟨T,id,hT,ht,hg⟩:=hr pins { s3 with heap:=s3.heap.push { cls:=.type "slice",data:=.fields #[vl,vu,.none] } } σ H3 x v vl vu l u s3.heap.objs.size Q I4 r1 (Heap.IsSliceOf.new ..) pl pu q3
 show wpAny (model X.prog X.w) X.A (subscriptTail e (.Slice lo hi none p2) v (.ref s3.heap.objs.size)) (EP X pins σ Q) X.xe { s3 with heap:=s3.heap.push { cls:=.type "slice",data:=.fields #[vl,vu,.none] } }
 exact tail_any (ops:=[.ref s3.heap.objs.size,v]) ht hT hg (by with_unfolding_all rfl)
def cutV (xs:List V) (lo hi:Option Int):List V:=(xs.drop (HT.sIx xs.length 0 lo)).take (HT.sIx xs.length xs.length hi-HT.sIx xs.length 0 lo)
theorem zcC (xs:List V) (lo hi:Option Int):(cutV xs lo hi).length<=xs.length:=by
 unfold cutV
 rw [List.length_take,List.length_drop]
 lia
def rSlT (K:PySem.W.Frag):V->Option Int->Option Int->Hp->VK->Prop:=fun x lo hi H Q=>∃ a xs,x = .ref a/\SqT K H a xs /\
 ¬ (HT.sIx xs.length 0 lo=0/\HT.sIx xs.length xs.length hi=xs.length)/\∀ p,H p=none->Q (.ref p) (upd H p (.tup (cutV xs lo hi)))
theorem sl_tup:SlR X (rSlT X.K):=by
 intro pins s σ H x v vl vu lo hi sl Q I rx hs pl pu h
 obtain ⟨a,xs,rfl,hx,hw,q⟩:=h
 cases rx
 obtain ⟨its,r,ht,hz⟩:=I.tuple hx
 have hlen:its.toArray.size=xs.length:=by rw [List.size_toArray];exact r.length.symm
 refine ⟨"tuple",_,PyProof.Rows.slot_tuple_getitem.lookup,ht.typeIs,?_⟩
 refine HT.getItem_tuple_cut ht hs pl pu (by rw [hlen];exact hw) ?_ (by rw [hlen];exact hz)
 rw [hlen]
 refine ⟨.ref s.heap.objs.size,_,I.laid (t' := s.toks) (o:=.tup (cutV xs lo hi)) (fun b ob q=>Heap.get?_push_of_some _ q) (Nat.le_refl _) ?_,rfl,q _ (I.hok.fresh (Nat.le_refl _))⟩
 exact ⟨Nat.le_trans (zcC xs lo hi) hz,_,(r.drop (HT.sIx xs.length 0 lo)).take (HT.sIx xs.length xs.length hi-HT.sIx xs.length 0 lo),IsTup.new _ _⟩
def yhL (K:PySem.W.Frag):R2:=fun x y H Q=>∃ a b xs ys,x = .ref a/\y = .ref b/\SqT K H a xs/\SqT K H b ys/\xs≠[]/\xs.length+ys.length<=sizeLine /\
 (ys=[]->Q (.ref a) H)/\(ys≠[]->∀ p,H p=none->Q (.ref p) (upd H p (.tup (xs++ys))))
theorem Vals.nil_iff {xs:List V} {us:List Value} (r:Vals xs us):us=[] ↔ xs=[]:=by
 cases r with
 | nil=>simp
 | cons _ _=>simp
theorem ziY:OpR X (binaryOp .Add) (yhL X.K):=by
 intro pins s σ H x y v u Q I rx ry h
 obtain ⟨a,b,xs,ys,rfl,rfl,ha,hb,hx,hz,q1,q2⟩:=h
 cases rx
 cases ry
 obtain ⟨its,r1,p1,_⟩:=I.tuple ha
 obtain ⟨its2,r2,p2,_⟩:=I.tuple hb
 refine HT.cat_tup p1 p2 (fun z=>hx (r1.nil_iff.mp z)) (fun z=>⟨.ref a,H,I,rfl,q1 (r2.nil_iff.mp z)⟩) (fun z=>?_) (by rw [<- r1.length,<- r2.length];exact hz)
 refine ⟨.ref s.heap.objs.size,_,I.laid (t' := s.toks) (o:=.tup (xs++ys)) (fun b ob q=>Heap.get?_push_of_some _ q) (Nat.le_refl _) ?_,rfl,q2 (fun w=>z (r2.nil_iff.mpr w)) _ (I.hok.fresh (Nat.le_refl _))⟩
 exact ⟨by rw [List.length_append];exact hz,_,r1.append r2,IsTup.new _ _⟩
end
end L2
namespace L2
open PySem PySem.Spec PyProof.Rows
def ixN (n:Nat) (i:Int):Option Nat:=if 0<=i then (if i<n then some i.toNat else none) else if -(n:Int)<=i then some (i+n).toNat else none
def atI {α:Type} (xs:List α) (i:Int):Option α:=(ixN xs.length i).bind fun j=>xs[j]?
theorem zfC {n:Nat} {i:Int} {j:Nat} (h:ixN n i=some j):seqIndex? i n=some j/\j<n /\ -(n:Int)<=i/\i<n:=by
 unfold ixN at h
 by_cases h0:0<=i
 ·rw [if_pos h0] at h
  by_cases h1:i<n
  ·rw [if_pos h1] at h
   have e:i.toNat=j:=Option.some.inj h
   exact ⟨by rw [seqIndex_of h0 h1,e],by lia,by lia,h1⟩
  ·rw [if_neg h1] at h;cases h
 ·rw [if_neg h0] at h
  by_cases h1 : -(n:Int)<=i
  ·rw [if_pos h1] at h
   have e:(i+n).toNat=j:=Option.some.inj h
   exact ⟨by rw [seqIndex_neg (by lia) h1,e],by lia,h1,by lia⟩
  ·rw [if_neg h1] at h;cases h
theorem zcm {α:Type} {xs:List α} {i:Int} {v:α} (h:atI xs i=some v):∃ j,seqIndex? i xs.length=some j/\xs[j]? = some v/\j<xs.length /\ -(xs.length:Int)<=i/\i<xs.length:=by
 unfold atI at h
 cases e:ixN xs.length i with
 | none=>rw [e] at h;cases h
 | some j =>
  rw [e] at h
  obtain ⟨h1,h2,h3,h4⟩:=zfC e
  exact ⟨j,h1,h,h2,h3,h4⟩
theorem zdw {α:Type} {xs:List α} {j:Nat} {v:α} (h:xs[j]? = some v):atI xs (j:Int)=some v:=by
 have hj:j<xs.length:=(List.getElem?_eq_some_iff.mp h).1
 have e:ixN xs.length (j:Int)=some j:=by
  unfold ixN
  rw [if_pos (by lia),if_pos (by lia)];simp
 unfold atI;rw [e];exact h
theorem zhS {α:Type} (xs:List α) (v:α):atI (xs++[v]) (-1)=some v:=by
 have hl:(xs++[v]).length=xs.length+1:=by simp
 have e:ixN (xs++[v]).length (-1)=some xs.length:=by
  unfold ixN
  rw [hl,if_neg (by decide),if_pos (by lia)]
  congr 1
  lia
 unfold atI
 rw [e]
 show (xs++[v])[xs.length]? = some v
 simp
def yfa (b:Expr):Prop:=∀ o i,subscripted b false o i=operate [o,i] (getItem o i)
def IxR (X:Cx) (r:R2):Prop :=
 ∀ (value slice:Expr) (pins:List (Addr×Obj)) (s:Shared) (σ:St) (H:Hp) (x y:V) (v u:Value) (Q:VK),Inv X pins σ H s->RelV x v->RelV y u->r x y H Q ->
  subscripted slice false v u=operate [v,u] (getItem v u)->wpAny (model X.prog X.w) X.A (subscriptTail value slice v u) (EP X pins σ Q) X.xe s
def MtR (X:Cx) (id:String) (r:V->List V->Hp->VK->Prop):Prop :=
 ∀ (pins:List (Addr×Obj)) (s:Shared) (σ:St) (H:Hp) (x:V) (xs:List V) (v:Value) (us:List Value) (Q:VK),Inv X pins σ H s->RelV x v->Vals xs us->r x xs H Q ->
  wpAny (model X.prog X.w) X.A (call (.builtin id) (v::us)) (EP X pins σ Q) X.xe s
section
variable {X:Cx} {a b:Expr} {ta tb:TE} {pos:Pos}
theorem IxR.or {r r':R2} (h:IxR X r) (h':IxR X r'):IxR X (fun x y H Q=>r x y H Q\/r' x y H Q):=by
 intro value slice pins s σ H x y v u Q I rx ry q hs
 rcases q with q | q
 ·exact h value slice pins s σ H x y v u Q I rx ry q hs
 ·exact h' value slice pins s σ H x y v u Q I rx ry q hs
theorem yhM {r:R2} (hr:IxR X r) (ha:PE X a ta) (hb:PE X b tb) (hs:yfa b):PE X (.Subscript a b pos) (tOp r ta tb):=by
 intro pins s σ H Q I h
 exact Subscript_ (binT ha hb I h fun v u s2 x y H2 I2 rx ry q=>hr a b pins s2 σ H2 x y v u Q I2 rx ry q (hs _ _))
def rIxL (K:PySem.W.Frag):R2:=fun x y H Q=>∃ p xs i v,x = .ref p/\y = .int i/\SqL K H p xs/\atI xs i=some v/\Q v H
def rIxT (K:PySem.W.Frag):R2:=fun x y H Q=>∃ p xs i v,x = .ref p/\y = .int i/\SqT K H p xs/\atI xs i=some v/\Q v H
def rIxS:R2:=fun x y H Q=>∃ z i c,x = .str z/\y = .int i/\z.length<=sizeLine/\atI z.cps.toList i=some c/\Q (.str ⟨#[c]⟩) H
theorem ziZ:IxR X (rIxL X.K):=by
 intro value slice pins s σ H x y v u Q I rx ry h hs
 obtain ⟨p,xs,i,z,rfl,rfl,hq,he,q⟩:=h
 cases rx
 obtain ⟨t,rfl⟩:=ry
 obtain ⟨its,r,pl,hz⟩:=I.list hq
 obtain ⟨j,h1,h2,h3,h4,h5⟩:=zcm he
 obtain ⟨w,ew,rw'⟩:=r.get h2
 have hl:=r.length
 have hn:=ydl
 have fin:EP X pins σ Q w s:=⟨z,H,I,rw',q⟩
 by_cases h0:0<=i
 ·have hj:i.toNat=j:=by
   rw [seqIndex_of h0 h5] at h1
   exact Option.some.inj h1
  exact item_listR pl.isList h0 (by lia) (by rw [hj];simpa using ew) fin hs
 ·have hj:(i+(its.toArray.size:Int)).toNat=j:=by
   rw [seqIndex_neg (by lia) h4] at h1
   rw [List.size_toArray,<- hl]
   exact Option.some.inj h1
  exact subscriptTail_builtinR (x:=w) pl.isList.typeIs slot_list_getitem.lookup
   (wpAny_getItem_list_neg (Q:=fun r s' => r=w/\EP X pins σ Q r s') pl.isList (by lia) (by rw [List.size_toArray]<;>lia) (by lia) (by rw [hj];simpa using ew) ⟨rfl,fin⟩) hs
theorem ix_tup:IxR X (rIxT X.K):=by
 intro value slice pins s σ H x y v u Q I rx ry h hs
 obtain ⟨p,xs,i,z,rfl,rfl,hq,he,q⟩:=h
 cases rx
 obtain ⟨t,rfl⟩:=ry
 obtain ⟨its,r,pl,hz⟩:=I.tuple hq
 obtain ⟨j,h1,h2,h3,h4,h5⟩:=zcm he
 obtain ⟨w,ew,rw'⟩:=r.get h2
 have hl:=r.length
 have hn:=ydl
 have fin:EP X pins σ Q w s:=⟨z,H,I,rw',q⟩
 exact subscriptTail_builtinR (x:=w) pl.typeIs slot_tuple_getitem.lookup
  (getItem_tuple (j:=j) (Q:=fun r s' => r=w/\EP X pins σ Q r s') pl (by lia) (by lia) (by rw [List.size_toArray,<- hl];exact h1) (by simpa using ew) ⟨rfl,fin⟩) hs
theorem ygE:IxR X rIxS:=by
 intro value slice pins s σ H x y v u Q I rx ry h hs
 obtain ⟨z,i,c,rfl,rfl,hz,he,q⟩:=h
 obtain ⟨t,rfl⟩:=rx
 obtain ⟨t',rfl⟩:=ry
 obtain ⟨j,h1,h2,h3,h4,h5⟩:=zcm he
 have hl:z.cps.toList.length=z.length:=by simp [Str.length]
 rw [hl] at h1 h4 h5
 have hn:=ydl
 exact tail_any (typeIs_str s z t) slot_str_getitem.lookup (getItem_str (c:=c) (by
  have e1:decide (i < -(2 ^ 63:Int))=false:=decide_eq_false (by lia)
  have e2:decide (i ≥ 2 ^ 63)=false:=decide_eq_false (by lia)
  rw [e1,e2,Bool.or_false]) (by rw [h1];simpa using h2) ⟨.str ⟨#[c]⟩,H,I.tok _,⟨_,rfl⟩,q⟩) hs
def rIx (K:PySem.W.Frag):R2:=fun x y H Q=>rIxL K x y H Q\/rIxT K x y H Q\/rIxS x y H Q
theorem ygF:IxR X (rIx X.K):=ziZ.or (ix_tup.or ygE)
theorem zgq (its:List Value) (n j:Nat) (u:Value):Obj.mapSeq (·.setIfInBounds j u) { cls:=.type "list",data:=.seq its.toArray n }={ cls:=.type "list",data:=.seq (its.set j u).toArray n }:=by
 simp [Obj.mapSeq]
theorem Inv.lst {pins:List (Addr×Obj)} {σ:St} {H:Hp} {s:Shared} {p:Addr} {xs:List V} (I:Inv X pins σ H s) (h:H p=some (.lst xs)) :
  ∃ (its:List Value) (n:Nat),Vals xs its/\s.heap.get? p=some { cls:=.type "list",data:=.seq its.toArray n }/\xs.length<=sizeLine:=by
 obtain ⟨z,its,n,r,e⟩:=I.hok p _ h
 exact ⟨its,n,r,e,z⟩
theorem Inv.lstUpd {pins:List (Addr×Obj)} {σ:St} {H:Hp} {s:Shared} {p:Addr} {xs ys:List V} {its its':List Value} {n n':Nat} {f:Obj->Obj} (I:Inv X pins σ H s) (h:H p=some (.lst xs))
  (ho:s.heap.get? p=some { cls:=.type "list",data:=.seq its.toArray n }) (hf:f { cls:=.type "list",data:=.seq its.toArray n }={ cls:=.type "list",data:=.seq its'.toArray n' }) (r:Vals ys its') (hz:ys.length<=sizeLine) (t:Nat) :
  Inv X pins σ (upd H p (.lst ys)) { s with heap:=s.heap.update p f,toks:=t }:=by
 have e:(s.heap.update p f).get? p=some { cls:=.type "list",data:=.seq its'.toArray n' }:=by
  rw [Heap.get?_update_self f ho (by rw [hf]<;>rfl),hf]
 refine I.write (x:=p) (e:=p) (by rw [h];trivial) (.inl rfl) (fun b u hb q=>(Heap.get?_update_other _ _ (Ne.symm hb)).trans q) ⟨_,e⟩ ?_
 exact ⟨hz,its',n',r,e⟩
def yhN:V->V->V->Hp->(Hp->Prop)->Prop:=fun o i v H Q=>∃ p xs k j,o = .ref p/\i = .int k/\H p=some (.lst xs)/\ixN xs.length k=some j/\Q (upd H p (.lst (xs.set j v)))
theorem zhT:PSet X yhN:=by
 intro pins s σ H o i v ov iv u Q I ro ri rv h
 obtain ⟨p,xs,k,j,rfl,rfl,hp,hj,q⟩:=h
 cases ro
 obtain ⟨t,rfl⟩:=ri
 obtain ⟨its,n,r,ho,hz⟩:=I.lst hp
 obtain ⟨h1,h2,h3,h4⟩:=zfC hj
 have hl:=r.length
 have hn:=ydl
 have I':Inv X pins σ (upd H p (.lst (xs.set j v))) { s with heap:=s.heap.update p (Obj.mapSeq (·.setIfInBounds j u)) } :=
  I.lstUpd hp ho (zgq its n j u) (r.set rv j) (by rw [List.length_set];exact hz) s.toks
 by_cases h0:0<=k
 ·have hk:k.toNat=j:=by
   rw [seqIndex_of h0 h4] at h1
   exact Option.some.inj h1
  exact PySem.W.ki_setAt ho h0 (by lia) (by rw [List.size_toArray,<- hl];exact h4) (by rw [hk];exact ⟨_,I',q⟩)
 ·have hk:(k+(its.toArray.size:Int)).toNat=j:=by
   rw [seqIndex_neg (by lia) h3] at h1
   rw [List.size_toArray,<- hl]
   exact Option.some.inj h1
  exact PySem.W.ki_setBack ho (by lia) (by rw [List.size_toArray,<- hl];exact h3) (by lia) (by rw [hk];exact ⟨_,I',q⟩)
theorem zey (lo hi:Option Int) (n:Nat):(sliceBounds lo hi none n).1=((HT.sIx n 0 lo:Nat):Int)/\(sliceBounds lo hi none n).2.1=((HT.sIx n n hi:Nat):Int)/\(sliceBounds lo hi none n).2.2=1:=by
 refine ⟨?_,?_,rfl⟩
 ·cases lo with
  | none=>simp [sliceBounds,HT.sIx]
  | some i =>
   simp only [sliceBounds,HT.sIx,Option.getD_none,show (1:Int) > 0 by decide,if_true]
   by_cases h:i<0
   ·simp only [h,if_true]<;>lia
   ·simp only [h,if_false]<;>lia
 ·cases hi with
  | none=>simp [sliceBounds,HT.sIx]
  | some i =>
   simp only [sliceBounds,HT.sIx,Option.getD_none,show (1:Int) > 0 by decide,if_true]
   by_cases h:i<0
   ·simp only [h,if_true]<;>lia
   ·simp only [h,if_false]<;>lia
theorem zek (its:List Value) (lo hi:Option Int):slicePick its.toArray lo hi none=((its.drop (HT.sIx its.length 0 lo)).take (HT.sIx its.length its.length hi-HT.sIx its.length 0 lo)).toArray:=by
 obtain ⟨h1,h2,h3⟩:=zey lo hi its.toArray.size
 unfold slicePick
 rw [h1,h2,h3]
 simp only [sliceRange_one,pick_run,List.size_toArray]<;>rfl
def rSlL (K:PySem.W.Frag):V->Option Int->Option Int->Hp->VK->Prop:=fun x lo hi H Q=>∃ a xs,x = .ref a/\SqL K H a xs/\∀ p,H p=none->Q (.ref p) (upd H p (.lst (cutV xs lo hi)))
theorem zi0:SlR X (rSlL X.K):=by
 intro pins s σ H x v vl vu lo hi sl Q I rx hs pl pu h
 obtain ⟨a,xs,rfl,hx,q⟩:=h
 cases rx
 obtain ⟨its,r,ht,hz⟩:=I.list hx
 have hlen:=r.length
 refine ⟨"list",_,slot_list_getitem.lookup,ht.isList.typeIs,?_⟩
 refine wpAny_getItem_list_slice ht.isList hs pl pu .none (by simp) ?_ (by rw [List.size_toArray]<;>lia)
 rw [zek,<- hlen]
 refine ⟨.ref s.heap.objs.size,_,I.laid (t' := s.toks) (o:=.lst (cutV xs lo hi)) (fun b ob q=>Heap.get?_push_of_some _ q) (Nat.le_refl _) ?_,rfl,q _ (I.hok.fresh (Nat.le_refl _))⟩
 exact ⟨Nat.le_trans (zcC xs lo hi) hz,_,0,(r.drop (HT.sIx xs.length 0 lo)).take (HT.sIx xs.length xs.length hi-HT.sIx xs.length 0 lo),Heap.get?_push_size _ rfl⟩
theorem zez:OpR X (compareOp .NotIn) (fun x y H Q=>∃ i j,x = .str i/\y = .str j/\Q (.bl (!(!(Builtin.Str.occurrences j i 0 j.length 1).isEmpty))) H):=by
 intro pins s σ H x y v u Q I rx ry h
 obtain ⟨i,j,rfl,rfl,q⟩:=h
 obtain ⟨t,rfl⟩:=rx
 obtain ⟨t',rfl⟩:=ry
 exact notIn_str ⟨.bl _,H,I,rfl,q⟩
theorem zeA:CallR X (.builtin "len") (fun xs H Q=>∃ p ys,xs=[.ref p]/\(SqL X.K H p ys\/SqT X.K H p ys)/\Q (.int ys.length) H):=by
 intro pins s σ H xs us Q I r h
 obtain ⟨p,ys,rfl,hq,q⟩:=h
 obtain ⟨u,rfl,rx⟩:=ydx r
 cases rx
 have hn:=ydl
 rcases hq with hq | hq
 ·obtain ⟨its,r',pl,hz⟩:=I.list hq
  have hlen:=r'.length
  exact Calls.call_len_list pl.isList (by simp only [List.size_toArray]<;>lia) ⟨.int ys.length,H,I.tok _,⟨s.toks+1,by rw [List.size_toArray,hlen]⟩,q⟩
 ·obtain ⟨its,r',pl,hz⟩:=I.tuple hq
  have hlen:=r'.length
  exact len_tuple pl (by simp only [List.size_toArray]<;>lia) ⟨.int ys.length,H,I.tok _,⟨s.toks+1,by rw [List.size_toArray,hlen]⟩,q⟩
theorem zeB:CallR X (.builtin "len") (fun xs H Q=>∃ z,xs=[.str z]/\z.length<=sizeLine/\Q (.int z.length) H):=by
 intro pins s σ H xs us Q I r h
 obtain ⟨z,rfl,hz,q⟩:=h
 obtain ⟨u,rfl,t,rfl⟩:=ydx r
 have hn:=ydl
 exact len_str (by lia) ⟨.int z.length,H,I.tok _,⟨_,rfl⟩,q⟩
theorem CallR.or {f:Value} {r r':List V->Hp->VK->Prop} (h:CallR X f r) (h':CallR X f r'):CallR X f (fun xs H Q=>r xs H Q\/r' xs H Q):=by
 intro pins s σ H xs us Q I rs q
 rcases q with q | q
 ·exact h pins s σ H xs us Q I rs q
 ·exact h' pins s σ H xs us Q I rs q
def tyV (K:PySem.W.Frag) (T:String) (x:V) (H:Hp):Prop:=match x with
 | .str _=>T = "str"
 | .int _=>T = "int"
 | .ref p=>(T = "list" /\ ∃ xs,SqL K H p xs)\/(T = "tuple" /\ ∃ o,K.lookup p=some o/\o.cls = .type "tuple" /\ o.dict=none) \/
   (T = "dict" /\ ((∃ kvs,H p=some (.dK kvs))\/∃ kvs,H p=some (.dT kvs)))\/(T = "set" /\ ∃ S n,H p=some (.set S n))
 | _=>False
theorem yfu {pins:List (Addr×Obj)} {σ:St} {H:Hp} {s:Shared} {T:String} {x:V} {v:Value} (I:Inv X pins σ H s) (r:RelV x v) (ty:tyV X.K T x H) :
  s.TypeIs v T/\∀ a,v = .ref a->∃ ob,s.heap.get? a=some ob/\ob.dict=none:=by
 cases x with
 | str z =>
  obtain ⟨t,rfl⟩:=r
  cases (show T = "str" from ty)
  exact ⟨typeIs_str s z t,fun _ e=>nomatch e⟩
 | int i =>
  obtain ⟨t,rfl⟩:=r
  cases (show T = "int" from ty)
  exact ⟨typeIs_int s i t,fun _ e=>nomatch e⟩
 | ref p =>
  cases r
  rcases ty with ⟨rfl,xs,hq⟩ | ⟨rfl,o,hk,hc,hd⟩ | ⟨rfl,hk⟩ | ⟨rfl,S,n,hk⟩
  ·obtain ⟨its,_,pl,_⟩:=I.list hq
   refine ⟨pl.isList.typeIs,fun a e=>?_⟩
   cases e
   obtain ⟨o,n,e,c,hd,_⟩:=pl
   exact ⟨o,e,hd⟩
  ·refine ⟨⟨o,I.kIn p o hk,hc⟩,fun a e=>?_⟩
   cases e
   exact ⟨o,I.kIn _ o hk,hd⟩
  ·have z:∃ o,s.heap.get? p=some o/\o.ExactDict:=by
    rcases hk with ⟨kvs,hk⟩ | ⟨kvs,hk⟩
    ·obtain ⟨_,_,_,_,o,_,_,e,ex,_⟩:=I.hok p _ hk
     exact ⟨o,e,ex⟩
    ·obtain ⟨_,_,_,_,o,_,_,e,ex,_⟩:=I.hok p _ hk
     exact ⟨o,e,ex⟩
   obtain ⟨o,e,ex⟩:=z
   refine ⟨⟨o,e,ex.1⟩,fun a e2=>?_⟩
   cases e2
   exact ⟨o,e,ex.2.1⟩
  ·obtain ⟨o,_,_,_,e,ex,_⟩:=I.hok p _ hk
   refine ⟨⟨o,e,ex.1⟩,fun a e2=>?_⟩
   cases e2
   exact ⟨o,e,ex.2.1⟩
 | _=>exact False.elim ty
def tBM0 (K:PySem.W.Frag) (T:String) (r:V->List V->Hp->VK->Prop) (to:TE):TE:=fun σ H Q=>to σ H fun x H1=>tyV K T x H1/\r x [] H1 Q
def tBM (K:PySem.W.Frag) (T:String) (r:V->List V->Hp->VK->Prop) (to:TE) (t:TA):TE:=fun σ H Q=>to σ H fun x H1=>tyV K T x H1/\t σ H1 fun xs H2=>r x xs H2 Q
variable {o e:Expr} {es:List Expr} {to:TE} {t:TA} {name:Str} {apos cpos:Pos} {T id:String} {r:V->List V->Hp->VK->Prop}
theorem ygG (pa:PlainAttrs T) (slot:Slot T name id) (hty:typeOf (.builtin id)=pure (.type "method_descriptor")) (hm:MtR X id r) (ho:PE X o to)
  (hbase:attributeBase o name X.env (eval o X.env)=eval o X.env:=by rfl) (hline:(apos.endLine == cpos.line)=true:=by rfl):PE X (.Call (.Attribute o name apos) [] [] cpos) (tBM0 X.K T r to):=by
 intro pins s σ H Q I h
 refine wpAny_Call_method0_late hbase hline (thn (ho pins s σ H _ I h) fun v s1 ⟨x,H1,I1,r1,ty,q1⟩=>?_)
 obtain ⟨h1,h2⟩:=yfu I1 r1 ty
 exact ⟨T,id,pa,slot,hty,h1,h2,Calls.callWith_builtin rfl (PySem.evalArgs_none (hm pins s1 σ H1 x [] v [] Q I1 r1 .nil q1))⟩
theorem yhO (pa:PlainAttrs T) (slot:Slot T name id) (hty:typeOf (.builtin id)=pure (.type "method_descriptor")) (hm:MtR X id r) (ho:PE X o to) (ha:PA X (e::es) t)
  (hbase:attributeBase o name X.env (eval o X.env)=eval o X.env:=by rfl)
  (hfew:((backTo cpos (starEach (e::es) X.env)).all (fun x=>!x.1) && (backToKw cpos (keywordEach [] X.env)).all (fun x=>x.1.isSome)
   && decide ((e::es).length+([]:List Keyword).length+(if ([]:List Keyword).isEmpty then 0 else 1)<30))=true:=by rfl)
  (hline:(apos.endLine == cpos.line)=true:=by rfl) (hs:starEach (e::es) X.env=(false,eval e X.env)::starEach es X.env:=by rfl) (hplain:(backTo cpos (starEach es X.env)).any (·.1)=false:=by rfl) :
  PE X (.Call (.Attribute o name apos) (e::es) [] cpos) (tBM X.K T r to t):=by
 intro pins s σ H Q I h
 refine wpAny_Call_method_late hbase hfew hline rfl (thn (ho pins s σ H _ I h) fun v s1 ⟨x,H1,I1,r1,ty,q1⟩=>?_)
 obtain ⟨h1,h2⟩:=yfu I1 r1 ty
 refine ⟨T,id,pa,slot,hty,h1,h2,?_⟩
 have hA:=ha cpos pins s1 σ H1 _ I1 q1
 rw [hs] at hA ⊢
 refine Calls.callWith_builtin (by show (false || (backTo cpos (starEach es X.env)).any (·.1))=false;rw [hplain]<;>rfl) (Calls.evalArgs_plain ?_)
 exact thn hA fun us s2 ⟨vs,H2,I2,r2,q2⟩=>hm pins s2 σ H2 x vs v us Q I2 r1 r2 q2
end
end L2
namespace L2
open PySem PySem.Spec PyProof.Rows
def MtM (X:Cx) (id:String) (r:V->List V->Hp->VK->Prop):Prop :=
 ∀ (pins:List (Addr×Obj)) (s:Shared) (σ:St) (H:Hp) (x:V) (xs:List V) (v:Value) (us:List Value) (Q:VK),Inv X pins σ H s->RelV x v->Vals xs us->r x xs H Q ->
  wpAny (model X.prog X.w) X.A (call (.builtin id) (v::us)) (EP X pins σ Q) X.xe s
theorem Vals.one:∀ {x:V} {us:List Value},Vals [x] us->∃ u,us=[u]/\RelV x u
 | _,_,.cons r .nil=>⟨_,rfl,r⟩
theorem Vals.zero:∀ {us:List Value},Vals [] us->us=[]
 | _,.nil=>rfl
theorem Vals.dropLast {xs:List V} {us:List Value} (h:Vals xs us):Vals xs.dropLast us.dropLast:=by
 induction h with
 | nil=>exact .nil
 | cons r t ih =>
  cases t with
  | nil=>exact .nil
  | cons q t' => exact .cons r ih
theorem zgr {α:Type} (l:List α):l.eraseIdx (l.length-1)=l.dropLast:=by
 induction l with
 | nil=>rfl
 | cons a r ih =>
  cases r with
  | nil=>rfl
  | cons b r =>
   have e:(a::b::r).length-1=((b::r).length-1)+1:=by
    have h1:(a::b::r).length=r.length+2:=rfl
    have h2:(b::r).length=r.length+1:=rfl
    lia
   rw [e,List.eraseIdx_cons_succ,ih]
   all_goals rfl
section
variable {X:Cx} {pins:List (Addr×Obj)} {σ:St} {H:Hp} {s:Shared} {l b:Addr} {xs ys zs:List V}
theorem Inv.lset {its its':List Value} {n:Nat} {f:Array Value->Array Value} {t':Nat} (I:Inv X pins σ H s) (hH:H l=some (.lst xs))
  (e:s.heap.get? l=some { cls:=.type "list",data:=.seq its.toArray n }) (hf:f its.toArray=its'.toArray) (hv:Vals ys its') (hz:ys.length<=sizeLine) :
  Inv X pins σ (upd H l (.lst ys)) { s with heap:=s.heap.update l (Obj.mapSeq f),toks:=t' }:=by
 have q:=PySem.IsL.update e f
 rw [hf] at q
 refine I.write (x:=l) (e:=l) (by rw [hH];exact trivial) (.inl rfl) (fun b' u hb hu=>(Heap.get?_update_other s.heap (Obj.mapSeq f) (Ne.symm hb)).trans hu) ⟨_,q⟩ ?_
 exact ⟨hz,its',_,hv,q⟩
theorem Inv.lnew {its:List Value} {t':Nat} (I:Inv X pins σ H s) (hv:Vals ys its) (hz:ys.length<=sizeLine) :
  Inv X pins σ (upd H s.heap.objs.size (.lst ys)) { s with heap:=s.heap.push { cls:=.type "list",data:=.seq its.toArray },toks:=t' } :=
 I.laid (fun _ _ q=>Heap.get?_push_of_some _ q) (Nat.le_refl _) ⟨hz,its,0,hv,Heap.get?_push_size _ rfl⟩
theorem Inv.fresh (I:Inv X pins σ H s):H s.heap.objs.size=none:=I.hok.fresh (Nat.le_refl _)
theorem Inv.lstM (I:Inv X pins σ H s) (hH:H l=some (.lst xs)):xs.length<=sizeLine/\∃ (its:List Value) (n:Nat),Vals xs its/\xs.length=its.length/\s.heap.get? l=some { cls:=.type "list",data:=.seq its.toArray n }:=by
 obtain ⟨z,its,n,r,e⟩:=I.hok l _ hH
 exact ⟨z,its,n,r,r.length,e⟩
theorem zhU {n:Nat} (h:n<=sizeLine):Builtin.List.listTooLong n=false:=by
 unfold Builtin.List.listTooLong
 exact decide_eq_false (by lia)
end
section
variable {X:Cx}
def ygb:V->List V->Hp->VK->Prop:=fun x vs H Q=>∃ l xs y,x = .ref l/\vs=[y]/\H l=some (.lst xs)/\xs.length<sizeLine/\Q .non (upd H l (.lst (xs++[y])))
theorem zbY:MtM X "list.append" ygb:=by
 intro pins s σ H x vs v us Q I rx rv h
 obtain ⟨l,xs,y,rfl,rfl,hH,hz,q⟩:=h
 cases rx
 obtain ⟨u,rfl,ru⟩:=rv.one
 obtain ⟨z,its,n,r,hl,e⟩:=I.lstM hH
 refine call_meets F.slot_list_append ⟨_,e,rfl⟩ F.entry_list_append (F.args_list_append_2 _ _) (PySem.list_append l its.toArray n u (by rw [List.size_toArray];lia)) ⟨e,?_⟩
 refine ⟨.non,_,I.lset (its' := its++[u]) hH e (by simp) (r.append (.cons ru .nil)) ?_,rfl,q⟩
 rw [List.length_append,List.length_singleton]
 lia
def ygc:V->List V->Hp->VK->Prop:=fun x vs H Q=>∃ l b xs zs,x = .ref l/\vs=[.ref b]/\H l=some (.lst xs)/\H b=some (.lst zs)/\xs.length+zs.length<=sizeLine/\Q .non (upd H l (.lst (xs++zs)))
theorem zg0:MtM X "list.extend" ygc:=by
 intro pins s σ H x vs v us Q I rx rv h
 obtain ⟨l,b,xs,zs,rfl,rfl,hH,hB,hz,q⟩:=h
 cases rx
 obtain ⟨u,rfl,ru⟩:=rv.one
 cases ru
 obtain ⟨z,its,n,r,hl,e⟩:=I.lstM hH
 obtain ⟨z2,its2,n2,r2,hl2,e2⟩:=I.lstM hB
 have hsz:its.toArray.size+its2.toArray.size<=sizeLine:=by rw [List.size_toArray,List.size_toArray];lia
 have hlong : ¬ (!its.toArray.isEmpty && Builtin.List.listTooLong (its.toArray.size+its2.toArray.size))=true:=by
  rw [zhU hsz,Bool.and_false]
  exact Bool.false_ne_true
 refine call_meets F.slot_list_extend ⟨_,e,rfl⟩ F.entry_list_extend (F.args_list_extend_2 _ _)
  (AutoSeq1.list_extend_list_list_0 l its.toArray n b its2.toArray n2 hlong (by rw [List.size_toArray];lia) (by lia)) ⟨e,e2,?_⟩
 refine ⟨.non,_,I.lset (its' := its++its2) hH e (by simp) (r.append r2) ?_,rfl,q⟩
 rw [List.length_append]
 lia
def rPop:V->List V->Hp->VK->Prop:=fun x vs H Q=>∃ l xs y,x = .ref l/\vs=[]/\H l=some (.lst xs)/\xs[xs.length-1]? = some y/\Q y (upd H l (.lst xs.dropLast))
theorem ygH:MtM X "list.pop" rPop:=by
 intro pins s σ H x vs v us Q I rx rv h
 obtain ⟨l,xs,y,rfl,rfl,hH,hy,q⟩:=h
 cases rx
 have hus:=rv.zero
 subst hus
 obtain ⟨z,its,n,r,hl,e⟩:=I.lstM hH
 obtain ⟨u,hu,ru⟩:=r.get hy
 have hy':its.toArray[its.toArray.size-1]? = some u:=by
  show its.toArray[its.length-1]? = some u
  rw [<- Array.getElem?_toList,<- hl]
  exact hu
 refine call_meets F.slot_list_pop ⟨_,e,rfl⟩ F.entry_list_pop (F.args_list_pop_1 _) (MeetsSeq.list_pop_last l its.toArray n u hy' (by rw [List.size_toArray];lia)) ⟨e,?_⟩
 refine ⟨y,_,I.lset (its' := its.dropLast) hH e ?_ r.dropLast ?_,ru,q⟩
 ·show its.toArray.eraseIdxIfInBounds (its.toArray.size-1)=its.dropLast.toArray
  rw [List.size_toArray,List.eraseIdxIfInBounds_toArray,zgr]
 ·rw [List.length_dropLast]
  lia
end
section
variable {prog:Program} {w:World} {A:Around} {E:Value->Shared->Prop} {s:Shared}
end
section
variable {X:Cx}
end
end L2
namespace L2
open PySem PySem.Spec PyProof.Rows
section
variable {κ:Type} [DecidableEq κ]
def valV (kvs:List (κ×V)) (k:κ):Option V:=(kvs.find? fun kv=>decide (kv.1=k)).map (·.2)
def putK (kvs:List (κ×V)) (k:κ) (v:V):List (κ×V) :=
 if (kvs.any fun kv=>decide (kv.1=k))=true then kvs.map (fun kv=>if kv.1=k then (kv.1,v) else kv) else kvs++[(k,v)]
theorem zbB {p:κ×V} {r:List (κ×V)} {k:κ} (e:p.1=k):valV (p::r) k=some p.2:=by simp [valV,List.find?_cons,e]
theorem zbk {p:κ×V} {r:List (κ×V)} {k:κ} (e : ¬ p.1=k):valV (p::r) k=valV r k:=by simp [valV,List.find?_cons,e]
theorem zcT (k:κ):∀ kvs:List (κ×V),(kvs.any fun kv=>decide (kv.1=k))=(valV kvs k).isSome
 | []=>rfl
 | p::r=>by
  rw [List.any_cons]
  by_cases e:p.1=k
  ·simp only [zbB e,decide_eq_true e,Bool.true_or,Option.isSome_some]
  ·rw [zbk e,decide_eq_false e,Bool.false_or];exact zcT k r
theorem zcD (kvs:List (κ×V)) (k:κ) (v:V):(putK kvs k v).length<=kvs.length+1:=by
 unfold putK
 split
 ·rw [List.length_map];lia
 ·rw [List.length_append,List.length_cons,List.length_nil];lia
theorem RelO.isSome_eq {o:Option V} {u:Option Value} (r:RelO o u):o.isSome=u.isSome:=by
 cases o with
 | none=>cases u with
  | none=>rfl
  | some _=>exact (show False from r).elim
 | some _=>cases u with
  | none=>exact (show False from r).elim
  | some _=>rfl
theorem KV.val {kvs:List (κ×V)} {vs:List (κ×Value)} (r:KV kvs vs) (k:κ):RelO (valV kvs k) (valueAt vs k):=by
 unfold KV at r
 induction r with
 | nil=>exact True.intro
 | @cons p q ps qs h t ih =>
  obtain ⟨h1,h2⟩:=h
  by_cases e:p.1=k
  ·have e':q.1=k:=h1.symm.trans e
   have b:valueAt (q::qs) k=some q.2:=by simp [valueAt,List.find?_cons,e']
   rw [zbB e,b];exact h2
  ·have e' : ¬ q.1=k:=fun z=>e (h1.trans z)
   have b:valueAt (q::qs) k=valueAt qs k:=by simp [valueAt,List.find?_cons,e']
   rw [zbk e,b];exact ih
theorem KV.any {kvs:List (κ×V)} {vs:List (κ×Value)} (r:KV kvs vs) (k:κ):(kvs.any fun kv=>decide (kv.1=k))=vs.any fun kv=>decide (kv.1=k):=by
 unfold KV at r
 induction r with
 | nil=>rfl
 | cons h t ih=>rw [List.any_cons,List.any_cons,ih,h.1]
theorem KV.repl {kvs:List (κ×V)} {vs:List (κ×Value)} (r:KV kvs vs) (k:κ) {y:V} {u:Value} (ry:RelV y u) :
  KV (kvs.map fun kv=>if kv.1=k then (kv.1,y) else kv) (vs.map fun kv=>if kv.1=k then (kv.1,u) else kv):=by
 unfold KV at r ⊢
 induction r with
 | nil=>exact .nil
 | @cons p q ps qs h t ih =>
  rw [List.map_cons,List.map_cons]
  refine .cons ?_ ih
  obtain ⟨h1,h2⟩:=h
  by_cases e:p.1=k
  ·rw [if_pos e,if_pos (h1.symm.trans e)];exact ⟨h1,ry⟩
  ·rw [if_neg e,if_neg (fun z=>e (h1.trans z))];exact ⟨h1,h2⟩
theorem KV.put {kvs:List (κ×V)} {vs:List (κ×Value)} (r:KV kvs vs) (k:κ) {y:V} {u:Value} (ry:RelV y u):KV (putK kvs k y) (stored vs k u):=by
 unfold putK stored
 rw [r.any k]
 by_cases e:(vs.any fun kv=>decide (kv.1=k))=true
 ·rw [if_pos e,if_pos e];exact r.repl k ry
 ·rw [if_neg e,if_neg e];exact Paired.snoc r ⟨rfl,ry⟩
theorem KV.length {kvs:List (κ×V)} {vs:List (κ×Value)} (r:KV kvs vs):kvs.length=vs.length:=Paired.length r
end
theorem yfd {P:Program} {w:World} {k:Key} {u:Value} (r:RelV (kV k) u):(ybl P w).is k u=true:=by
 cases k with
 | inl i=>obtain ⟨t,e⟩:=(show ∃ t,u=Value.int i t from r);subst e;exact zcz P w i t
 | inr x=>obtain ⟨t,e⟩:=(show ∃ t,u=Value.str x t from r);subst e;exact zcA P w x t
theorem ygI {P:Program} {w:World} {y:V} {k:Key} {u:Value} (e:kOf y=some k) (r:RelV y u):(ybl P w).is k u=true:=by
 cases y with
 | int i=>cases e;obtain ⟨t,e⟩:=(show ∃ t,u=Value.int i t from r);subst e;exact zcz P w i t
 | str x=>cases e;obtain ⟨t,e⟩:=(show ∃ t,u=Value.str x t from r);subst e;exact zcA P w x t
 | bl b=>cases e;cases (show u=Value.bool b from r);exact decide_eq_true rfl
 | _=>cases e
theorem zdX {P:Program} {w:World}:∀ {ys:List V} {ks:List Key} {us:List Value},ys.map kOf=ks.map some->Vals ys us->ItemsAre (ybl P w) ks us
 | [],[],_,_,r=>by cases r;exact .nil
 | [],_::_,_,e,_=>by simp at e
 | _::_,[],_,e,_=>by simp at e
 | y::ys,k::ks,_,e,r=>by
  rw [List.map_cons,List.map_cons] at e
  injection e with e1 e2
  cases r with
  | cons h t=>exact .cons (ygI e1 h) (zdX e2 t)
def KTup (H:Hp) (b:Addr) (k:List Key):Prop:=∃ ys,H b=some (.tup ys)/\ys.map kOf=k.map some
theorem KTup.of {H:Hp} {b:Addr} {k:List Key} (e:H b=some (.tup (k.map kV))):KTup H b k:=⟨_,e,by rw [List.map_map];exact List.map_congr_left fun x _=>ygh x⟩
abbrev KT (H:Hp):List (List Key×V)->List (List Key×Addr×Value)->Prop:=Paired fun p q=>p.1=q.1/\(∃ ys,H q.2.1=some (.tup ys)/\ys.map kOf=p.1.map some)/\RelV p.2 q.2.2
theorem KT.val {H:Hp} {kvs:List (List Key×V)} {xs:List (List Key×Addr×Value)} (r:KT H kvs xs) (k:List Key):RelO (valV kvs k) ((atKey xs k).map (·.2)):=by
 induction r with
 | nil=>exact True.intro
 | @cons p q ps qs h t ih =>
  obtain ⟨h1,_,h2⟩:=h
  by_cases e:p.1=k
  ·have e':q.1=k:=h1.symm.trans e
   have b:atKey (q::qs) k=some q.2:=by simp [atKey,List.find?_cons,e']
   rw [zbB e,b];exact h2
  ·have e' : ¬ q.1=k:=fun z=>e (h1.trans z)
   have b:atKey (q::qs) k=atKey qs k:=by simp [atKey,List.find?_cons,e']
   rw [zbk e,b];exact ih
theorem KT.repl {H:Hp} {kvs:List (List Key×V)} {xs:List (List Key×Addr×Value)} (r:KT H kvs xs) (k:List Key) {y:V} {u:Value} (ry:RelV y u) :
  KT H (kvs.map fun kv=>if kv.1=k then (kv.1,y) else kv) (xs.map (putAt k u)):=by
 induction r with
 | nil=>exact .nil
 | @cons p q ps qs h t ih =>
  rw [List.map_cons,List.map_cons]
  refine .cons ?_ ih
  obtain ⟨h1,h2,h3⟩:=h
  unfold putAt
  by_cases e:p.1=k
  ·rw [if_pos e,if_pos (h1.symm.trans e)];exact ⟨h1,h2,ry⟩
  ·rw [if_neg e,if_neg (fun z=>e (h1.trans z))];exact ⟨h1,h2,h3⟩
theorem KT.put {H:Hp} {kvs:List (List Key×V)} {xs:List (List Key×Addr×Value)} (r:KT H kvs xs) (k:List Key) {b:Addr} {y:V} {u:Value} (hb:KTup H b k) (ry:RelV y u) :
  KT H (putK kvs k y) (storedH xs k b u):=by
 have e:(kvs.any fun kv=>decide (kv.1=k))=(atKey xs k).isSome:=by
  rw [zcT,(r.val k).isSome_eq,Option.isSome_map]
 unfold putK storedH
 rw [e]
 by_cases q:(atKey xs k).isSome=true
 ·rw [if_pos q,if_pos q];exact r.repl k ry
 ·rw [if_neg q,if_neg q];exact Paired.snoc r ⟨rfl,hb,ry⟩
theorem KT.keeps {H H':Hp} {kvs:List (List Key×V)} {xs:List (List Key×Addr×Value)} (r:KT H kvs xs) (ht:∀ b ys,H b=some (.tup ys)->H' b=some (.tup ys)):KT H' kvs xs :=
 Paired.mapP r fun _ _ z=>⟨z.1,z.2.1.imp fun _ e=>⟨ht _ _ e.1,e.2⟩,z.2.2⟩
section
variable {P:Program} {w:World} {H:Hp} {h:Heap} {a:Addr}
theorem yfX {u:HO} (ok:HOk P w H h) (e:Rd H a u):ObjOk P w H h a u:=e.ok ok
theorem yev {kvs:List (Key×V)} (ok:HOk P w H h) (e:Rd H a (.dK kvs)):kvs.length<=sizeLine/\(a == sysModules)=false/\∃ vs,KV kvs vs/\h.DictOf (ybl P w) a vs :=
 show ObjOk P w H h a (.dK kvs) from yfX ok e
theorem yhP {kvs:List (Key×V)} (ok:HOk P w H h) (e:H a=some (.dK kvs)):kvs.length<=sizeLine/\(a == sysModules)=false/\∃ vs,KV kvs vs/\h.DictOf (ybl P w) a vs:=yev ok (.inl e)
theorem yew {ks:List Key} (ok:HOk P w H h) (e:KTup H a ks):(tupleKind (ybl P w)).is h ks a:=by
 obtain ⟨ys,e,ek⟩:=e
 obtain ⟨_,its,r,o,h1,h2,n,h3⟩:=(show ObjOk P w H h a (.tup ys) from ok a _ e)
 exact ⟨o,its.toArray,n,h1,h2,h3,by simpa using zdX ek r⟩
theorem yeP {kvs:List (List Key×V)} (ok:HOk P w H h) (e:Rd H a (.dT kvs)):kvs.length<=sizeLine/\(a == sysModules)=false /\
  ∃ xs,KT H kvs xs/\h.DictOfH (tupleKind (ybl P w)) a xs:=by
 obtain ⟨z,y,xs,r,o,es,ep,h1,h2,h3,h4,h5⟩:=(show ObjOk P w H h a (.dT kvs) from yfX ok e)
 refine ⟨z,y,xs,r,o,es,ep,h1,h2,h3,h4,fun x hx=>?_,h5⟩
 have all:∀ {l:List (List Key×V)} {m:List (List Key×Addr×Value)},KT H l m->∀ x∈m,(tupleKind (ybl P w)).is h x.1 x.2.1:=by
  intro l m q
  induction q with
  | nil=>intro x hx;exact nomatch hx
  | @cons p q ps qs hq t ih =>
   intro x hx
   rcases List.mem_cons.mp hx with e | hx
   ·subst e
    exact yew ok (by rw [<- hq.1];exact hq.2.1)
   ·exact ih x hx
 exact all r x hx
theorem yhQ {kvs:List (List Key×V)} (ok:HOk P w H h) (e:H a=some (.dT kvs)):kvs.length<=sizeLine/\(a == sysModules)=false /\
  ∃ xs,KT H kvs xs/\h.DictOfH (tupleKind (ybl P w)) a xs:=yeP ok (.inl e)
end
def DGet (H:Hp) (a:Addr) (y:V) (r:Option V):Prop :=
 (∃ kvs k,Rd H a (.dK kvs)/\y=kV k/\r=valV kvs k)\/∃ kvs k b,Rd H a (.dT kvs)/\y = .ref b/\KTup H b k/\r=valV kvs k
def DPut (H:Hp) (a:Addr) (y v:V) (H':Hp):Prop :=
 (∃ kvs k,H a=some (.dK kvs)/\y=kV k/\kvs.length<sizeLine/\H'=upd H a (.dK (putK kvs k v))) \/
 ∃ kvs k b,H a=some (.dT kvs)/\y = .ref b/\KTup H b k/\kvs.length<sizeLine/\H'=upd H a (.dT (putK kvs k v))
theorem DGet.k {H:Hp} {a:Addr} {kvs:List (Key×V)} {k:Key} (e:H a=some (.dK kvs)):DGet H a (kV k) (valV kvs k):=.inl ⟨kvs,k,.inl e,rfl,rfl⟩
theorem DGet.t {H:Hp} {a b:Addr} {kvs:List (List Key×V)} {k:List Key} (e:H a=some (.dT kvs)) (eb:KTup H b k):DGet H a (.ref b) (valV kvs k):=.inr ⟨kvs,k,b,.inl e,rfl,eb,rfl⟩
theorem DPut.k {H:Hp} {a:Addr} {kvs:List (Key×V)} {k:Key} {v:V} (e:H a=some (.dK kvs)) (hl:kvs.length<sizeLine):DPut H a (kV k) v (upd H a (.dK (putK kvs k v))):=.inl ⟨kvs,k,e,rfl,hl,rfl⟩
theorem DPut.t {H:Hp} {a b:Addr} {kvs:List (List Key×V)} {k:List Key} {v:V} (e:H a=some (.dT kvs)) (eb:KTup H b k) (hl:kvs.length<sizeLine) :
  DPut H a (.ref b) v (upd H a (.dT (putK kvs k v))):=.inr ⟨kvs,k,b,e,rfl,eb,hl,rfl⟩
section
variable {X:Cx} {pins:List (Addr×Obj)} {σ:St} {H:Hp} {s:Shared} {a:Addr} {y v:V} {u r:Value} {o:Option V} {A:Around} {E:Value->Shared->Prop}
theorem Inv.big (I:Inv X pins σ H s):sysModules<s.heap.objs.size:=by
 have h:mainGlobals<s.heap.objs.size:=(I.mod.glob.keeps I.bk).lt
 exact Nat.lt_trans (by decide) h
theorem zg1 {Q:Value->Shared->Prop} (hu:A.units+1<cLine) (I:Inv X pins σ H s) (g:DGet H a y (some v)) (ry:RelV y u) (h:∀ w' s',Inv X pins σ H s'->RelV v w'->Q w' s') :
  wpAny (model X.prog X.w) A (getItem (.ref a) u) Q E s:=by
 rcases g with ⟨kvs,k,e,ey,l⟩ | ⟨kvs,k,b,e,ey,eb,l⟩
 ·subst ey
  obtain ⟨z,hd,vs,rel,dd⟩:=yev I.hok e
  obtain ⟨w',hw,rw'⟩:=RelO.some_of (v:=v) (o:=valueAt vs k) (by rw [l];exact rel.val k)
  exact wpAny_getItem_of (yfd ry) dd.mapOf hw (h w' _ (I.tok _) rw')
 ·subst ey
  cases (show u=Value.ref b from ry)
  obtain ⟨z,hd,xs,rel,dd⟩:=yeP I.hok e
  obtain ⟨w',hw,rw'⟩:=RelO.some_of (v:=v) (o:=(atKey xs k).map (·.2)) (by rw [l];exact rel.val k)
  obtain ⟨p,hp,hp2⟩:=Option.map_eq_some_iff.mp hw
  refine wpAny_getItem_heap (tupleKind_room_in1 hu) (yew I.hok eb) dd hp ?_
  rw [hp2]
  exact h w' _ (I.tok _) rw'
theorem zi1 {Q:Value->Shared->Prop} (hu:A.units+1<cLine) (I:Inv X pins σ H s) (g:DGet H a y o) (ry:RelV y u) (h:∀ s',Inv X pins σ H s'->Q (.bool (!o.isSome)) s') :
  wpAny (model X.prog X.w) A (compareOp .NotIn u (.ref a)) Q E s:=by
 rcases g with ⟨kvs,k,e,ey,l⟩ | ⟨kvs,k,b,e,ey,eb,l⟩
 ·subst ey
  obtain ⟨z,hd,vs,rel,dd⟩:=yev I.hok e
  refine wpAny_notIn_of (yfd ry) hd dd.mapOf ?_
  rw [<- (rel.val k).isSome_eq,<- l]
  exact h _ (I.tok _)
 ·subst ey
  cases (show u=Value.ref b from ry)
  obtain ⟨z,hd,xs,rel,dd⟩:=yeP I.hok e
  refine wpAny_notIn_heap (tupleKind_room_in1 hu) (yew I.hok eb) hd dd ?_
  have q:=(rel.val k).isSome_eq
  rw [Option.isSome_map] at q
  rw [<- q,<- l]
  exact h _ (I.tok _)
theorem zfD {h':Heap} {t':Nat} {ob:HO} (I:Inv X pins σ H s) (mu:Mut (H a)) (hs:Heap.SameBut a s.heap h') (he:∃ q,h'.get? a=some q) (new:ObjOk X.prog X.w (upd H a ob) h' a ob) :
  Inv X pins σ (upd H a ob) { s with heap:=h',toks:=t' } :=
 I.write (x:=a) (e:=a) mu (.inl rfl) (fun b q hb z=>(hs.2 b hb).trans z) he new
theorem ygJ {P:Program} {w:World} {H':Hp} {h':Heap} {kvs:List (Key×V)} {vs:List (Key×Value)} (z:kvs.length<=sizeLine) (hd:(a == sysModules)=false) (rel:KV kvs vs) (dd:h'.DictOf (ybl P w) a vs) :
  ObjOk P w H' h' a (.dK kvs):=⟨z,hd,vs,rel,dd⟩
theorem zg2 {H':Hp} {Q:Unit->Shared->Prop} (hu:A.units+1<cLine) (I:Inv X pins σ H s) (g:DPut H a y v H') (ry:RelV y u) (rv:RelV v r) (h:∀ s',Inv X pins σ H' s'->Q () s') :
  wpAny (model X.prog X.w) A (setItem (.ref a) u r) Q E s:=by
 rcases g with ⟨kvs,k,e,ey,l,eH⟩ | ⟨kvs,k,b,e,ey,eb,l,eH⟩
 ·subst ey eH
  obtain ⟨z,hd,vs,rel,dd⟩:=yhP I.hok e
  have hz:vs.length<=sizeLine:=by rw [<- rel.length];exact z
  have hl:(putK kvs k v).length<=sizeLine:=by have:=zcD kvs k v;lia
  refine wpAny_setItem_pairs (hsz:=hz) (yfd ry) dd fun h' dd' hs=>h _ ?_
  have he:∃ q,h'.get? a=some q:=let ⟨q,_,_,hq,_⟩:=dd';⟨q,hq⟩
  exact zfD I (by rw [e];exact True.intro) hs he (ygJ hl hd (rel.put k rv) dd')
 ·subst ey eH
  cases (show u=Value.ref b from ry)
  obtain ⟨z,hd,xs,rel,dd⟩:=yhQ I.hok e
  have hz:xs.length<=sizeLine:=by rw [<- Paired.length rel];exact z
  have hl:(putK kvs k v).length<=sizeLine:=by have:=zcD kvs k v;lia
  refine wpAny_setItem_heap (hsz:=hz) (tupleKind_room_in1 hu) (yew I.hok eb) dd fun h' dd' hs=>h _ ?_
  obtain ⟨q,es,ep,hq,h2,h3,h4,_,h5⟩:=dd'
  refine zfD I (by rw [e];exact True.intro) hs ⟨q,hq⟩ ⟨hl,hd,_,(rel.put k eb rv).keeps fun c ys ec=>?_,q,es,ep,hq,h2,h3,h4,h5⟩
  rw [yaC (yhu ec e (fun z=>nomatch z))]
  exact ec
end
section
variable {X:Cx} {pins:List (Addr×Obj)} {σ:St} {H:Hp} {s:Shared} {a:Addr} {kvs:List (Key×V)} {k:Key} {u:Value} {A:Around} {E:Value->Shared->Prop}
theorem yhR {Q:Value->Shared->Prop} (I:Inv X pins σ H s) (e:Rd H a (.dK kvs)) (h:∀ t s',Inv X pins σ H s'->Q (.int kvs.length t) s'):wpAny (model X.prog X.w) A (call (.builtin "len") [.ref a]) Q E s:=by
 obtain ⟨z,hd,vs,rel,dd⟩:=yev I.hok e
 refine call_len_dict hd dd (by rw [<- rel.length];rw [sizeLine_eq] at z;lia) ?_
 rw [<- rel.length]
 exact h _ _ (I.tok _)
end
def NoSl (i:Expr):Prop:=∀ ov iv,subscripted i false ov iv=operate [ov,iv] (getItem ov iv)
theorem zi2 {prog:Program} {w:World} {A:Around} {E:Value->Shared->Prop} {s:Shared} {env:Env} {value slice:Expr} {pos:Pos} {T id:String} {Q:Value->Shared->Prop}
  (hl:typeLookup (.type T) "__getitem__" = pure (some (.builtin id))) (hs:NoSl slice)
  (h:wpAny (model prog w) A (eval value env) (fun o s₁=>wpAny (model prog w) A (eval slice env) (fun i s₂=>s₂.TypeIs o T/\wpAny (model prog w) A (getItem o i) Q E s₂) E s₁) E s) :
  wpAny (model prog w) A (eval (.Subscript value slice pos) env) Q E s:=by
 refine Subscript_ (wpAny_mono h (fun o s₁ h₁=>wpAny_mono h₁ (fun i s₂ h₂=>?_) fun _ _ x=>x) fun _ _ x=>x)
 obtain ⟨hT,h₂⟩:=h₂
 unfold subscriptTail
 refine wpAny_bind ?_
 rw [getitemInPython_of_ne hT.not_modules]
 refine wpAny_bind (wpAny_specialOf hT hl ?_)
 have fin:wpAny (model prog w) A (subscripted slice false o i) (fun r s₃=>wpAny (model prog w) A (letTemporaryGo value o r >>= fun _=>pure r) Q E s₃) E s₂:=by
  rw [hs o i]
  exact wpAny_operating (wpAny_mono h₂ (fun r s₃ h₃=>wpAny_bind (wpAny_letTemporaryGo (wpAny_pure h₃))) fun _ _ x=>x)
 first
  | exact wpAny_pure (wpAny_bind fin)
  | exact wpAny_bind (wpAny_pure (wpAny_bind fin))
  | exact wpAny_bind fin
theorem zfc {X:Cx} {pins:List (Addr×Obj)} {σ:St} {H:Hp} {s:Shared} {a:Addr} {y:V} {o:Option V} (I:Inv X pins σ H s) (g:DGet H a y o):s.TypeIs (.ref a) "dict" := by
 rcases g with ⟨kvs,k,e,_,_⟩ | ⟨kvs,k,b,e,_,_,_⟩
 ·obtain ⟨_,_,vs,_,dd⟩:=yev I.hok e
  exact dd.typeIs
 ·obtain ⟨_,_,xs,_,dd⟩:=yeP I.hok e
  exact dd.typeIs
def yhS (td ty:TE):TE:=fun σ H Q=>td σ H fun x H1=>ty σ H1 fun y H2=>∃ a v,x = .ref a/\DGet H2 a y (some v)/\Q v H2
def yhT (td ty tv:TE):TS:=fun D σ H=>tv σ H fun v H1=>td σ H1 fun x H2=>ty σ H2 fun y H3=>∃ a H4,x = .ref a/\DPut H3 a y v H4/\D.nx σ H4
section
variable {X:Cx} {o i e value:Expr} {pos pos' tpos:Pos} {td ty tv:TE}
theorem zi3 (hu:X.A.units+1<cLine) (ho:PE X o td) (hi:PE X i ty) (hs:NoSl i):PE X (.Subscript o i pos) (yhS td ty):=by
 intro pins s σ H Q I h
 refine zi2 PySem.F.slot_dict_getitem.lookup hs (thn (ho pins s σ H _ I h) fun u s1 ⟨x,H1,I1,rx,q1⟩=>thn (hi pins s1 σ H1 _ I1 q1) fun iv s2 ⟨y,H2,I2,ry,a,v,ex,g,q2⟩=>?_)
 subst ex
 obtain rfl:u=Value.ref a:=rx
 exact ⟨zfc I2 g,zg1 hu I2 g ry fun w' s3 I3 rw' => ⟨v,H2,I3,rw',q2⟩⟩
theorem zi4 (hu:X.A.units+1<cLine) (ho:PE X o td) (hi:PE X i ty) (hv:PE X value tv) (hs:swapsWith value (some (.Subscript o i pos')) pos.line X.env=pure false) :
  PS X (.Assign [.Subscript o i pos'] value pos) (yhT td ty tv):=by
 intro pins s σ H D I h
 refine wpAny_Assign_Subscript (thn (hv pins s σ H _ I h) fun r s1 ⟨v,H1,I1,rv,q1⟩=>thn (ho pins s1 σ H1 _ I1 q1) fun u s2 ⟨x,H2,I2,rx,q2⟩=>thn (hi pins s2 σ H2 _ I2 q2) fun iv s3 ⟨y,H3,I3,ry,a,H4,ex,g,q3⟩=>?_) hs
 subst ex
 obtain rfl:u=Value.ref a:=rx
 exact zg2 hu I3 g ry rv fun s4 I4=>⟨σ,H4,I4,q3⟩
end
theorem zhV {P:Program} {w:World} {H:Hp} (h:Heap) (hb:sysModules<h.objs.size):ObjOk P w H (h.push { cls:=.type "dict",data:=.dict #[] }) h.objs.size (.dT []) :=
 ⟨Nat.zero_le _,beq_eq_false_iff_ne.mpr (Ne.symm (Nat.ne_of_lt hb)),[],.nil,_,#[],0,Heap.get?_push_size _ rfl,⟨rfl,rfl,rfl⟩,rfl,rfl,List.nodup_nil⟩
def ygK:TE:=fun _ H Q=>∀ p,H p=none->Q (.ref p) (upd H p (.dT []))
section
variable {X:Cx} {pos:Pos}
theorem zhW:PE X (.Dict [] [] pos) ygK:=fun pins s σ H Q I h =>
 wpAny_Dict_empty ⟨.ref s.heap.objs.size,_,I.laid (a:=s.heap.objs.size) (o:=.dT []) (t' := s.toks) (fun _ _ q=>Heap.get?_push_of_some _ q) (Nat.le_refl _) (zhV s.heap I.big),rfl,h _ (I.hok.fresh (Nat.le_refl _))⟩
end
section
variable {X:Cx} {pins:List (Addr×Obj)} {σ:St} {H:Hp} {s:Shared} {a:Addr} {y d:V} {u r:Value} {o:Option V} {A:Around} {E:Value->Shared->Prop}
end
section
variable {X:Cx} {o e f:Expr} {apos cpos:Pos} {td ty tx:TE}
end
section
variable {X:Cx} {pins:List (Addr×Obj)} {σ:St} {H:Hp} {s:Shared} {a:Addr} {kvs:List (Key×V)} {A:Around} {E:Value->Shared->Prop}
end
section
variable {X:Cx} {pins:List (Addr×Obj)} {σ:St} {H:Hp} {s:Shared} {a:Addr} {y:V} {u:Value} {A:Around} {E:Value->Shared->Prop}
end
end L2
namespace Att
open PySem PySem.W PySem.Calls PyProof.Rows
theorem zdg {P:Params} {h:Heap}:∀ (ns:List Int) (vs:List Value),WellAll P h vs (ns.map WData.int)->IntsAre vs ns:=by
 intro ns
 induction ns with
 | nil =>
  intro vs w
  rw [List.map_nil] at w
  cases w
  exact .nil
 | cons n ns ih =>
  intro vs w
  rw [List.map_cons] at w
  cases w with
  | cons a b =>
   cases a
   exact .cons _ _ (ih _ b)
theorem zg3 {l:OpenLaw} {n:Nat} (hn:l.most=some n) {P:Params} {h:Heap} {args:List WData} {vals:List Value}
  (hpre:l.row.toRowW.claim.pre args=true) (hwl:WellAll P h vals args) :
  ∃ a vs ns,vals=[Value.ref a]/\args=[WData.list (ns.map WData.int)]/\h.get? a=some { cls:=.type "list",data:=.seq vs.toArray }/\IntsAre vs ns/\ns.length<=n:=by
 have hsh:WShape.hasAll [] args [.list .int]=true:=(pre_splitW hpre).1
 have hc:l.pre.holds [] { args:=args }=true:=(pre_splitW hpre).2
 obtain ⟨d,r,rfl,h1,h2⟩:=hasAllW_cons hsh
 obtain rfl:=hasAllW_nil h2
 obtain ⟨xs,rfl,h3⟩:=hasW_list h1
 obtain ⟨ns,rfl⟩:=items_int h3
 have hlen:ns.length<=n:=by
  unfold OpenLaw.pre at hc
  have h4:(WTm.not (.lt (.lit (.int (n:Int))) (.len (.arg 0)))).holds [] { args:=[.list (ns.map .int)] }=true:=by
   have h4:=(holds_andW hc).1
   rw [hn] at h4
   exact h4
  have h5:=condW_of h4 (w_not (w_lt w_lit (w_len_list (w_arg rfl))))
  rw [List.length_map] at h5
  refine Nat.le_of_not_lt fun q=>?_
  have q':(n:Int)<((ns.length:Nat):Int):=by omega
  first
   | (rw [decide_eq_true q'] at h5;exact absurd h5 (by decide))
   | (simp at h5;omega)
 cases hwl with
 | cons w1 w2 =>
  cases w2
  cases w1 with
  | list ho hall=>exact ⟨_,_,ns,rfl,rfl,ho,zdg ns _ hall,hlen⟩
theorem zg4 (l:OpenLaw) (args:List WData):l.row.toRowW.claim.post args (.bool true) args=true :=
 postW_of (r:=l.row.toRowW) (X:=(true == true))
  (show WShape.has [] (.bool true) .bool=true by first | rfl | decide | simp [WShape.has,WShape.arms,WShape.armsAll])
  (show (WTm.eq .res (.lit (.bool true))).value [] { args:=args,res:=some (.bool true),after:=args }=some (.bool (true == true)) from w_eq_bool (w_res rfl) w_lit) rfl
theorem attach_call {l:OpenLaw} {n:Nat} {q:Program} {loose:List Str} {XP:(Str->Option Value)->Heap->Prop} {YP:World->Heap->Prop} {d:DefRec}
  (hn:l.most=some n) (hdf:d.params.defaults=[])
  (call:∀ (w:World) (s₀ s₁:Shared) (mg mb:Str->Option Value) (fa:Addr) (o:Obj) (pm cd doc:Value) (a:Addr) (vs:List Value) (ns:List Int),
   Ground q loose [] XP w s₀ mg mb s₁.heap->YP w s₁.heap ->
   s₁.heap.get? fa=some o->o.data = .func (docDef d.name d.params d.body d.scope pm cd doc)->s₁.heap.CodeRec cd d.name->mg d.name=some (.ref fa) ->
   s₁.heap.get? a=some { cls:=.type "list",data:=.seq vs.toArray }->IntsAre vs ns->ns.length<=n->s₁.gens = #[] ->
   codeAny (model l.prog w) callerA (.call (.ref fa) ⟨[.ref a],[]⟩) (fun r s' => r = .ok (.ret (.bool true))/\OldK s₁.heap s'.heap/\s'.os=s₁.os/\AllBare s'.gens) s₁) :
  WalkO q loose XP YP l.row.toRowW d [] (fun f vs=>PySem.call f vs):=by
 intro w s₀ s₁ mg mb G Y fa o pm cd doc dV kV ho hd hcd hD hmg hg args vals as hpre hlay hrd hwl hlo
 obtain rfl:dV = .none:=Dflts.none hD hdf
 obtain rfl:kV = .none:=Dflts.noKw hD
 obtain ⟨a,vs,ns,rfl,rfl,hobj,hints,hlen⟩:=zg3 hn hpre hwl
 refine enter_call (codeAny_mono (call w s₀ s₁ mg mb fa o pm cd doc a vs ns G Y ho (fd_plain hd) hcd hmg hobj hints hlen hg) fun r s' hq=>?_)
 obtain ⟨rfl,h2,h3,h4⟩:=hq
 exact ⟨.inl ⟨.bool true,.bool true,[],rfl,fun _=>rfl,.bool true,zg4 l _,fun _=>⟨List.Pairwise.nil,fun _ hm=>(nomatch hm)⟩⟩,h2,h3,h4⟩
section
variable {prog:Program} {w:World} {A:Around} {E:Value->Shared->Prop} {s:Shared} {K:Frag}
end
end Att
namespace L2
open PySem PySem.Spec PyProof.Rows
theorem zbZ:∀ {vs:List Value} {ns:List Int},IntsAre vs ns->Vals (ns.map V.int) vs
 | _,_,.nil=>.nil
 | _,_,.cons n t h=>.cons ⟨t,rfl⟩ (zbZ h)
def Only (H:Hp):Prop:=∀ b,H b=none\/∃ o xs,H b=some (.frz o (.lst xs))
theorem zhX {P:Program} {w:World} {K:PySem.W.Frag} {mg mb:Str->Option Value} {CX:CXT} {k:Nat} {fa a:Addr} {fd:FuncData} {x:Str} {sp:Sp} {s₁:Shared} {vs:List Value} {ns:List Int}
  (KX:K.In s₁.heap) (hns:s₁.heap.Ns mainGlobals mg) (hb:s₁.heap.Ns builtinsNs mb) (hbb:∀ x:Str,x ≠ "__name__" -> mb x=bootBuiltins x) (hlim:s₁.heap.NoLimit) (hg:s₁.gens = #[])
  (ha:s₁.heap.get? a=some { cls:=.type "list",data:=.seq vs.toArray }) (hi:IntsAre vs ns) (hl:ns.length<=sizeLine) (hr:Room k callerA)
  (F:∀ base:Heap,K.In base->base.Ns mainGlobals mg->FnOk P w K mg base CX k fa fd [x] sp) (hbind:∀ (s:Shared) (u:Value),BindsTo s fd ⟨[u],[]⟩ [(x,u)])
  (hsp:∀ H:Hp,Only H->SqL K H a (ns.map V.int)->sp [.ref a] H (fun v _=>v = .bl true) fun _ _ _=>False)
  (hCX:∀ H e s',CX [] H s₁ (fun _ _ _=>False) e s'->False) :
  codeAny (model P w) callerA (.call (.ref fa) ⟨[.ref a],[]⟩) (fun r s' => r = .ok (.ret (.bool true))/\OldK s₁.heap s'.heap/\s'.os=s₁.os/\AllBare s'.gens) s₁:=by
 have rv:=zbZ hi
 have lenV:=hi.length
 have core:∀ H:Hp,Only H->SqL K H a (ns.map V.int)->HOk P w H s₁.heap->(∀ b,H b≠none->b=a)->(H a≠none->K.lookup a=none) ->
   codeAny (model P w) callerA (.call (.ref fa) ⟨[.ref a],[]⟩) (fun r s' => r = .ok (.ret (.bool true))/\OldK s₁.heap s'.heap/\s'.os=s₁.os/\AllBare s'.gens) s₁:=by
  intro H hO hS hok hA hK
  have base_of:∀ {b:Addr} {o:Obj},s₁.heap.get? b=some o->H b=none->(hidT s₁.heap H).get? b=some o:=fun e n=>zhG e n
  have noA:∀ {b:Addr} {o:Obj} {es:Array DictEntry} {ep:Nat},s₁.heap.get? b=some o->o.data = .dict es ep->H b=none:=fun {b o es ep} e d=>by
   cases q:H b with
   | none=>rfl
   | some u =>
    have e':b=a:=hA b (by rw [q];simp)
    subst e'
    rw [ha] at e;cases e
    have d':Data.seq vs.toArray _=Data.dict es ep:=d
    cases d'
  have nsK:∀ {b:Addr} {m:Str->Option Value},s₁.heap.Ns b m->(hidT s₁.heap H).Ns b m:=fun {b m} ⟨o,es,ep,e,d,r⟩=>⟨o,es,ep,base_of e (noA e d),d,r⟩
  have hKb:K.In (hidT s₁.heap H):=fun b o e=>base_of (KX b o e) (by
   cases q:H b with
   | none=>rfl
   | some u =>
    have e':b=a:=hA b (by rw [q];simp)
    subst e'
    rw [hK (by rw [q];simp)] at e;cases e)
  have hM:Mod K mg (hidT s₁.heap H):=⟨hKb,nsK hns,⟨mb,nsK hb,hbb⟩,let ⟨mc,h1,h2⟩:=hlim;⟨mc,nsK h1,h2⟩⟩
  have e0:Env0 P w K mg (hidT s₁.heap H) callerA [] s₁ H:=⟨rfl,hM,fun b o e=>ziL e,Nat.le_of_eq (zgP _ _),trivial,fun b hb=>absurd (show b∈([]:List Addr) from hb) (by simp),hok,.of_eq hg⟩
  refine codeAny_mono ((F _ hKb (nsK hns)).run callerA [] s₁ H ⟨[.ref a],[]⟩ [.ref a] [.ref a] _ _ hr e0 (hbind s₁ (.ref a)) (.cons rfl .nil) (hsp H hO hS)) fun r s' h=>?_
  cases r with
  | error e=>exact (hCX H e s' h).elim
  | ok fl =>
   cases fl with
   | next=>exact False.elim h
   | brk=>exact False.elim h
   | cont=>exact False.elim h
   | ret u =>
    obtain ⟨v,H',os,bare,un,hok',r',q⟩:=h
    have q':v = .bl true:=q
    subst q'
    obtain rfl:u=Value.bool true:=r'
    refine ⟨rfl,OldK.of_keep fun b o e=>?_,os,bare⟩
    cases q:H b with
    | none=>exact un.keep b o e q (by intro z;exact absurd (show b∈([]:List Addr) from z) (by simp)) (by simp)
    | some u =>
     rcases hO b with z | ⟨ob,xs,z⟩
     ·rw [q] at z;cases z
     ·have z2:=un.frzs b ob _ z
      obtain ⟨e1,_⟩:=hok b _ z
      obtain ⟨e2,_⟩:=hok' b _ z2
      rw [e] at e1;cases e1
      exact e2
 cases hk:K.lookup a with
 | some o =>
  have e:=KX a o hk
  rw [ha] at e
  cases e
  refine core (fun _=>none) (fun _=>.inl rfl) (.inr ⟨_,vs.toArray,_,hk,rfl,rfl,rfl,by rw [List.size_toArray,lenV];exact hl,by simpa using rv⟩) (fun b u z=>by have z':(none:Option HO)=some u:=z;cases z') (fun b z=>absurd rfl z) fun z=>absurd rfl z
 | none =>
  refine core (fun b=>if b=a then some (.frz { cls:=.type "list",data:=.seq vs.toArray } (.lst (ns.map V.int))) else none) (fun b=>?_) (.inl (.inr ⟨{ cls:=.type "list",data:=.seq vs.toArray },if_pos rfl⟩)) (fun b u z=>?_) (fun b z=>?_) fun _=>hk
  ·by_cases hb:b=a
   ·exact .inr ⟨_,_,if_pos hb⟩
   ·exact .inl (if_neg hb)
  ·by_cases hb:b=a
   ·have z' := (if_pos hb).symm.trans z
    cases z'
    subst hb
    exact ⟨ha,by rw [List.length_map];exact hl,vs,_,rv,ha⟩
   ·have z' := (if_neg hb).symm.trans z
    cases z'
  ·by_cases hb:b=a
   ·exact hb
   ·exact absurd (if_neg hb) z
end L2
namespace L2
open PySem PySem.Spec PyProof.Rows
theorem walk_of {l:PySem.W.OpenLaw} {n k:Nat} {q:Program} {loose:List Str} {XP:(Str->Option Value)->Heap->Prop} {YP:World->Heap->Prop} {d:DefRec} {K:Params->PySem.W.Frag} {CX:World->CXT} {sp:World->Sp} {x:Str}
  (hn:l.most=some n) (hn2:n<=sizeLine) (hdf:d.params.defaults=[]) (hr:Room k callerA)
  (hY:∀ (w:World) (h:Heap),YP w h->(K w.params).In h)
  (F:∀ (w:World) (mg:Str->Option Value) (fa:Addr) (h:Heap),(K w.params).In h->h.Ns mainGlobals mg->mg d.name=some (.ref fa) ->
   ∃ fd:FuncData,(∀ (s:Shared) (u:Value),BindsTo s fd ⟨[u],[]⟩ [(x,u)]) /\
    ∀ base:Heap,(K w.params).In base->base.Ns mainGlobals mg->FnOk l.prog w (K w.params) mg base (CX w) k fa fd [x] (sp w))
  (hsp:∀ (w:World) (H:Hp) (a:Addr) (ns:List Int),ns.length<=n->Only H->SqL (K w.params) H a (ns.map V.int)->sp w [.ref a] H (fun v _=>v = .bl true) fun _ _ _=>False)
  (hCX:∀ (w:World) (H:Hp) (s:Shared) (e:Value) (s':Shared),CX w [] H s (fun _ _ _=>False) e s'->False) :
  PySem.W.WalkO q loose XP YP l.row.toRowW d [] (fun f vs=>PySem.call f vs):=by
 refine Att.attach_call hn hdf fun w s₀ s₁ mg mb fa o pm cd doc a vs ns G Y ho hd hcd hmg hobj hints hlen hg=>?_
 have KX:=hY w _ Y
 obtain ⟨fd,hb,hF⟩:=F w mg fa _ KX G.T.g hmg
 exact zhX KX G.T.g G.T.b G.T.builtins G.T.nolimit hg hobj hints (Nat.le_trans hlen hn2) hr hF hb (fun H hO hS=>hsp w H a ns hlen hO hS) fun H e s' => hCX w H s₁ e s'
end L2
namespace L2
open PySem PySem.Spec PyProof.Rows
def ybj (s:Stmt) (j:Nat):Stmt:=match s with
 | .ClassDef _ _ _ body _ _ _ _ _ _ _=>body.getD j (.Pass ⟨0,0,0,0⟩)
 | _=>.Pass ⟨0,0,0,0⟩
def yc1 (s:Stmt):Arguments:=match s with
 | .FunctionDef _ a _ _ _ _ _ _ _ _=>a
 | _=>{ posonlyargs:=[],args:=[],vararg:=none,kwonlyargs:=[],kw_defaults:=[],kwarg:=none,defaults:=[] }
def ycb (s:Stmt):List Stmt:=match s with
 | .FunctionDef _ _ b _ _ _ _ _ _ _=>b
 | _=>[]
def yah (s:Stmt):Scope:=match s with
 | .FunctionDef _ _ _ _ _ _ sc _ _ _=>sc
 | _=>{ kind:=.function,names:=[],isGenerator:=false,isCoroutine:=false }
abbrev E0:XK:=fun _ _ _=>False
structure Fun (K:PySem.W.Frag) (x qual:Str) (st:Stmt) (f:Addr) (fd:FuncData):Prop where
 ex:∃ (oc:Value) (od:Option Addr) (kV doc pm:Value) (an:Option Addr) (cdv ct:Value) (osl:Array (Option Value)),
  fd=PySem.W.fnOf x qual (yc1 st) (ycb st) (yah st) .none kV doc pm an cdv ct/\K.lookup f=some ⟨oc,od,.func fd,osl⟩/\PySem.W.codeIn K cdv qual=true
 kp:PySem.W.keepIn K (.ref f)=true
section
variable {P:Program} {w:World} {K:PySem.W.Frag} {mg:Str->Option Value} {base:Heap}
theorem Fun.binds {x qual:Str} {st:Stmt} {f:Addr} {fd:FuncData} {ps:List Str} (F:Fun K x qual st f fd)
  (h:∀ (kV doc pm:Value) (an:Option Addr) (cdv ct:Value) (us:List Value),us.length=ps.length->bindArgs (PySem.W.fnOf x qual (yc1 st) (ycb st) (yah st) .none kV doc pm an cdv ct) ⟨us,[]⟩=pure (ps.zip us)):Binds K fd ps []:=by
 obtain ⟨oc,od,kV,doc,pm,an,cdv,ct,osl,rfl,lk,hcd⟩:=F.ex
 exact .all (h kV doc pm an cdv ct)
theorem yfv {x qual:Str} {st:Stmt} {f:Addr} {oc:Value} {od an:Option Addr} {osl:Array (Option Value)} {kV doc pm cdv ct:Value} (l:K.lookup f=some ⟨oc,od,.func (PySem.W.fnOf x qual (yc1 st) (ycb st) (yah st) .none kV doc pm an cdv ct),osl⟩)
  (c:PySem.W.codeIn K cdv qual=true) (k:PySem.W.keepIn K (.ref f)=true):Fun K x qual st f (PySem.W.fnOf x qual (yc1 st) (ycb st) (yah st) .none kV doc pm an cdv ct):=⟨⟨oc,od,kV,doc,pm,an,cdv,ct,osl,rfl,l,c⟩,k⟩
end
section
variable {X:Cx}
theorem pv (i:Nat) {x:Str} {pos:Pos} (hN:X.N[i]? = some x:=by rfl) (hv:Vis X.env.scope x:=by first | exact Or.inl rfl | exact Or.inr (Or.inl rfl) | exact Or.inr (Or.inr rfl)) (hd:(x == ("__debug__" : Str))=false:=by decide)
  (hcd:(x == ("__classdict__" : Str))=false:=by decide):PE X (.Name x pos) (tVar i):=ygi hN hv hd hcd
theorem zg5:CallR X (.builtin "len") (fun xs H Q=>∃ a kvs,xs=[V.ref a]/\H a=some (.dK kvs)/\Q (.int kvs.length) H):=by
 intro pins s σ H xs us Q I r h
 obtain ⟨a,kvs,rfl,ha,q⟩:=h
 obtain ⟨u,rfl,ru⟩:=ydx r
 cases ru
 exact yhR I (.inl ha) fun t s' I' => ⟨.int kvs.length,H,I',⟨t,rfl⟩,q⟩
end
section
variable {κ:Type} [DecidableEq κ]
end
end L2
set_option maxHeartbeats 4000000
namespace L2
open PySem PySem.Spec PyProof.Rows
section
variable {X:Cx} {pins:List (Addr×Obj)} {σ:St} {H:Hp} {s:Shared} {h':Heap}
theorem Inv.turnedL {t':Nat} {fp:List Addr} (I:Inv X pins σ H s) (k:∀ b o,b∉fp->s.heap.get? b=some o->h'.get? b=some o) (hf:∀ b∈fp,FpOk X pins H b) :
  Inv X pins σ H { s with heap:=h',toks:=t' }:=by
 have nit:∀ b u,H b=some u->b∉fp:=fun b u e z=>by
  have q:=(hf b z).1
  rw [q] at e
  cases e
 refine I.step (g' := s.gens) (d' := s.drawn) (ch:=fp) (fun b hb=>?_) (fun b o _ _ hc e _=>k b o hc e) (fun b o _ _ hc e _=>⟨o.slots,k b o hc e⟩) (fun _ _ _ _ n=>n)
  (fun b o hc e=>⟨o,k b o hc e⟩) (fun _ _ e=>e) (fun _ _ _ e=>e) (fun b ps e=>⟨#[],by rw [e];simp⟩) (fun m hm=>?_) (fun b u e=>?_) I.bare
 ·obtain ⟨_,f1,_,f3,f4,f5⟩:=hf b hb
  exact ⟨f3,f1,f4,f5⟩
 ·obtain ⟨o,es,ep,ho,r⟩:=hm
  exact ⟨o,es,ep,k _ o (fun z=>(hf _ z).2.1 rfl) ho,r⟩
 ·refine (I.hok b u e).stay (fun c v hc q=>k c v ?_ q) (fun _ q=>q) fun _ _ q=>q
  rcases hc with z | z
  ·rw [z];exact nit b u e
  ·exact nit c _ z
theorem Inv.adopt {T:Addr} {ob:HO} (I:Inv X pins σ H s) (hn:H T=none) (hT:X.s₀.heap.objs.size<=T) (hL:T≠X.env.locals) (hc:∀ x c,X.env.cells.lookup x=some c->c≠T)
  (hp:∀ p∈X.pn++pins,p.1≠T) (new:ObjOk X.prog X.w (upd H T ob) s.heap T ob):Inv X pins σ (upd H T ob) s:=by
 have hne:∀ b u,H b=some u->b≠T:=fun b u e=>zav e hn
 refine I.step (h' := s.heap) (g' := s.gens) (d' := s.drawn) (t' := s.toks) (ch:=[T]) (fun b hb=>?_) (fun b o _ _ _ e _=>e) (fun b o _ _ _ e _=>⟨o.slots,e⟩) (fun b o hb e n=>?_) (fun b o _ e=>⟨o,e⟩)
  (fun b xs e=>by rw [yaC (hne b _ e)];exact e) (fun b o u e=>by rw [yaC (hne b _ e)];exact e) (fun b ps e=>⟨#[],by rw [yaC (hne b _ e),e];simp⟩) (fun m hm=>hm) (fun b u e=>?_) I.bare
 ·have e:b=T:=by simpa using hb
  subst e
  exact ⟨.inr hT,hL,hc,hp⟩
 ·rw [yaC (fun z=>hb (by simp [z]))];exact n
 ·by_cases hb:b=T
  ·subst hb;rw [zat] at e;cases e;exact new
  ·rw [yaC hb] at e
   exact (I.hok b u e).stay (fun c v _ q=>q) (fun c q=>by rw [yaC (hne c _ q)];exact q) fun c xs q=>by rw [yaC (hne c _ q)];exact q
end
def Ite (K:PySem.W.Frag) (a:Addr):It :=
 ⟨fun i H=>∃ xs x,SqL K H a xs/\xs[i]? = some x,fun i H x H' => ∃ (T:Addr) (y:V),x = .ref T/\H T=none/\H'=upd H T (.tup [.int i,y])/\∀ xs,SqL K H a xs->xs[i]? = some y,fun i H=>∃ xs,SqL K H a xs/\xs.length<=i⟩
theorem zg6 {P:Program} {w:World} {K:PySem.W.Frag} {es:List Expr} {k:Nat} {tp:Pos} (a it e:Addr) (hei:e≠it) :
  Turn P w K (.Tuple es k tp) (Ite K a) [e,it] e (fun i h=>(∃ old,IsEnum h e it i old)/\h.IsListIter it a i) where
 mem:=by simp
 obj:=fun i h st b hb=>by
  obtain ⟨⟨old,he⟩,o,ho,hc,hd⟩:=st
  have hb':b=e\/b=it:=by simpa using hb
  rcases hb' with rfl | rfl
  ·exact ⟨_,he,fun v z=>by
    have z':Data.fields _=Data.cell v:=z
    cases z'⟩
  ·exact ⟨o,ho,fun v z=>by rw [hd] at z;cases z⟩
 keep:=fun i h h' st k=>by
  obtain ⟨⟨old,he⟩,hit⟩:=st
  exact ⟨⟨old,k e (by simp) _ he⟩,hit.at fun o q=>k it (by simp) o q⟩
 item:=by
  intro X hP hw hK hc i pins s σ H E I hf st hg
  subst hP hw hK
  obtain ⟨xs,x,hq,hx⟩:=hg
  obtain ⟨its,rv,p,hz⟩:=I.list hq
  obtain ⟨u,hu,ru⟩:=rv.get hx
  obtain ⟨⟨old,he⟩,hit⟩:=st
  refine wpAny_pyNext_enum_item he hit p.isList (x:=u) (by simpa using hu) hei fun h1 ho hit1 hT hsz hk=>?_
  refine ⟨.ref s.heap.objs.size,rfl,wpAny_letOwnedTupleGo_enum ho fun h2 he2 hs2=>?_⟩
  replace hs2:Heap.SameBut e h1 h2:=hs2
  have helt:e<s.heap.objs.size:=Heap.lt_size he
  have I1:Inv X pins σ H { s with heap:=h2,toks:=s.toks+1 }:=I.turnedL (fp:=[e,it]) (fun b o hb q=>by
   have n1:b≠e:=fun z=>hb (by simp [z])
   have n2:b≠it:=fun z=>hb (by simp [z])
   exact (hs2.2 b n1).trans (hk b o n1 n2 q)) hf
  have hT2:h2.get? s.heap.objs.size=some { cls:=.type "tuple",data:=.seq #[.int i s.toks,u] }:=(hs2.2 _ (Nat.ne_of_gt helt)).trans hT
  have fp:=I.fpOk (H' := H) (Nat.le_refl s.heap.objs.size) (I.hok.fresh (Nat.le_refl _))
  obtain ⟨f0,f1,f2,f3,f4,f5⟩:=fp
  have I2:Inv X pins σ (upd H s.heap.objs.size (.tup [.int i,x])) { s with heap:=h2,toks:=s.toks+1 } :=
   I1.adopt (T:=s.heap.objs.size) f0 (I.sz) f1 f4 f5 ⟨by show 2<=sizeLine;decide,[.int i s.toks,u],.cons ⟨_,rfl⟩ (.cons ru .nil),⟨_,hT2,rfl,_,rfl⟩⟩
  refine ⟨.ref s.heap.objs.size,_,I2,rfl,⟨s.heap.objs.size,x,rfl,f0,rfl,fun ys hy=>by rw [I.list_inj hy hq];exact hx⟩,⟨⟨u,by simpa using he2⟩,hit1.extBut hs2.extBut (Ne.symm hei)⟩,fun b hb=>?_⟩
  obtain ⟨g0,_⟩:=hf b hb
  obtain ⟨o,hob,_⟩:∃ o,s.heap.get? b=some o/\True:=by
   have hb':b=e\/b=it:=by simpa using hb
   rcases hb' with rfl | rfl
   ·exact ⟨_,he,trivial⟩
   ·obtain ⟨o,q,_⟩:=hit
    exact ⟨o,q,trivial⟩
  rw [yaC (Nat.ne_of_lt (Heap.lt_size hob))]
  exact g0
 done:=by
  intro X hP hw hK hc i pins s σ H E I hf st hg
  subst hP hw hK
  obtain ⟨xs,hq,hx⟩:=hg
  obtain ⟨its,rv,p,hz⟩:=I.list hq
  obtain ⟨⟨old,he⟩,hit⟩:=st
  have hl:=rv.length
  exact wpAny_pyNext_enum_end (I.ok.hd hc) he hit p.isList (by simp;lia) fun h' eb=>⟨rfl,I.turnedL (fp:=[e,it]) (t' := s.toks) (fun b o hb q=>eb b o (fun z=>hb (by simp [z])) q) hf⟩
 self:=fun _ _ _ _ _ st h=>by
  obtain ⟨⟨old,he⟩,_⟩:=st
  exact wpAny_pyIter_enum he h
section
variable {X:Cx}
def iEnum (K:PySem.W.Frag) (ta:TA):TI:=fun σ H R=>ta σ H fun vs H1=>∃ a,vs=[.ref a]/\(∃ xs,SqL K H1 a xs)/\R (Ite K a) H1
theorem zi5 {l:Expr} {ta:TA} {p pos tp:Pos} {es:List Expr} {k:Nat} (hg:Gl X "enumerate") (hm:X.mg "enumerate" = none) (ha:PA X [l] ta) (hs:starEach [l] X.env=[(false,eval l X.env)]:=by rfl) :
  PI X (.Tuple es k tp) (.Call (.Name "enumerate" p) [l] [] pos) (iEnum X.K ta):=by
 intro pins s σ H R I h
 refine Call_ (yd7 I hg hm boot_enumerate (PyProof.Rows.callWith_type1 (thn (ha pos pins s σ H _ I h) fun us s1 ⟨vs,H1,I1,r1,q1⟩=>?_) hs rfl))
 obtain ⟨a,e,⟨xs,hq⟩,q⟩:=q1
 subst e
 cases r1 with
 | cons r rr =>
  cases rr
  cases r
  obtain ⟨its,rv,pl,hz⟩:=I1.list hq
  refine call_enumerate_list pl.isList fun h' he hit hsz hk=>wpAny_pyIter_enum he ?_
  refine ⟨s1.heap.objs.size+1,[s1.heap.objs.size+1,s1.heap.objs.size],_,_,H1,rfl,I1.kept (t' := s1.toks) fun b o e=>hk b o e,zg6 a _ _ (Nat.succ_ne_self _),⟨⟨_,he⟩,hit⟩,fun b hb=>?_,q⟩
  have hb':b=s1.heap.objs.size+1\/b=s1.heap.objs.size:=by simpa using hb
  rcases hb' with rfl | rfl
  ·exact I1.fpOk (Nat.le_succ _) (I1.hok.fresh (Nat.le_succ _))
  ·exact I1.fpOk (Nat.le_refl _) (I1.hok.fresh (Nat.le_refl _))
end
def Its (x:Str):It:=⟨fun i _=>i<x.cps.size,fun i H v H' => H'=H/\∃ c,x.cps[i]? = some c/\v = .str ⟨#[c]⟩,fun i _=>x.cps.size<=i⟩
theorem zg7 {P:Program} {w:World} {A:Around} (hh:A.handled=none) (it:Addr) (x:Str) (t:Tok) :
  Walks P w A it [it] [it] x.cps.size (SignAt x) (fun i h=>h.IsStrIter it (strIterType x) x t i):=by
 cases ha:x.cps.all (· < 128) with
 | false =>
  have e:strIterType x = "str_iterator" := by simp [strIterType,ha]
  rw [e]
  exact Walks.strWide hh it x t
 | true =>
  have e:strIterType x = "str_ascii_iterator" := by simp [strIterType,ha]
  rw [e]
  exact Walks.strAscii hh it x t
theorem zhY {P:Program} {w:World} {K:PySem.W.Frag} {y:Str} {py:Pos} (it:Addr) (x:Str) (t:Tok):Turn P w K (.Name y py) (Its x) [it] it (fun i h=>h.IsStrIter it (strIterType x) x t i) where
 mem:=by simp
 obj:=fun i h st b hb=>by
  have e:b=it:=by simpa using hb
  subst e
  obtain ⟨o,e,c,d⟩:=st
  exact ⟨o,e,fun v z=>by rw [d] at z;cases z⟩
 keep:=fun i h h' st k=>by
  obtain ⟨o,e,r⟩:=st
  exact ⟨o,k it (by simp) o e,r⟩
 item:=by
  intro X hP hw hK hc i pins s σ H E I hf st hg
  subst hP hw hK
  refine (zg7 (I.ok.hd hc) it x t).item i s _ _ hg st fun v h1 tk hv st1 kk=>?_
  obtain ⟨c,u,hcp,rfl⟩:=hv
  have I1:Inv X pins σ H { s with heap:=h1,toks:=tk }:=I.turnedL (fp:=[it]) kk hf
  exact ⟨_,rfl,wpAny_pure ⟨.str ⟨#[c]⟩,H,I1,⟨u,rfl⟩,⟨rfl,c,hcp,rfl⟩,st1,fun b hb=>(hf b hb).1⟩⟩
 done:=by
  intro X hP hw hK hc i pins s σ H E I hf st hg
  subst hP hw hK
  have hx:x.cps[i]? = none:=Array.getElem?_eq_none hg
  cases ha:x.cps.all (· < 128) with
  | false =>
   have e:strIterType x = "str_iterator" := by simp [strIterType,ha]
   rw [e] at st
   exact wpAny_pyNext_wide_end (I.ok.hd hc) st hx fun h' eb=>⟨rfl,I.turnedL (fp:=[it]) (t' := s.toks) (fun b o hb q=>eb b o (fun z=>hb (by simp [z])) q) hf⟩
  | true =>
   have e:strIterType x = "str_ascii_iterator" := by simp [strIterType,ha]
   rw [e] at st
   exact wpAny_pyNext_ascii_end (I.ok.hd hc) st hx fun h' eb=>⟨rfl,I.turnedL (fp:=[it]) (t' := s.toks) (fun b o hb q=>eb b o (fun z=>hb (by simp [z])) q) hf⟩
 self:=fun A i s Q E st h=>by
  cases ha:x.cps.all (· < 128) with
  | false =>
   have e:strIterType x = "str_iterator" := by simp [strIterType,ha]
   rw [e] at st
   exact wpAny_pyIter_striter_wide st h
  | true =>
   have e:strIterType x = "str_ascii_iterator" := by simp [strIterType,ha]
   rw [e] at st
   exact wpAny_pyIter_striter_ascii st h
section
variable {X:Cx}
def iStr (tl:TE):TI:=fun σ H R=>tl σ H fun x H1=>∃ t,x = .str t/\R (Its t) H1
theorem ygL {l:Expr} {tl:TE} {y:Str} {py:Pos} (hl:PE X l tl):PI X (.Name y py) l (iStr tl):=by
 intro pins s σ H R I h
 refine thn (hl pins s σ H _ I h) fun v s1 ⟨x,H1,I1,r1,q1⟩=>?_
 obtain ⟨t,e,q⟩:=q1
 subst e
 obtain ⟨tk,rfl⟩:=r1
 refine wpAny_pyIter_strU ?_
 refine ⟨s1.heap.objs.size,[s1.heap.objs.size],_,_,H1,rfl,I1.kept (t' := s1.toks) fun b o e=>Heap.get?_push_of_some _ e,zhY _ t tk,⟨_,Heap.get?_push_size _ rfl,rfl,rfl⟩,fun b hb=>?_,q⟩
 have e:b=s1.heap.objs.size:=by simpa using hb
 subst e
 exact I1.fpOk (Nat.le_refl _) (I1.hok.fresh (Nat.le_refl _))
end
def yav (env:Env):List (Str×NameKind)->List (Str×Addr)->List (Str×Addr)
 | [],acc=>acc
 | (n,k)::r,acc=>yav env r (if k = .free then (n,(env.cells.lookup n).getD 0)::acc else acc)
theorem zdh {env:Env} {scope:Scope} (h:∀ y∈scope.names,y.2 = .free->(env.cells.lookup y.1).isSome=true):closureFor scope env=pure (yav env scope.names []):=by
 have all:∀ (l:List (Str×NameKind)) (acc:List (Str×Addr)),(∀ y∈l,y.2 = .free->(env.cells.lookup y.1).isSome=true) ->
   (forIn l acc fun (x:Str×NameKind) (cs:List (Str×Addr))=>if (x.2 == NameKind.free)=true then (do let a <- cellOf env x.1;pure (ForInStep.yield ((x.1,a)::cs))) else (pure (ForInStep.yield cs):Sem _))=pure (yav env l acc):=by
  intro l
  induction l with
  | nil=>intro acc _;rfl
  | cons y r ih =>
   intro acc hl
   obtain ⟨n,k⟩:=y
   rw [List.forIn_cons]
   have hr:=fun z hz=>hl z (List.mem_cons_of_mem _ hz)
   by_cases hk:k = .free
   ·subst hk
    obtain ⟨c,hc⟩:=Option.isSome_iff_exists.mp (hl (n,.free) List.mem_cons_self rfl)
    have e1:cellOf env n=pure c:=by
     simp only [cellOf]
     have hc':env.cells.lookup n=some c:=hc
     rw [hc']
    simp only [beq_self_eq_true,if_true,e1,pure_bind,yav]
    have hc':env.cells.lookup n=some c:=hc
    rw [hc']
    exact ih _ hr
   ·have hb:(k == NameKind.free)=false:=by simpa using hk
    simp only [hb,Bool.false_eq_true,if_false,pure_bind,yav,hk]
    exact ih _ hr
 unfold closureFor
 have q:=all scope.names [] h
 first
  | exact q
  | (simp only [bind_pure];exact q)
  | (rw [<- q];simp)
theorem zbl {env:Env}:∀ {l:List (Str×NameKind)} {acc:List (Str×Addr)},(∀ y∈l,y.2 = .free->(env.cells.lookup y.1).isSome=true)->(∀ y c,acc.lookup y=some c->env.cells.lookup y=some c) ->
  ∀ y c,(yav env l acc).lookup y=some c->env.cells.lookup y=some c
 | [],_,_,h,y,c,e=>h y c e
 | (n,k)::r,acc,hl,h,y,c,e=>by
  refine zbl (l:=r) (fun z hz=>hl z (List.mem_cons_of_mem _ hz)) ?_ y c e
  intro y c e
  by_cases hk:k = .free
  ·rw [if_pos hk] at e
   rw [List.lookup_cons] at e
   cases hy:y == n with
   | true =>
    rw [hy] at e
    have e':y=n:=by simpa using hy
    obtain ⟨c',hc'⟩:=Option.isSome_iff_exists.mp (hl (n,k) List.mem_cons_self hk)
    have hc'':env.cells.lookup n=some c' := hc'
    rw [hc''] at e
    rw [e',hc'']
    exact e
   | false =>
    rw [hy] at e
    exact h y c e
  ·rw [if_neg hk] at e
   exact h y c e
theorem zbm {env:Env}:∀ {l:List (Str×NameKind)} {acc:List (Str×Addr)} {y:Str},(y,NameKind.free)∈l\/(acc.lookup y).isSome=true->((yav env l acc).lookup y).isSome=true
 | [],_,_,h=>by
  rcases h with h | h
  ·cases h
  ·exact h
 | (n,k)::r,acc,y,h=>by
  refine zbm (l:=r) ?_
  rcases h with h | h
  ·rcases List.mem_cons.mp h with e | e
   ·right
    cases e
    rw [if_pos rfl,List.lookup_cons]
    simp
   ·exact .inl e
  ·right
   by_cases hk:k = .free
   ·rw [if_pos hk,List.lookup_cons]
    cases hy:y == n with
    | true=>rfl
    | false=>exact h
   ·rw [if_neg hk];exact h
theorem zas {names:List (Str×NameKind)} {x:Str} {k:NameKind} (h:names.lookup x=some k):(x,k)∈names:=PySem.mem_of_lookup h
theorem zay {env:Env} {x:Str} {k:NameKind}:∀ {names:List (Str×NameKind)},(names.map fun (n,k)=>if (k == NameKind.free && env.scope.kind == .function && env.kindOf n == some .cell) then (n,NameKind.cell) else (n,k)).lookup x=some k ->
  names.lookup x=some k\/(k = .cell/\names.lookup x=some .free)
 | [],h=>by simp at h
 | (n,kk)::r,h=>by
  have ih:=@zay env x k r
  by_cases hc:(kk == NameKind.free && env.scope.kind == .function && env.kindOf n == some .cell)=true
  ·have hf:kk = .free:=by
    have q:=(Bool.and_eq_true _ _).mp ((Bool.and_eq_true _ _).mp hc).1
    simpa using q.1
   subst hf
   have h':List.lookup x ((n,NameKind.cell)::(r.map fun (n,k)=>if (k == NameKind.free && env.scope.kind == .function && env.kindOf n == some .cell) then (n,NameKind.cell) else (n,k)))=some k:=by
    have e:(fun (p:Str×NameKind)=>match p with | (n,k)=>if (k == NameKind.free && env.scope.kind == .function && env.kindOf n == some .cell)=true then (n,NameKind.cell) else (n,k)) (n,NameKind.free)=(n,NameKind.cell):=by
     show (if _ then _ else _)=_
     rw [if_pos hc]
    rw [List.map_cons] at h
    rw [<- e]
    exact h
   rw [List.lookup_cons] at h' ⊢
   cases hx:x == n with
   | true =>
    rw [hx] at h'
    right
    exact ⟨(Option.some.inj h').symm,rfl⟩
   | false =>
    rw [hx] at h'
    exact ih h'
  ·have h':List.lookup x ((n,kk)::(r.map fun (n,k)=>if (k == NameKind.free && env.scope.kind == .function && env.kindOf n == some .cell) then (n,NameKind.cell) else (n,k)))=some k:=by
    have e:(fun (p:Str×NameKind)=>match p with | (n,k)=>if (k == NameKind.free && env.scope.kind == .function && env.kindOf n == some .cell)=true then (n,NameKind.cell) else (n,k)) (n,kk)=(n,kk):=by
     show (if _ then _ else _)=_
     rw [if_neg hc]
    rw [List.map_cons] at h
    rw [<- e]
    exact h
   rw [List.lookup_cons] at h' ⊢
   cases hx:x == n with
   | true =>
    rw [hx] at h'
    exact .inl h'
   | false =>
    rw [hx] at h'
    exact ih h'
def ya5 (X:Cx) (pins:List (Addr×Obj)) (x₁:Str) (jf:List (Nat×Str)) (scope:Scope) (cl:List (Str×Addr)) (s:Shared) (H:Hp) (fp:List Addr):Cx where
 prog:=X.prog
 w:=X.w
 K:=X.K
 mg:=X.mg
 base:=X.base
 A:=X.A
 N:=x₁::jf.map (·.2)
 s₀:=s
 H₀:=H
 env:=compEnvC scope cl s.heap.objs.size X.env
 outer:=X.stack
 stack:=X.stack
 ex:=fp
 fn:=fun _=>false
 calm:=X.calm
 pn:=X.pn++pins
 xe:=fun _ _=>False
def ybD (v:Option V) (js:List (Nat×Str)) (σ:St):St:=v::js.map fun j=>(σ[j.1]?).join
def PTs (X:Cx) (ifs:List Expr) (t:TT):Prop :=
 ∀ (pins:List (Addr×Obj)) (s:Shared) (σ:St) (H:Hp) (Q:Bool->Hp->Prop),Inv X pins σ H s->t σ H Q ->
  wpAny (model X.prog X.w) X.A (forIn ifs true fun c r=>if r=true then do let ok <- isTrue c X.env (eval c X.env);pure (ForInStep.yield ok) else pure (ForInStep.yield r)) (TP X pins σ Q) X.xe s
def tYes:TT:=fun _ H Q=>Q true H
theorem zi6 {X:Cx}:PTs X [] tYes:=fun pins s σ H Q I h=>wpAny_tests_nil ⟨H,I,h⟩
theorem zi7 {X:Cx} {c:Expr} {t:TT} (hc:PT X c t):PTs X [c] t:=fun pins s σ H Q I h=>wpAny_tests_one (hc pins s σ H Q I h)
def yex (jf:List (Nat×Str)) (wi:TI) (tc:TT) (te:TE):TE:=fun σ H Q=>wi σ H fun J H1=>∀ D,H1 D=none->∃ W:Nat->Nat->List V->Hp->Prop,(∃ m,W 0 m [] (upd H1 D (.lst []))) /\
 ∀ i m ys H2,W i m ys H2->H2 D=some (.lst ys)/\((J.stop i H2/\Q (.ref D) H2)\/(J.go i H2/\ys.length<sizeLine/\∀ x H3,J.yld i H2 x H3->tc (ybD (some x) jf σ) H3 fun b H5 =>
  if b=true then te (ybD (some x) jf σ) H5 fun v H6=>H6 D=some (.lst ys)/\∃ m',m'<m/\W (i+1) m' (ys++[v]) (upd H6 D (.lst (ys++[v]))) else ∃ m',m'<m/\W (i+1) m' ys H5))
section
variable {X:Cx} {pins:List (Addr×Obj)} {σ:St} {H:Hp} {s:Shared} {x₁:Str} {jf:List (Nat×Str)} {scope:Scope} {fp:List Addr}
theorem Inv.block {h1:Heap} {tk:Nat} (I:Inv X pins σ H s) (hf:∀ b∈fp,FpOk X pins H b) (hlt:∀ b∈fp,b<s.heap.objs.size) (hjf:∀ p∈jf,X.N[p.1]? = some p.2) (hjl:∀ p∈jf,scope.names.lookup p.2=some .free) (hkind:scope.kind = .function)
  (hcell:∀ y∈scope.names,y.2 ≠ .cell) (hfr:∀ y∈scope.names,y.2 = .free->X.env.kindOf y.1=some .cell\/X.env.kindOf y.1=some .free)
  (hn:h1.Ns s.heap.objs.size (fun _=>none)) (hk:∀ b o,s.heap.get? b=some o->h1.get? b=some o) :
  Inv (ya5 X pins x₁ jf scope (yav X.env scope.names []) s H fp) [] (ybD none jf σ) H { s with heap:=h1,toks:=tk }:=by
 have hsome:∀ y∈scope.names,y.2 = .free->(X.env.cells.lookup y.1).isSome=true:=fun y hy hyf=>Option.isSome_iff_exists.mpr (I.ok.has y.1 (hfr y hy hyf))
 have sub:∀ y c,(yav X.env scope.names []).lookup y=some c->X.env.cells.lookup y=some c:=zbl hsome (fun y c e=>by simp at e)
 have hsz:=I.sz
 have inE:∀ b,b∈(ya5 X pins x₁ jf scope (yav X.env scope.names []) s H fp).ex->b∈fp:=fun b z=>z
 have stk:∀ b∈frs X.stack,b<s.heap.objs.size:=fun b hb=>by
  obtain ⟨_,o,ho,_⟩:=I.stack.mem hb
  exact Heap.lt_size ho
 refine ⟨⟨I.ok.mod,hkind,I.ok.glob,I.ok.blt,Nat.le_refl _,fun y z c e1 e2=>I.ok.inj y z c (sub y c e1) (sub z c e2),fun y hy=>?_,fun y c hfn _=>(by cases hfn),I.ok.hd,I.ok.frames,.inl rfl,fun b hb=>?_,fun b o e=>I.bs b o e,Nat.le_trans I.ok.bsz hsz,fun b o e z=>?_,fun b hb z=>?_,I.stack,I.stkFree⟩,
  rfl,I.bare,Un.kept hk,⟨_,hn,fun i y v e1 e2 e3=>?_⟩,fun y c e=>?_,I.hok.fresh (Nat.le_refl _),fun y c e=>I.freeC y c (sub y c e),fun p hp=>?_,I.hok.kept hk,?_⟩
 ·have hy':(relabel scope X.env).names.lookup y=some .cell\/(relabel scope X.env).names.lookup y=some .free:=hy
  have mem:(y,NameKind.free)∈scope.names:=by
   rcases hy' with q | q
   ·rcases zay (env:=X.env) q with z | z
    ·exact absurd rfl (hcell _ (zas z))
    ·exact zas z.2
   ·rcases zay (env:=X.env) q with z | z
    ·exact zas z
    ·exact zas z.2
  exact Option.isSome_iff_exists.mp (zbm (.inl mem))
 ·exact ⟨Nat.ne_of_lt (hlt b hb),fun y c e=>(hf b hb).2.2.2.2.1 y c (sub y c e)⟩
 ·rcases (hf b z).2.2.2.1 with q | q
  ·exact I.ok.noex b o e q
  ·exact absurd (Nat.lt_of_lt_of_le (Heap.lt_size e) (Nat.le_trans I.ok.bsz q)) (Nat.lt_irrefl _)
 ·rcases List.mem_cons.mp (I.stkSub b z) with q | q
  ·exact (hf b hb).2.1 q
  ·exact (hf b hb).2.2.1 q
 ·have e1':(x₁::jf.map (·.2))[i]? = some y:=e1
  unfold ybD at e2
  cases i with
  | zero=>cases e2
  | succ i =>
   rw [List.getElem?_cons_succ,List.getElem?_map] at e1' e2
   cases q:jf[i]? with
   | none=>rw [q] at e2;cases e2
   | some p =>
    rw [q] at e1' e2
    have ey:p.2=y:=Option.some.inj e1'
    have ev:(σ[p.1]?).join=some v:=Option.some.inj e2
    have hp:p∈jf:=List.mem_of_getElem? q
    have eσ:σ[p.1]? = some (some v):=by
     cases z:σ[p.1]? with
     | none=>rw [z] at ev;cases ev
     | some r=>rw [z] at ev;rw [show r=some v from ev]
    have hfree:scope.names.lookup y=some .free:=by rw [<- ey];exact hjl p hp
    have mem:=zas hfree
    have kX:=hfr _ mem rfl
    obtain ⟨m,hnX,hl⟩:=I.loc
    obtain ⟨u,ru,lk⟩:=hl p.1 y v (by rw [<- ey];exact hjf p hp) eσ (by
     rcases kX with z | z
     ·exact .inr (.inl z)
     ·exact .inr (.inr z))
    refine ⟨u,ru,.inr ⟨?_,?_⟩⟩
    ·have e3':Vis (relabel scope X.env) y:=e3
     rcases e3' with z | z | z
     ·exfalso
      rcases zay (env:=X.env) z with q | q
      ·rw [hfree] at q;cases q
      ·cases q.1
     ·exact .inl z
     ·exact .inr z
    ·rcases lk with ⟨z,_⟩ | ⟨_,c,hc,hcell'⟩
     ·exfalso
      rcases kX with q | q
      ·rw [show X.env.kindOf y=some .cell from q] at z;cases z
      ·rw [show X.env.kindOf y=some .free from q] at z;cases z
     ·obtain ⟨c',hc'⟩:=Option.isSome_iff_exists.mp (zbm (env:=X.env) (acc:=[]) (.inl mem))
      have e:=sub y c' hc'
      rw [hc] at e
      cases e
      obtain ⟨o,ho,hd⟩:=hcell'
      exact ⟨c,hc',o,hk c o ho,hd⟩
 ·obtain ⟨v,o,ho,hd⟩:=I.cell y c (sub y c e)
  exact ⟨v,o,hk c o ho,hd⟩
 ·have hp':p∈X.pn++pins:=by simpa [ya5] using hp
  obtain ⟨e,n,ne,nf,d⟩:=I.pin p hp'
  refine ⟨hk _ _ e,n,Nat.ne_of_lt (Heap.lt_size e),fun z=>?_,d⟩
  rcases List.mem_cons.mp (I.stkSub p.1 z) with q | q
  ·exact ne q
  ·exact nf q
 ·unfold ybD
  show _=(x₁::jf.map (·.2)).length
  rw [List.length_cons,List.length_cons,List.length_map,List.length_map]
end
theorem zb0 {prog:Program} {w:World} {A:Around} {R:Result->Shared->Prop} {s:Shared} {elt target iter:Expr} {ifs:List Expr} {scope:Scope} {pos:Pos} {it acc:Value} {env:Env} (I:Nat->Shared->Prop)
  (turn:∀ n s,I n s->wpAny (model prog w) A (pyNext it) (fun r s₁=>match r with
   | none=>R (.ok .next) s₁
   | some v=>wpAny (model prog w) A (letOwnedTupleGo target it v) (fun _ s₂=>wpAny (model prog w) A (assign target env v) (fun _ s₃ =>
     wpAny (model prog w) A (forIn ifs true fun c r=>if r=true then do let ok <- isTrue c env (eval c env);pure (ForInStep.yield ok) else pure (ForInStep.yield r)) (fun ok s₄ =>
      if ok=true then wpAny (model prog w) A (eval elt env) (fun x s₅=>wpAny (model prog w) A (call (.builtin "list.append") [acc,x]) (fun _ s₆=>∃ m,m<n/\I m s₆) (fun _ _=>False) s₅) (fun _ _=>False) s₄
      else ∃ m,m<n/\I m s₄) (fun _ _=>False) s₃) (fun _ _=>False) s₂) (fun _ _=>False) s₁) (fun _ _=>False) s)
  (n:Nat) (h:I n s):codeAny (model prog w) A (.compLoop (.ListComp elt [⟨target,iter,ifs,0⟩] scope pos) 0 it acc env) R s:=by
 refine codeAny_loop rfl I (fun n s hI=>?_) n h
 show wpAny _ A ((compTurn (.ListComp elt [⟨target,iter,ifs,0⟩] scope pos) 0 it acc env).onRaise (fun x=>do noteFrame x env;theTreesLotGoes x)) _ _ s
 refine wpAny_noted ?_
 rw [compTurn_list]
 refine wpAny_bind (wpAny_standAt (wpAny_bind (wpAny_mono (turn n s hI) (fun r s₁ h₁=>?_) fun _ _ z=>z.elim)))
 cases r with
 | none=>exact wpAny_pure h₁
 | some v =>
  refine wpAny_bind (wpAny_mono h₁ (fun _ s₂ h₂=>?_) fun _ _ z=>z.elim)
  refine wpAny_bind (wpAny_mono h₂ (fun _ s₃ h₃=>wpAny_bind (wpAny_mono h₃ (fun ok s₄ h₄=>?_) fun _ _ z=>z.elim)) fun _ _ z=>z.elim)
  cases ok with
  | false=>exact wpAny_pure ⟨rfl,h₄⟩
  | true =>
   exact wpAny_bind (wpAny_bind (wpAny_mono h₄ (fun x s₅ h₅=>wpAny_bind (wpAny_mono h₅ (fun _ s₆ h₆=>wpAny_pure (wpAny_pure ⟨rfl,h₆⟩)) fun _ _ z=>z.elim)) fun _ _ z=>z.elim))
section
variable {X:Cx} {x₁:Str} {px:Pos} {jf:List (Nat×Str)} {scope:Scope} {iter elt:Expr} {ifs:List Expr} {pos:Pos} {wi:TI} {tc:TT} {te:TE}
theorem zeC (hcalm:X.calm=true) (hi:PI X (.Name x₁ px) iter wi) (hc:∀ pins cl s H fp,PTs (ya5 X pins x₁ jf scope cl s H fp) ifs tc) (he:∀ pins cl s H fp,PE (ya5 X pins x₁ jf scope cl s H fp) elt te)
  (hN:(x₁::jf.map (·.2)).Nodup) (hx:scope.names.lookup x₁=some .local) (hjf:∀ p∈jf,X.N[p.1]? = some p.2) (hjl:∀ p∈jf,scope.names.lookup p.2=some .free) (hkind:scope.kind = .function)
  (hcell:∀ y∈scope.names,y.2 ≠ .cell) (hfr:∀ y∈scope.names,y.2 = .free->X.env.kindOf y.1=some .cell\/X.env.kindOf y.1=some .free)
  (hnames:∀ y∈scope.names,y.2 = .local->scope.names.lookup y.1=some .local) {use:Option (Value->Sem Unit)} {Qf:Value->Shared->Prop} {cpos:Pos}
  {pins:List (Addr×Obj)} {σ:St} {H:Hp} {s:Shared} {Q:VK} (I:Inv X pins σ H s) (h:yex jf wi tc te σ H Q)
  (fin:∀ D C s6 H6 m6,Inv X pins σ H6 s6->Q (.ref D) H6->FpOk X pins H6 C->s6.heap.Ns C m6->compPost (model X.prog X.w) X.A X.xe use Qf (.ref D) C (.ok .next) s6) (hs:∀ x,foldedSetIterable iter X.env x=pure x) :
  wpAny (model X.prog X.w) X.A (comprehension (.ListComp elt [⟨.Name x₁ px,iter,ifs,0⟩] scope pos) scope X.env cpos (newList []) false (eval iter X.env) use) Qf X.xe s:=by
 have hsome:∀ y∈scope.names,y.2 = .free->(X.env.cells.lookup y.1).isSome=true:=fun y hy hyf=>Option.isSome_iff_exists.mpr (I.ok.has y.1 (hfr y hy hyf))
 refine wpAny_comprehension_free (use:=use) rfl hs (zdh hsome) hkind hnames (thn (hi pins s σ H _ I h) fun xv s1 h1=>thn h1 fun itv s2 h2=>?_)
 obtain ⟨it,fp,tn,J,H2,e,I2,T,st2,f2,h⟩:=h2
 subst e
 refine wpAny_newObj_type (wpAny_newFunctionEnv hcell (by intro y hy;simp at hy) (fun h₁ hns₁ hsb₁=>?_) hkind)
 have hD0:H2 s2.heap.objs.size=none:=I2.hok.fresh (Nat.le_refl _)
 obtain ⟨W,⟨m0,w0⟩,step⟩:=h s2.heap.objs.size hD0
 dsimp only at hns₁ hsb₁ ⊢
 have I3:Inv X pins σ (upd H2 s2.heap.objs.size (.lst [])) { s2 with heap:=s2.heap.push { cls:=.type "list",dict:=none,data:=.seq ([]:List Value).toArray } } :=
  I2.laid (t' := s2.toks) (fun b u q=>Heap.get?_push_of_some _ q) (Nat.le_refl _) ⟨Nat.zero_le _,[],0,.nil,Heap.get?_push_size _ rfl⟩
 generalize hH3:s2.heap.push { cls:=.type "list",dict:=none,data:=.seq ([]:List Value).toArray }=hp3 at hns₁ hsb₁ I3 ⊢
 have hsz3:hp3.objs.size=s2.heap.objs.size+1:=by rw [<- hH3,Heap.size_push]
 have k23:∀ b o,s2.heap.get? b=some o->hp3.get? b=some o:=fun b o q=>by rw [<- hH3];exact Heap.get?_push_of_some _ q
 have flt:∀ b∈fp,b<s2.heap.objs.size:=fun b hb=>by
  obtain ⟨o,q,_⟩:=T.obj 0 _ st2 b hb
  exact Heap.lt_size q
 have f3:∀ b∈fp,FpOk X pins (upd H2 s2.heap.objs.size (.lst [])) b:=fun b hb=>by
  obtain ⟨g0,g⟩:=f2 b hb
  exact ⟨by rw [yaC (Nat.ne_of_lt (flt b hb))];exact g0,g⟩
 have kC:∀ b o,hp3.get? b=some o->h₁.get? b=some o:=fun b o q=>(hsb₁.2 b (Nat.ne_of_lt (Heap.lt_size q))).trans (Heap.get?_push_of_some _ q)
 have B0:=I3.block (x₁:=x₁) (jf:=jf) (scope:=scope) (fp:=fp) (h1:=h₁) (tk:=s2.toks+([]:List (Str×Value)).length) f3 (fun b hb=>by show b<hp3.objs.size;rw [hsz3];exact Nat.lt_succ_of_lt (flt b hb)) hjf hjl hkind hcell hfr (by simpa using hns₁) kC
 have st4:tn 0 h₁:=T.keep _ _ _ st2 fun b _ o q=>kC b o (k23 b o q)
 have w0' := w0
 have stat:∀ {H':Hp},(∀ b∈fp,H' b=none)->∀ b∈fp,FpOk (ya5 X pins x₁ jf scope (yav X.env scope.names []) { s2 with heap:=hp3 } (upd H2 s2.heap.objs.size (.lst [])) fp) [] H' b:=fun hn b hb=>by
  obtain ⟨_,g1,g2,g3,g4,g5⟩:=f2 b hb
  refine ⟨hn b hb,Nat.ne_of_lt (by show b<hp3.objs.size;rw [hsz3];exact Nat.lt_succ_of_lt (flt b hb)),fun z=>?_,.inl hb,fun y c q=>g4 y c (zbl hsome (fun y c e=>by simp at e) y c q),fun p hp=>g5 p (by simpa [ya5] using hp)⟩
  rcases List.mem_cons.mp (I2.stkSub b z) with q | q
  ·exact g1 q
  ·exact g2 q
 have loop:codeAny (model X.prog X.w) X.A (.compLoop (.ListComp elt [⟨.Name x₁ px,iter,ifs,0⟩] scope pos) 0 (.ref it) (.ref s2.heap.objs.size) (compEnvC scope (yav X.env scope.names []) hp3.objs.size X.env))
   (compPost (model X.prog X.w) X.A X.xe use Qf (.ref s2.heap.objs.size) hp3.objs.size) { s2 with heap:=h₁,toks:=s2.toks+([]:List (Str×Value)).length }:=by
  refine zb0 (fun n s' => ∃ i ys H',Inv (ya5 X pins x₁ jf scope (yav X.env scope.names []) { s2 with heap:=hp3 } (upd H2 s2.heap.objs.size (.lst [])) fp) [] (ybD none jf σ) H' s'/\tn i s'.heap/\(∀ b∈fp,H' b=none)/\W i n ys H') ?_ m0
   ⟨0,[],_,B0,st4,fun b hb=>(f3 b hb).1,w0⟩
  rintro n s5 ⟨i,ys,H5,I5,st5,fr5,w5⟩
  obtain ⟨hD5,alt⟩:=step i n ys H5 w5
  rcases alt with ⟨stop,q5⟩ | ⟨go,hlen,next⟩
  ·refine wpAny_mono (T.done (ya5 X pins x₁ jf scope (yav X.env scope.names []) { s2 with heap:=hp3 } (upd H2 s2.heap.objs.size (.lst [])) fp) rfl rfl rfl hcalm i [] s5 _ H5 (fun _ _=>False) I5 (stat fr5) st5 stop) (fun r s6 ⟨hr,I6⟩=>?_) fun _ _ z=>z
   subst hr
   obtain ⟨m6,hn6,_⟩:=id I6.loc
   refine fin _ _ s6 H5 m6 ?_ q5 (I3.fpOk (Nat.le_refl _) I6.free) hn6
   refine I3.call' (ch:=fp) I6.os I6.base I6.hok I6.bare (fun b hb=>?_)
   obtain ⟨_,g1,g2,g3,g4,g5⟩:=f2 b hb
   exact ⟨g3,g1,g4,g5⟩
  ·refine wpAny_mono (T.item (ya5 X pins x₁ jf scope (yav X.env scope.names []) { s2 with heap:=hp3 } (upd H2 s2.heap.objs.size (.lst [])) fp) rfl rfl rfl hcalm i [] s5 _ H5 (fun _ _=>False) I5 (stat fr5) st5 go) (fun r s6 ⟨u,hr,h6⟩=>?_) fun _ _ z=>z
   subst hr
   refine wpAny_mono h6 (fun _ s7 ⟨x,H7,I7,r7,y7,st7,fr7⟩=>?_) fun _ _ z=>z
   have I7' := I7.pinned (stat fr7) (T.obj _ _ st7)
   have hloc:Loc (ya5 X pins x₁ jf scope (yav X.env scope.names []) { s2 with heap:=hp3 } (upd H2 s2.heap.objs.size (.lst [])) fp).env.scope x₁:=.inl (lookup_relabel_local hx)
   refine wpAny_assign_Name (zcQ (i:=0) I7' hN rfl hloc r7 (fun s8 I8=>?_) (.inr (lookup_relabel_local hx)))
   have q8:=next x H7 y7
   have I8':Inv (ya5 X pins x₁ jf scope (yav X.env scope.names []) { s2 with heap:=hp3 } (upd H2 s2.heap.objs.size (.lst [])) fp) ([]++ybM fp s7.heap) (ybD (some x) jf σ) H7 s8:=I8
   have again:∀ {s9:Shared} {H9:Hp} {zs:List V} {m':Nat},Inv (ya5 X pins x₁ jf scope (yav X.env scope.names []) { s2 with heap:=hp3 } (upd H2 s2.heap.objs.size (.lst [])) fp) ([]++ybM fp s7.heap) (ybD (some x) jf σ) H9 s9->m'<n->W (i+1) m' zs H9 ->
     ∃ m,m<n/\∃ i ys H',Inv (ya5 X pins x₁ jf scope (yav X.env scope.names []) { s2 with heap:=hp3 } (upd H2 s2.heap.objs.size (.lst [])) fp) [] (ybD none jf σ) H' s9/\tn i s9.heap/\(∀ b∈fp,H' b=none)/\W i m ys H' := fun {s9 H9 zs m'} I9 hm w9=>by
    refine ⟨m',hm,i+1,zs,H9,I9.unpinned.weak (by simp [ybD]) (fun j v e=>?_),T.keep _ _ _ st7 fun b hb o e=>(I9.pin (b,o) (List.mem_append_right _ (List.mem_append_right _ (zaO hb e)))).1,fun b hb=>?_,w9⟩
    ·cases j with
     | zero=>simp [ybD] at e
     | succ j=>simpa [ybD] using e
    ·obtain ⟨o,e,d⟩:=T.obj _ _ st7 b hb
     exact (I9.pin (b,o) (List.mem_append_right _ (List.mem_append_right _ (zaO hb e)))).2.1
   refine wpAny_mono (hc pins _ _ _ fp ([]++ybM fp s7.heap) s8 _ H7 _ I8' q8) (fun ok s9 ⟨H9,I9,q9⟩=>?_) fun _ _ z=>z
   cases ok with
   | false =>
    rw [if_neg Bool.false_ne_true] at q9 ⊢
    obtain ⟨m',hm,w9⟩:=q9
    exact again I9 hm w9
   | true =>
    rw [if_pos rfl] at q9 ⊢
    refine wpAny_mono (he pins _ _ _ fp ([]++ybM fp s7.heap) s9 _ H9 _ I9 q9) (fun y s10 ⟨v,H10,I10,r10,hD10,m',hm,w10⟩=>?_) fun _ _ z=>z
    refine wpAny_mono (zbY (X:=(ya5 X pins x₁ jf scope (yav X.env scope.names []) { s2 with heap:=hp3 } (upd H2 s2.heap.objs.size (.lst [])) fp)) ([]++ybM fp s7.heap) s10 (ybD (some x) jf σ) H10 (.ref s2.heap.objs.size) [v] (.ref s2.heap.objs.size) [y] (fun _ H' => H'=upd H10 s2.heap.objs.size (.lst (ys++[v]))) I10 rfl (.cons r10 .nil) ⟨_,ys,v,rfl,rfl,hD10,hlen,rfl⟩)
     (fun _ s11 ⟨_,H11,I11,_,e11⟩=>?_) fun _ _ z=>z
    subst e11
    exact again I11 hm w10
 exact codeAny_compStart_list loop (T.self _ 0 _ _ _ st4 loop)
theorem zi8 (hcalm:X.calm=true) (hi:PI X (.Name x₁ px) iter wi) (hc:∀ pins cl s H fp,PTs (ya5 X pins x₁ jf scope cl s H fp) ifs tc) (he:∀ pins cl s H fp,PE (ya5 X pins x₁ jf scope cl s H fp) elt te)
  (hN:(x₁::jf.map (·.2)).Nodup) (hx:scope.names.lookup x₁=some .local) (hjf:∀ p∈jf,X.N[p.1]? = some p.2) (hjl:∀ p∈jf,scope.names.lookup p.2=some .free) (hkind:scope.kind = .function)
  (hcell:∀ y∈scope.names,y.2 ≠ .cell) (hfr:∀ y∈scope.names,y.2 = .free->X.env.kindOf y.1=some .cell\/X.env.kindOf y.1=some .free)
  (hnames:∀ y∈scope.names,y.2 = .local->scope.names.lookup y.1=some .local) (hs:∀ x,foldedSetIterable iter X.env x=pure x:=by intro _;rfl) :
  PE X (.ListComp elt [⟨.Name x₁ px,iter,ifs,0⟩] scope pos) (yex jf wi tc te):=by
 intro pins s σ H Q I h
 rw [eval_ListComp]
 refine zeC hcalm hi hc he hN hx hjf hjl hkind hcell hfr hnames (use:=none) (Qf:=EP X pins σ Q) I h (fun D C s6 H6 m6 I6 q6 f6 n6=>?_) hs
 refine ⟨m6,n6,fun h' hs' => ⟨.ref D,H6,?_,rfl,q6⟩⟩
 exact I6.turnedL (fp:=[C]) (t' := s6.toks) (fun b o hb q=>(hs'.2 b (fun z=>hb (by simp [z]))).trans q) (fun b hb=>by
  have e:b=C:=by simpa using hb
  subst e
  exact f6)
theorem zi9 {y:Str} {py spos:Pos} {i:Nat} (hcalm:X.calm=true) (hi:PI X (.Name x₁ px) iter wi) (hc:∀ pins cl s H fp,PTs (ya5 X pins x₁ jf scope cl s H fp) ifs tc) (he:∀ pins cl s H fp,PE (ya5 X pins x₁ jf scope cl s H fp) elt te)
  (hN:(x₁::jf.map (·.2)).Nodup) (hx:scope.names.lookup x₁=some .local) (hjf:∀ p∈jf,X.N[p.1]? = some p.2) (hjl:∀ p∈jf,scope.names.lookup p.2=some .free) (hkind:scope.kind = .function)
  (hcell:∀ y∈scope.names,y.2 ≠ .cell) (hfr:∀ y∈scope.names,y.2 = .free->X.env.kindOf y.1=some .cell\/X.env.kindOf y.1=some .free)
  (hnames:∀ y∈scope.names,y.2 = .local->scope.names.lookup y.1=some .local) (hNX:X.N.Nodup) (hi':X.N[i]? = some y) (hy:X.env.scope.names.lookup y=some .local)
  (hsw:swapsWith (.ListComp elt [⟨.Name x₁ px,iter,ifs,0⟩] scope pos) (some (.Name y py)) spos.line X.env=pure true) (hs:∀ x,foldedSetIterable iter X.env x=pure x:=by intro _;rfl) :
  PS X (.Assign [.Name y py] (.ListComp elt [⟨.Name x₁ px,iter,ifs,0⟩] scope pos) spos) (tAsg (yex jf wi tc te) (yej i)):=by
 intro pins s σ H D I h
 rw [exec_Assign_Name_used _ _ _ _ hsw]
 refine wpAny_bind (wpAny_standAt (wpAny_bind ?_))
 show wpAny _ X.A (do let _ <- comprehension (.ListComp elt [⟨.Name x₁ px,iter,ifs,0⟩] scope pos) scope X.env _ (newList []) false (eval iter X.env) (some (assign (.Name y py) X.env))) _ _ s
 refine wpAny_bind (wpAny_mono (zeC (Qf:=fun _ s' => SP X pins D .next s') hcalm hi hc he hN hx hjf hjl hkind hcell hfr hnames (use:=some (assign (.Name y py) X.env)) I h (fun D' C s6 H6 m6 I6 q6 f6 n6=>?_) hs) (fun _ s' hq=>wpAny_pure (wpAny_pure hq)) fun _ _ e=>e)
 refine wpAny_assign_Name (zdS I6 hNX hi' (.inl hy) (v:=.ref D') rfl (fun s7 I7 ⟨a,hsa,ha⟩=>?_) (.inr hy))
 have ne:C≠a:=by
  rcases ha with z | z
  ·rw [z];exact f6.2.1
  ·exact fun q=>f6.2.2.2.2.1 y a z q.symm
 refine ⟨m6,n6.sameBut hsa ne,fun h' hs' => ⟨_,H6,?_,q6⟩⟩
 exact I7.turnedL (fp:=[C]) (t' := s7.toks) (fun b o hb q=>(hs'.2 b (fun z=>hb (by simp [z]))).trans q) (fun b hb=>by
  have e:b=C:=by simpa using hb
  subst e
  exact f6)
end
end L2
namespace L2
open PySem PySem.Spec PyProof.Rows
section
variable {X:Cx} {a b e:Expr} {ta tb:TE} {p p2 pos:Pos}
theorem zhZ {c:V} {cv:Value} (rc:∀ u,RelV c u->u=cv) :
  CallR X (.builtin "isinstance") (fun xs H Q=>∃ x t r,xs=[x,c]/\TyOf X.K H x t/\PySem.W.kitOne X.K t cv=some r/\Q (.bl r) H):=by
 intro pins s σ H xs us Q I r h
 obtain ⟨x,t,k,rfl,ty,hk,q⟩:=h
 obtain ⟨u,w',rfl,rx,ry⟩:=yeO r
 obtain rfl:=rc _ ry
 exact zgY I rx ty hk fun tk=>⟨.bl k,H,I.tok _,rfl,q⟩
theorem yfY (n:String):∀ u,RelV (.ty n) u->u=Value.type n:=fun _ r=>r
theorem zg8:OpR X (compareOp .LtE) (fun x y H Q=>∃ i j,x = .str i/\y = .str j/\Q (.bl (!decide (j.cps.toList<i.cps.toList))) H):=by
 intro pins s σ H x y v u Q I rx ry h
 obtain ⟨i,j,rfl,rfl,q⟩:=h
 obtain ⟨t,rfl⟩:=rx
 obtain ⟨t',rfl⟩:=ry
 exact PySem.P.le_str (yaS I q rfl)
theorem zeD:MtR X "str.count" (fun x vs H Q=>∃ z y,x = .str z/\vs=[.str y]/\Q (.int ((Builtin.Str.occurrences z y 0 z.length (z.length+1)).length:Nat)) H):=by
 intro pins s σ H x vs v us Q I rx rv h
 obtain ⟨z,y,rfl,rfl,q⟩:=h
 obtain ⟨t,rfl⟩:=rx
 obtain ⟨u,rfl,t',rfl⟩:=ydx rv
 exact call_gives F.slot_str_count (typeIs_str s z t) F.entry_str_count (F.args_str_count_2 _ _) (gives_str_count z y t t') ⟨.int _,H,I.tok _,⟨_,rfl⟩,q⟩
theorem zg9 (l:List (Array Nat)):∀ acc:Array Nat,(l.foldl (· ++ ·) acc).toList=acc.toList++(l.map Array.toList).flatten:=by
 induction l with
 | nil=>intro acc;simp
 | cons x r ih=>intro acc;rw [List.foldl_cons,ih];simp
theorem zh0 (hc:X.calm=true):CallR X (.builtin "all") (fun xs H Q=>∃ (a:Addr) (bs:List Bool),xs=[.ref a]/\SqL X.K H a (bs.map V.bl)/\Q (.bl (bs.all id)) H):=by
 intro pins s σ H xs us Q I r h
 obtain ⟨l,bs,rfl,hq,q⟩:=h
 obtain ⟨u,rfl,rx⟩:=ydx r
 cases rx
 obtain ⟨its,rv,pl,hz⟩:=I.list hq
 have hlt:l<s.heap.objs.size:=by obtain ⟨_,_,e,_⟩:=pl;exact Heap.lt_size e
 have hlen:its.length=bs.length:=by rw [<- rv.length,List.length_map]
 refine call_all_walk (wpAny_pyIter_list pl.isList ?_)
 refine ⟨s.heap.objs.size,[s.heap.objs.size,l],[s.heap.objs.size],its.toArray.size,_,_,fun i=>(bs[i]?).getD true,rfl,Walks.list (A:=X.A.in1) (I.ok.hd hc) _ l (Nat.ne_of_lt hlt) its.toArray,
  ⟨⟨_,Heap.get?_push_size _ rfl,rfl,rfl⟩,pl.isList.push _⟩,fun i v s' Q' E' hP hQ=>?_,fun h' tk hk=>?_⟩
 ·have hP':its[i]? = some v:=by simpa using hP
  have hi:i<its.length:=(List.getElem?_eq_some_iff.mp hP').1
  have hb:(bs.map V.bl)[i]? = some (V.bl (bs[i]'(by lia))):=by rw [List.getElem?_map,List.getElem?_eq_getElem (by lia)];rfl
  obtain ⟨u,hu,ru⟩:=rv.get hb
  rw [hP'] at hu
  cases hu
  cases ru
  have e:(bs[i]?).getD true=bs[i]'(by lia):=by rw [List.getElem?_eq_getElem (by lia)];rfl
  have hQ2:Q' ((bs[i]?).getD true) s' := hQ
  rw [e] at hQ2
  exact wpAny_truthy_bool hQ2
 ·have e:((List.range its.toArray.size).all fun i=>(bs[i]?).getD true)=bs.all id:=by
   rw [List.size_toArray,hlen,Bool.eq_iff_iff,List.all_eq_true,List.all_eq_true]
   constructor
   ·intro z c hc'
    obtain ⟨i,hi,rfl⟩:=List.getElem_of_mem hc'
    have:=z i (List.mem_range.mpr hi)
    rw [List.getElem?_eq_getElem hi] at this
    exact this
   ·intro z i hi
    have hi' := List.mem_range.mp hi
    rw [List.getElem?_eq_getElem hi']
    exact z _ (List.getElem_mem hi')
  rw [e]
  refine ⟨.bl _,H,I.kept (t' := tk) fun b o q=>?_,rfl,q⟩
  exact hk b o (fun hm=>by rw [List.mem_singleton.mp hm] at q;exact Nat.lt_irrefl _ (Heap.lt_size q)) (Heap.get?_push_of_some _ q)
end
end L2
namespace L2
open PySem PySem.Spec PyProof.Rows
section
variable {X:Cx}
theorem zh1:OpR X (binaryOp .FloorDiv) (rI (fun _ j=>0<j/\j<2 ^ 200) fun i j=>.int (i / j)):=opI fun i j _ _ _ _ _ hc q=>by
 obtain ⟨h1,h2⟩:=hc
 refine floordiv_int (by lia) (by rw [Int.fdiv_eq_ediv_of_nonneg i (by lia)];exact q) (.inl (PyProof.noPylong_of_log2 ?_))
 have h3:j.natAbs<2 ^ 200:=by lia
 have h4:j.natAbs.log2<200:=(Nat.log2_lt (by lia)).mpr h3
 lia
theorem zh2:OpR X (binaryOp .Mult) (rI IntMulOk fun i j=>.int (i*j)):=opI fun _ _ _ _ _ _ _ hc q=>mul_int q hc
end
end L2
namespace L2
open PySem PySem.Spec PyProof.Rows
theorem ygM:bootBuiltins "int" = some (.type "int"):=by decide +kernel
theorem zja:bootBuiltins "bool" = some (.type "bool"):=by decide +kernel
theorem ygN:bootBuiltins "str" = some (.type "str"):=by decide +kernel
end L2
namespace L2
open PySem PySem.Spec PyProof.Rows
theorem ObjOk.some {P:Program} {w:World} {H:Hp} {h:Heap} {a:Addr} {o:HO} (x:ObjOk P w H h a o):∃ ob,h.get? a=Option.some ob:=by
 cases o with
 | lst xs=>obtain ⟨_,_,_,_,e⟩:=x;exact ⟨_,e⟩
 | tup xs=>obtain ⟨_,_,_,o,e,_⟩:=x;exact ⟨o,e⟩
 | dK kvs=>obtain ⟨_,_,_,_,o,_,_,e,_⟩:=x;exact ⟨_,e⟩
 | dT kvs=>obtain ⟨_,_,_,_,o,_,_,e,_⟩:=x;exact ⟨_,e⟩
 | set S n=>obtain ⟨o,_,_,_,e,_⟩:=x;exact ⟨_,e⟩
 | ins C dx fs=>obtain ⟨_,_,_,e,_⟩:=x;exact ⟨_,e⟩
 | own y=>obtain ⟨_,e⟩:=x;exact ⟨_,e⟩
 | xd fs=>obtain ⟨_,⟨_,_,_,e,_⟩,_⟩:=x;exact ⟨_,e⟩
 | rng lo hi=>obtain ⟨_,_,_,e⟩:=x;exact ⟨_,e⟩
 | frz ob u=>obtain ⟨e,_⟩:=x;exact ⟨_,e⟩
 | tbl ps=>exact ⟨_,(show h.get? a=Option.some _ from x)⟩
 | met f y=>exact ⟨_,(show h.get? a=Option.some _ from x)⟩
 | ext φ=>obtain ⟨_,⟨_,e⟩,_⟩:=x;exact ⟨_,e⟩
def Firm (X:Cx) (pins:List (Addr×Obj)) (H:Hp) (h B:Heap):Prop :=
 ∀ b o,h.get? b=some o->b∉frs X.stack->((∃ u,H b=some u)\/(∃ o',X.s₀.heap.get? b=some o')\/∃ p∈X.pn++pins,p.1=b)->B.get? b=some o
section
variable {X:Cx} {pins:List (Addr×Obj)} {σ:St} {H:Hp} {s:Shared}
theorem Inv.nofr (I:Inv X pins σ H s) {b:Addr} {o:Obj} (e:X.s₀.heap.get? b=some o) (hb:b∉X.fs):b∉frs X.stack:=fun z=>by
 rcases List.mem_cons.mp (I.stkSub b z) with q | q
 ·exact Nat.ne_of_lt (Nat.lt_of_lt_of_le (Heap.lt_size e) I.ok.above) q
 ·exact hb q
theorem Inv.nofrT (I:Inv X pins σ H s) {b:Addr} {u:HO} (e:H b=some u):b∉frs X.stack:=fun z=>by
 have q:=I.stkFree b z
 rw [q] at e
 cases e
theorem Inv.nofrP (I:Inv X pins σ H s) {p:Addr×Obj} (hp:p∈X.pn++pins):p.1∉frs X.stack:=fun z=>by
 obtain ⟨_,_,ne,nf,_⟩:=I.pin p hp
 rcases List.mem_cons.mp (I.stkSub p.1 z) with q | q
 ·exact ne q
 ·exact nf q
theorem Inv.flown {B h':Heap} {t':Nat} (I:Inv X pins σ H s) (hex:X.ex=[]) (F:Firm X pins H s.heap B) (st:B.StaysIn h') (sm:s.heap.UpToSlots h'):Inv X pins σ H { s with heap:=h',toks:=t' }:=by
 have nx:∀ b,b∉X.ex:=fun b z=>by rw [hex] at z;cases z
 refine ⟨I.ok,I.os,I.bare,⟨fun b o e n hb hx=>?_,fun b o e n hb hx=>?_,I.base.free,fun b o e hx=>?_,I.base.tups,I.base.frzs,I.base.tbls⟩,?_,fun x c e=>?_,I.free,I.freeC,fun p hp=>?_,fun b u e=>?_,I.len⟩
 ·exact st b o (F b o (I.base.keep b o e n hb hx) (I.nofr e hb) (.inr (.inl ⟨o,e⟩)))
 ·obtain ⟨sl,q⟩:=I.base.slot b o e n hb hx
  obtain ⟨_,o',ho',hd⟩:=I.funs.mem hb
  rw [q] at ho'
  cases ho'
  obtain ⟨sl',q'⟩:=sm b _ q hd
  exact ⟨sl',q'⟩
 ·obtain ⟨o',q⟩:=I.base.there b o e hx
  by_cases hb:b∈X.fs
  ·obtain ⟨_,o'',ho'',hd⟩:=I.funs.mem hb
   rw [q] at ho''
   cases ho''
   obtain ⟨sl',q'⟩:=sm b _ q hd
   exact ⟨_,q'⟩
  ·exact ⟨o',st b o' (F b o' q (I.nofr e hb) (.inr (.inl ⟨o,e⟩)))⟩
 ·obtain ⟨m,hn,hl⟩:=I.loc
  refine ⟨m,sm.ns hn,fun i x v e1 e2 e3=>?_⟩
  obtain ⟨u,r,l⟩:=hl i x v e1 e2 e3
  refine ⟨u,r,?_⟩
  rcases l with l | ⟨k,c,e,o,ho,hd⟩
  ·exact .inl l
  ·obtain ⟨sl,q⟩:=sm c o ho fun vs z=>by rw [hd] at z;cases z
   exact .inr ⟨k,c,e,_,q,hd⟩
 ·obtain ⟨v,o,ho,hd⟩:=I.cell x c e
  obtain ⟨sl,q⟩:=sm c o ho fun vs z=>by rw [hd] at z;cases z
  exact ⟨v,_,q,hd⟩
 ·obtain ⟨e,n,ne,nf,d⟩:=I.pin p hp
  exact ⟨st _ _ (F _ _ e (I.nofrP hp) (.inr (.inr ⟨p,hp,rfl⟩))),n,ne,nf,d⟩
 ·refine (I.hok b u e).stay (fun c v hc q=>?_) (fun _ q=>q) fun _ _ q=>q
  rcases hc with z | z
  ·subst z
   exact st _ _ (F _ _ q (I.nofrT e) (.inl ⟨_,e⟩))
  ·exact st _ _ (F _ _ q (I.nofrT z) (.inl ⟨_,z⟩))
end
structure Arr (X:Cx) (pins:List (Addr×Obj)) (σ:St) (H:Hp) (a:Addr) (cls:Value) (s:Shared):Prop where
 inv:Inv X pins σ H s
 un:H a=none
 new:X.s₀.heap.get? a=none
 nl:a≠X.env.locals
 nc:∀ x c,X.env.cells.lookup x=some c->c≠a
 np:∀ p∈X.pn++pins,p.1≠a
 fly:∃ B a0,Firm X pins H s.heap B/\B.StaysIn s.heap/\B.get? a=none/\s.heap.FunFrames B X.stack /\
  ((∃ oe vs,s.heap.get? a=some oe/\oe.cls=cls/\oe.data = .fields vs/\vs[0]? = some a0/\vs[1]? = some .none)\/s.heap.TracedW B a cls a0)
def CXE (P:Program) (w:World):CXT:=fun outer H s E e s' => ∃ (a:Addr) (cls a0:Value) (H':Hp) (B:Heap),e = .ref a/\s'.os=s.os/\AllBare s'.gens/\Un (frs outer) [] H H' s.heap s'.heap/\HOk P w H' s'.heap /\
 Heap.FlyingW B outer a cls a0 s'.heap/\(∀ b o,s'.heap.get? b=some o->b∉frs outer->((∃ u,H' b=some u)\/∃ o',s.heap.get? b=some o')->B.get? b=some o)/\H' a=none/\s.heap.get? a=none/\E cls none H'
section
variable {X:Cx} {pins:List (Addr×Obj)} {σ:St} {H:Hp} {s:Shared}
theorem zh3 {h':Heap} {e:Addr} {cls:Value} {args:List Value} {t':Nat} (I:Inv X pins σ H s) (hex:X.ex=[]) (hx:Heap.MadeExcOf s.heap h' e cls args):Arr X pins σ H e cls { s with heap:=h',toks:=t' }:=by
 have nx:∀ b,b∉X.ex:=fun b z=>by rw [hex] at z;cases z
 have none_of:∀ b o,s.heap.get? b=some o->b≠e:=fun b o q z=>by rw [z,hx.new] at q;cases q
 have eq_of:∀ b o o1,h'.get? b=some o->s.heap.get? b=some o1->o1=o:=fun b o o1 q q1=>by
  have z:=hx.keeps b o1 q1
  rw [q] at z
  exact (Option.some.inj z).symm
 obtain ⟨t,he,_,_⟩:=hx.there
 refine ⟨I.kept hx.keeps,?_,?_,fun z=>?_,fun x c q z=>?_,fun p hp z=>?_,PySem.W.hideAll s.heap (frs X.stack),.ref t,fun b o q nb alt=>?_,fun b o q=>hx.keeps b o (PySem.W.of_hideAll _ q),?_,?_,.inl ⟨_,_,he,rfl,rfl,rfl,rfl⟩⟩
 ·cases q:H e with
  | none=>rfl
  | some u =>
   obtain ⟨ob,z⟩:=(I.hok e u q).some
   exact absurd rfl (none_of e ob z)
 ·cases q:X.s₀.heap.get? e with
  | none=>rfl
  | some o =>
   obtain ⟨ob,z⟩:=I.base.there e o q (nx e)
   exact absurd rfl (none_of e ob z)
 ·obtain ⟨m,⟨o,_,_,ho,_⟩,_⟩:=I.loc
  exact none_of _ o ho z.symm
 ·obtain ⟨v,o,ho,_⟩:=I.cell x c q
  exact none_of _ o ho z
 ·exact none_of _ _ (I.pin p hp).1 z
 ·have there:∃ o1,s.heap.get? b=some o1:=by
   rcases alt with ⟨u,q'⟩ | ⟨o',q'⟩ | ⟨p,hp,rfl⟩
   ·exact (I.hok b u q').some
   ·exact I.base.there b o' q' (nx b)
   ·exact ⟨_,(I.pin p hp).1⟩
  obtain ⟨o1,q1⟩:=there
  rw [<- eq_of b o o1 q q1]
  exact PySem.W.hideAll_get _ q1 nb
 ·cases q:(PySem.W.hideAll s.heap (frs X.stack)).get? e with
  | none=>rfl
  | some o=>exact absurd rfl (none_of e o (PySem.W.of_hideAll _ q))
 ·refine (PySem.W.funFrames_hide I.stack fun env henv b hb=>List.mem_filterMap.mpr ⟨env,henv,hb⟩).of_keeps fun b o q _=>⟨o,hx.keeps b o q,rfl⟩
theorem zh4 {E:XK} {e:Value} {s':Shared} (I:Inv X pins σ H s) (hex:X.ex=[]) (h:CXE X.prog X.w X.stack H s E e s'):∃ a cls H',e = .ref a/\Arr X pins σ H' a cls s'/\E cls none H' := by
 obtain ⟨a,cls,a0,H',B,rfl,os,bare,un,hok,⟨f1,f2,f3,f4⟩,ext,na,ns,q⟩:=h
 have nx:∀ b,b∉X.ex:=fun b z=>by rw [hex] at z;cases z
 have none_of:∀ b o,s.heap.get? b=some o->b≠a:=fun b o q z=>by rw [z,ns] at q;cases q
 refine ⟨a,cls,H',rfl,⟨I.call' (ch:=[]) os un hok bare (fun b z=>absurd z (by simp)),na,?_,fun z=>?_,fun x c q z=>?_,fun p hp z=>?_,B,a0,fun b o q nb alt=>?_,f1,f2,f3,.inr f4⟩,q⟩
 ·cases q:X.s₀.heap.get? a with
  | none=>rfl
  | some o =>
   obtain ⟨ob,z⟩:=I.base.there a o q (nx a)
   exact absurd rfl (none_of a ob z)
 ·obtain ⟨m,⟨o,_,_,ho,_⟩,_⟩:=I.loc
  exact none_of _ o ho z.symm
 ·obtain ⟨v,o,ho,_⟩:=I.cell x c q
  exact none_of _ o ho z
 ·exact none_of _ _ (I.pin p hp).1 z
 ·refine ext b o q nb ?_
  rcases alt with ⟨u,q'⟩ | ⟨o',q'⟩ | ⟨p,hp,rfl⟩
  ·exact .inl ⟨u,q'⟩
  ·exact .inr (I.base.there b o' q' (nx b))
  ·exact .inr ⟨_,(I.pin p hp).1⟩
theorem Arr.land {a:Addr} {cls:Value} {Q:Unit->Shared->Prop} {E:Value->Shared->Prop} {M:Model} {A:Around} (R:Arr X pins σ H a cls s) (hex:X.ex=[]) (hfr:A.frames=some X.stack) {outer:List Env} (hst:X.stack=X.env::outer) (hf:X.env.frame=some X.env.locals)
  (hQ:∀ h' B a0,Firm X pins H s.heap B->Heap.FlyingW B X.stack a cls a0 h'->s.heap.UpToSlots h'->Inv X pins σ H { s with heap:=h' }->Q () { s with heap:=h' }) :
  wpAny M A (noteFrame (.ref a) X.env) (fun _ s₂=>wpAny M A (setFlight (.ref a) none) Q E s₂) E s:=by
 obtain ⟨B,a0,fm,st,hb,ff,alt⟩:=R.fly
 have after:∀ h4,Heap.HeldW B X.stack a cls a0 X.env.locals h4->s.heap.UpToSlots h4->wpAny M A (setFlight (.ref a) none) Q E { s with heap:=h4 }:=fun h4 hh sm=>by
  refine wpAny_landsW (s:={ s with heap:=h4 }) hh fun h5 fl sm5=>?_
  have sm':s.heap.UpToSlots h5:=sm.trans sm5
  exact hQ h5 B a0 fm fl sm' (R.inv.flown (t' := s.toks) hex fm fl.1 sm')
 rw [hst] at hfr
 rw [hst] at ff
 rcases alt with ⟨oe,vs,he,hc,hd,h0,h1⟩ | tr
 ·subst hc
  have hsz:1<vs.size:=(Array.getElem?_eq_some_iff.mp h1).1
  unfold noteFrame
  simp only [hf]
  refine wpAny_bind (wpAny_field he hd h1 ?_)
  rw [if_neg (by decide)]
  refine wpAny_entryW hfr ff hf he st hb hd hsz h0 fun h4 hN=>?_
  obtain ⟨k1,k2,k3,k4⟩:=hN
  exact after h4 (by rw [hst];exact ⟨k1,hb,k2,k3⟩) k4
 ·exact wpAny_looks_onW hfr hf ⟨st,hb,ff,tr⟩ fun h4 hh sm=>after h4 (by rw [hst];exact hh) sm
theorem zdY {P:Program} {w:World} {K:PySem.W.Frag} {mg:Str->Option Value} {base:Heap} {N:List Str} {qual:Str} {scope:Scope} {f:Addr} {cd:Value} {A:Around} {outer:List Env} {s0:Shared} {H0:Hp} {E:XK} {a:Addr} {cls:Value}
  (R:Arr (cxOf (CXE P w) P w K mg base N qual scope f cd A outer s0 H0 E) pins σ H a cls s) (q:E cls none H):(cxOf (CXE P w) P w K mg base N qual scope f cd A outer s0 H0 E).xe (.ref a) s:=by
 show wpAny _ _ (leaving _ _) _ _ s
 unfold leaving
 refine wpAny_bind (R.land (E:=fun e' s'' => CXE P w outer H0 s0 E e' s'') rfl R.inv.ok.frames rfl rfl fun h' B a0 fm fl sm I' => ?_)
 have I:=R.inv
 obtain ⟨k1,k2,⟨_,_,k3⟩,k4⟩:=fl
 refine ⟨a,cls,a0,H,B,rfl,I'.os,I'.bare,I'.base,I'.hok,⟨k1,k2,k3,k4⟩,fun b o e nb alt=>?_,R.un,R.new,q⟩
 have nstk:b∉frs (cxOf (CXE P w) P w K mg base N qual scope f cd A outer s0 H0 E).stack:=by
  rcases alt with ⟨u,z⟩ | ⟨o',z⟩
  ·exact I.nofrT z
  ·exact I.nofr z nb
 have there:∃ o1,s.heap.get? b=some o1:=by
  rcases alt with ⟨u,z⟩ | ⟨o',z⟩
  ·exact (I.hok b u z).some
  ·exact I.base.there b o' z (fun z=>absurd (show b∈([]:List Addr) from z) (by simp))
 obtain ⟨o1,q1⟩:=there
 have z:B.get? b=some o1:=fm b o1 q1 nstk (by
  rcases alt with ⟨u,z⟩ | ⟨o',z⟩
  ·exact .inl ⟨u,z⟩
  ·exact .inr (.inl ⟨o',z⟩))
 have z2:=k1 b o1 z
 rw [show (Heap.get? h' b)=some o from e] at z2
 cases z2
 exact z
end
def yeJ (X:Cx) (Ex:St->XK):Prop:=∀ (pins:List (Addr×Obj)) (σ:St) (H:Hp) (s:Shared) (a:Addr) (cls:Value),Arr X pins σ H a cls s->Ex σ cls none H->X.xe (.ref a) s
def ydO (CX:CXT) (X:Cx) (Ex:St->XK):Prop:=∀ (pins:List (Addr×Obj)) (σ:St) (H:Hp) (s:Shared) (e:Value) (s':Shared),Inv X pins σ H s->CX X.stack H s (Ex σ) e s'->X.xe e s'
section
variable {P:Program} {w:World} {K:PySem.W.Frag} {mg:Str->Option Value} {base:Heap} {N:List Str} {qual:Str} {scope:Scope} {f:Addr} {cd:Value} {A:Around} {outer:List Env} {s0:Shared} {H0:Hp} {E:XK}
theorem zaD:yeJ (cxOf (CXE P w) P w K mg base N qual scope f cd A outer s0 H0 E) (fun _=>E):=fun _ _ _ _ _ _ R q=>zdY R q
theorem zjb:ygD (CXE P w) (cxOf (CXE P w) P w K mg base N qual scope f cd A outer s0 H0 E) E:=fun pins σ H s e s' I h=>by
 obtain ⟨a,cls,H',rfl,R,q⟩:=zh4 (X:=cxOf (CXE P w) P w K mg base N qual scope f cd A outer s0 H0 E) I rfl h
 exact zdY R q
end
section
variable {X:Cx} {x:Str} {C:Addr} {bm:List Value} {B newId initId:String} {np cpos pos:Pos} {e:Expr} {es:List Expr} {t:TA} {Ex:St->XK}
def ygO (cls:Value) (Ex:St->XK) (t:TA):TS:=fun _ σ H=>t σ H fun vs H1=>vs.length<=1000/\Ex σ cls none H1
theorem zh5 (O:OwnCls x C bm newId X.mg X.base) (FB:ExcBaseFacts B newId initId bm) (hc:X.calm=true) (hex:X.ex=[]) (hr:yeJ X Ex) (hg:Gl X x) (ha:PA X (e::es) t)
  (hdb:(x == ("__debug__" : Str))=false:=by decide) (he:starEach (e::es) X.env=(false,eval e X.env)::starEach es X.env:=by rfl) (hpl:(backTo cpos (starEach es X.env)).any (·.1)=false:=by rfl) :
  PS X (.Raise (some (.Call (.Name x np) (e::es) [] cpos)) none pos) (ygO (.ref C) Ex t):=by
 intro pins s σ H D I h
 obtain ⟨tl,NN,nm,q,bs,hdct,sn,sub,ab,col,dd,k0,k1,k2,k3,k5,mN,hC,hN,hni,T⟩:=O.obj
 refine wpAny_Raise_call_subT (C:=C) (nm:=nm) (q:=q) (N:=NN) (bs:=bs) (bm:=tl) (hdct:=hdct) (sn:=sn) (sub:=sub) (ab:=ab) (col:=col) (dd:=dd) (k0:=k0) (k1:=k1) (k2:=k2) (k3:=k3) (k5:=k5) FB (mN:=mN)
  (T.hasType FB.hasBase) (I.ok.hd hc) (by rw [he];show (false || (backTo cpos (starEach es X.env)).any (·.1))=false;rw [hpl];rfl) hni (zcj I hg O.bound ⟨rfl,?_⟩ hdb)
 have hA:=ha cpos pins s σ H _ I h
 rw [he] at hA ⊢
 refine Calls.evalArgs_plain (thn hA fun us s2 ⟨vs,H1,I1,r1,hl,q1⟩=>⟨rfl,?_,I1.bk _ _ hC,hN.keeps I1.bk,T.keeps I1.bk,fun h' a hm=>hr pins σ H1 _ a _ (zh3 (t' := s2.toks) I1 hex hm) q1⟩)
 show us.length<=sizeLine
 rw [<- r1.length]
 exact Nat.le_trans hl (by decide)
end
section
variable {X:Cx} {CX:CXT} {k:Nat} {f C:Addr} {fd:FuncData} {ps:List Str} {sp:Sp} {dvs:List V} {ds:List Value} {Ex:St->XK} {x m:Str} {p pos apos:Pos} {e o:Expr} {es:List Expr} {ta:TE} {t:TA}
theorem zdx {pins:List (Addr×Obj)} {σ:St} {H:Hp} {s:Shared} {Q:VK} {us:List Value} {vs:List V} (F:FnOk X.prog X.w X.K X.mg X.base CX k f fd ps sp) (hr:Room k X.A) (hb:Binds X.K fd ps ds) (hd:Vals dvs ds) (hx:ydO CX X Ex)
  (I:Inv X pins σ H s) (r:Vals vs us) (h:sp (vs++dvs) H Q (Ex σ)):wpAny (model X.prog X.w) X.A (call (.ref f) us) (EP X pins σ Q) X.xe s:=by
 have r2:Vals (vs++dvs) (us++ds):=r.append hd
 have hl:(us++ds).length=ps.length:=by rw [<- r2.length];exact F.len _ _ _ _ h
 refine wpAny_call (codeAny_mono (F.run X.A X.stack s H ⟨us,[]⟩ (us++ds) (vs++dvs) Q (Ex σ) hr I.env0 (hb s us I.kIn hl) r2 h) fun r s' hq=>?_)
 cases r with
 | error e=>exact hx pins σ H s e s' I hq
 | ok fl =>
  cases fl with
  | ret u=>exact I.after hq
  | next=>exact False.elim hq
  | brk=>exact False.elim hq
  | cont=>exact False.elim hq
def ygP (sp:Sp) (dvs:List V) (Ex:St->XK) (t:TA):TE:=fun σ H Q=>t σ H fun vs H1=>sp (vs++dvs) H1 Q (Ex σ)
theorem zh6 (F:FnOk X.prog X.w X.K X.mg X.base CX k f fd ps sp) (hr:Room k X.A) (hg:Gl X x) (hm:X.mg x=some (.ref f)) (hk:PySem.W.keepIn X.K (.ref f)=true) (hb:Binds X.K fd ps ds) (hd:Vals dvs ds) (hx:ydO CX X Ex)
  (ha:PA X (e::es) t) (hdb:(x == ("__debug__" : Str))=false:=by decide) (he:starEach (e::es) X.env=(false,eval e X.env)::starEach es X.env:=by rfl) (hpl:(backTo pos (starEach es X.env)).any (·.1)=false:=by rfl) :
  PE X (.Call (.Name x p) (e::es) [] pos) (ygP sp dvs Ex t):=by
 intro pins s σ H Q I h
 refine wpAny_Call_Name_kw (zcj I hg hm ?_ hdb)
 refine PySem.W.callWith_K (h₀:=X.base) I.ok.mod.kin hk (thn (ha pos pins s σ H _ I h) fun us s1 ⟨vs,H1,I1,r,q⟩=>⟨I1.kIn,?_⟩) he hpl
 exact zdx F hr hb hd hx I1 r q
def yfw (C:Addr) (m:Str) (sp:Sp) (dvs:List V) (Ex:St->XK) (ta:TE) (t:TA):TE:=fun σ H Q=>ta σ H fun x H1=>∃ a dx fs,x = .ref a/\H1 a=some (.ins C dx fs)/\fs.lookup m=none /\
 t σ H1 fun vs H2=>sp (x::(vs++dvs)) H2 Q (Ex σ)
theorem zh7 {pl:Sem Bool} (he:PE X o ta) (c:Cls X.K C) (hm:Meth X.K C m f) (F:FnOk X.prog X.w X.K X.mg X.base CX k f fd ps sp) (hr:Room k X.A) (hb:Binds X.K fd ps ds) (hd:Vals dvs ds) (hx:ydO CX X Ex) (ha:PA X (e::es) t)
  (hst:starEach (e::es) X.env=(false,eval e X.env)::starEach es X.env:=by rfl) (hpl:(backTo pos (starEach es X.env)).any (·.1)=false:=by rfl)
  (ht:eval (.Call (.Attribute o m apos) (e::es) [] pos) X.env=(do
   let ov <- eval o X.env
   standAt apos.atName
   let (f,first) <- holding [ov] (getMethod ov m pl)
   callWith pos f first (backTo pos (starEach (e::es) X.env)) (backToKw pos (keywordEach [] X.env))):=by rfl) :
  PE X (.Call (.Attribute o m apos) (e::es) [] pos) (yfw C m sp dvs Ex ta t):=by
 intro pins s σ H Q I h
 refine PySem.W.methodCall_KW (pl:=pl) (thn (he pins s σ H _ I h) fun u s1 ⟨x,H1,I1,rx,a,dx,fs,ex,ea,l,q⟩=>?_) ht
 subst ex
 obtain rfl:u=Value.ref a:=rx
 refine zde I1 ea c hm l ?_
 refine PySem.W.callWith_K (first:=[.ref a]) (h₀:=X.base) I.ok.mod.kin hm.kp (thn (ha pos pins s1 σ H1 _ I1 q) fun us s2 ⟨vs,H2,I2,r,q2⟩=>⟨I2.kIn,?_⟩) hst hpl
 exact zdx (us:=.ref a::us) (vs:=.ref a::vs) F hr hb hd hx I2 (.cons rfl r) q2
end
def excO (a:Addr) (cls:Value):HO:=.ext fun h=>∃ ob vs,h.get? a=some ob/\ob.cls=cls/\ob.data = .fields vs
section
variable {X:Cx} {pins pins':List (Addr×Obj)} {σ:St} {H:Hp} {s:Shared} {xe:Value->Shared->Prop}
end
section
variable {X:Cx} {xc n:Str} {C:Addr} {i:Nat} {body suite:List Stmt} {b0:Stmt} {np hpos pos:Pos} {tb:(St->XK)->TS} {th:TS} {outer:List Env}
end
section
variable {P:Program} {w:World} {K:PySem.W.Frag} {mg:Str->Option Value} {base:Heap}
theorem Fun.okE {x qual:Str} {st:Stmt} {f:Addr} {fd:FuncData} {N ps:List Str} {k:Nat} {sp:Sp} (F:Fun K x qual st f fd) (S:FnScope N ps (yah st)) (len:∀ vs H Q E,sp vs H Q E->vs.length=ps.length)
  (hbody:∀ (cdv:Value) (A:Around) (outer:List Env) (s:Shared) (H:Hp) (vs:List V) (Q:VK) (E:XK),Room k (A.deeper (envOfC qual (yah st) s.heap.objs.size f cdv))->sp vs H Q E ->
   ∃ t,PSs (cxOf (CXE P w) P w K mg base N qual (yah st) f cdv A outer s H E) (ycb st) t/\t { nx:=fun _ H' => Q .non H',rt:=Q } (start N vs) H):FnOk P w K mg base (CXE P w) (k+1) f fd ps sp:=by
 obtain ⟨oc,od,kV,doc,pm,an,cdv,ct,osl,rfl,lk,hcd⟩:=F.ex
 exact yhK lk hcd S len fun A outer s H vs Q E hr hsp=>hbody cdv A outer s H vs Q E hr hsp
end
end L2
namespace L2
open PySem PySem.Spec PyProof.Rows
theorem zh8 {K:PySem.W.Frag} {hp:Heap} {g:Str->Option Value} {nm:Str} {Ca:Addr} {bb:List Value} {nid:String} (Z:K.In hp) (hb:g nm=some (.ref Ca)) (ok:PySem.W.excIn K Ca bb nid=true):OwnCls nm Ca bb nid g hp:=by
 refine ⟨hb,?_⟩
 unfold PySem.W.excIn at ok
 split at ok
 ·rename_i dA cA sA hA
  split at ok
  ·rename_i D' tl w0 w1 w2 w3 bn w5 eM eS
   simp only [Bool.and_eq_true,beq_iff_eq,Bool.not_eq_true'] at ok
   obtain ⟨⟨⟨⟨⟨rfl,rfl⟩,e1⟩,e2⟩,e3⟩,e4⟩:=ok
   obtain ⟨f1,f2,f3,f4,f5,f6,f7,f8,f9,f10,f11⟩:=cA
   dsimp only at eM e1 e3 e4
   subst eM e1
   have eA:sA = #[w0,w1,w2,w3,some (.builtin bn),w5]:=by
    obtain ⟨ll⟩:=sA
    simp only at eS
    rw [eS]
   subst eA
   refine ⟨tl,f4,f1,f5,f2,f6,f7,f8,f9,f10,dA,w0,w1,w2,w3,w5,_,Z _ _ hA,.of_isNs (PySem.W.isNs_of_in Z e3),?_,PySem.W.tail_of_in Z e2⟩
   exact PySem.W.nsMap_none_of_in Z e3 e4
  ·cases ok
 ·cases ok
mutual
inductive DaV (K:PySem.W.Frag) (H:Hp):V->PyData->Prop
 | non:DaV K H .non .none
 | bl (b):DaV K H (.bl b) (.bool b)
 | int (i):DaV K H (.int i) (.int i)
 | str (x):DaV K H (.str x) (.str x)
 | lst {a xs ds}:SqL K H a xs->DaVs K H xs ds->DaV K H (.ref a) (.list ds)
 | tup {a xs ds}:SqT K H a xs->DaVs K H xs ds->DaV K H (.ref a) (.tuple ds)
inductive DaVs (K:PySem.W.Frag) (H:Hp):List V->List PyData->Prop
 | nil:DaVs K H [] []
 | cons {x xs d ds}:DaV K H x d->DaVs K H xs ds->DaVs K H (x::xs) (d::ds)
end
section
variable {X:Cx} {pins:List (Addr×Obj)} {σ:St} {H:Hp} {s:Shared}
mutual
theorem DaV.reads (I:Inv X pins σ H s):∀ {x:V} {d:PyData} {u:Value},DaV X.K H x d->RelV x u->∃ as,Reads s.heap u d as
 | _,_,_,.non,r=>by cases r;exact ⟨_,.none⟩
 | _,_,_,.bl b,r=>by cases r;exact ⟨_,.bool b⟩
 | _,_,_,.int i,r=>by obtain ⟨t,rfl⟩:=r;exact ⟨_,.int i t⟩
 | _,_,_,.str x,r=>by obtain ⟨t,rfl⟩:=r;exact ⟨_,.str x t⟩
 | _,_,_,.lst (a:=a) h1 h2,r=>by
  cases r
  obtain ⟨its,rv,⟨o,n,e1,e2,e3⟩,_⟩:=I.list h1
  obtain ⟨as,q⟩:=DaVs.reads I h2 rv
  exact ⟨_,.list (vs:=its.toArray) (n:=n) e1 (by first | exact e2.1 | exact e2) (by first | exact e2.2.2 | exact e2.2 | exact e3 | exact e3.2) (by simpa using q)⟩
 | _,_,_,.tup (a:=a) h1 h2,r=>by
  cases r
  obtain ⟨its,rv,⟨o,e1,e2,n,e3⟩,_⟩:=I.tuple h1
  obtain ⟨as,q⟩:=DaVs.reads I h2 rv
  exact ⟨_,.tuple (vs:=its.toArray) (n:=n) e1 e2 e3 (by simpa using q)⟩
theorem DaVs.reads (I:Inv X pins σ H s):∀ {xs:List V} {ds:List PyData} {us:List Value},DaVs X.K H xs ds->Vals xs us->∃ as,ReadsAll s.heap us ds as
 | _,_,_,.nil,r=>by cases r;exact ⟨_,.nil⟩
 | _,_,_,.cons h1 h2,r=>by
  cases r with
  | cons r1 r2 =>
   obtain ⟨as,q1⟩:=DaV.reads I h1 r1
   obtain ⟨bs,q2⟩:=DaVs.reads I h2 r2
   exact ⟨_,.cons q1 q2⟩
end
def rEqD (K:PySem.W.Frag):R2:=fun x y H Q=>∃ d e,DaV K H x d/\DaV K H y e/\d.canLay0=true/\e.canLay0=true/\d.depth<=60/\Q (.bl (PyData.eqv d e)) H
def rNeD (K:PySem.W.Frag):R2:=fun x y H Q=>∃ d e,DaV K H x d/\DaV K H y e/\d.canLay0=true/\e.canLay0=true/\d.depth<=60/\Q (.bl (!PyData.eqv d e)) H
theorem yfx (hu:X.A.units+64<cLine):OpR X (compareOp .Eq) (rEqD X.K):=by
 intro pins s σ H x y v u Q I rx ry h
 obtain ⟨d,e,h1,h2,c1,c2,dp,q⟩:=h
 obtain ⟨as,r1⟩:=h1.reads I rx
 obtain ⟨bs,r2⟩:=h2.reads I ry
 exact SeqAt.compareEq_reads r1 r2 c1 c2 (by have:=Nat.min_le_left d.depth e.depth;lia) ⟨.bl _,H,I,rfl,q⟩
theorem yfy (hu:X.A.units+64<cLine):OpR X (compareOp .NotEq) (rNeD X.K):=by
 intro pins s σ H x y v u Q I rx ry h
 obtain ⟨d,e,h1,h2,c1,c2,dp,q⟩:=h
 obtain ⟨as,r1⟩:=h1.reads I rx
 obtain ⟨bs,r2⟩:=h2.reads I ry
 exact SeqAt.compareNe_reads r1 r2 c1 c2 (by have:=Nat.min_le_left d.depth e.depth;lia) ⟨.bl _,H,I,rfl,q⟩
end
theorem hu64 {A:Around} {k:Nat} (hr:Room k A):A.units+64<cLine:=by
 have:=hr.un
 lia
def yhU (K:PySem.W.Frag):R2:=fun x y H Q=>∃ l b xs zs,x = .ref l/\y = .ref b/\SqL K H l xs/\SqL K H b zs/\xs.length+zs.length<=sizeLine/\∀ p,H p=none->Q (.ref p) (upd H p (.lst (xs++zs)))
theorem zjc {X:Cx}:OpR X (binaryOp .Add) (yhU X.K):=by
 intro pins s σ H x y v u Q I rx ry h
 obtain ⟨l,b,xs,zs,rfl,rfl,hH,hB,hz,q⟩:=h
 cases rx
 cases ry
 obtain ⟨its,r,⟨o,n,e1,e2,e3,e4⟩,z⟩:=I.list hH
 obtain ⟨its2,r2,⟨o2,n2,g1,g2,g3,g4⟩,z2⟩:=I.list hB
 obtain ⟨oc,od,oda,osl⟩:=o
 obtain ⟨oc2,od2,oda2,osl2⟩:=o2
 dsimp only at e2 e3 e4 g2 g3 g4
 subst e2 e3 e4 g2 g3 g4
 have l1:=r.length
 have l2:=r2.length
 refine concat_meets ⟨_,e1,rfl⟩ ⟨_,g1,rfl⟩ noFill_list_add seq_list_add PySem.F.slot_list_add PySem.F.entry_list_add (PySem.F.args_list_add_2 _ _) (list_addW l b its.toArray its2.toArray n n2 none none osl osl2 (by rw [List.size_toArray,List.size_toArray];lia)) ⟨e1,g1,?_⟩
 have ea:its.toArray++its2.toArray=(its++its2).toArray:=by simp
 rw [ea]
 exact ⟨.ref s.heap.objs.size,_,I.lnew (t' := s.toks) (r.append r2) (by rw [List.length_append];exact hz),rfl,q _ I.fresh⟩
end L2
namespace L2
open PySem PySem.Spec PyProof.Rows
section
variable {X:Cx} {pins:List (Addr×Obj)} {σ:St} {H:Hp} {s:Shared}
open Classical in
def isD (h:Heap) (d:PyData) (v:Value):Bool:=if q:∃ e as,e.canLay0=true/\Reads h v e as then PyData.eqv q.choose d else false
theorem yfz {h:Heap} {d e:PyData} {v:Value} {as:List Addr} (c:e.canLay0=true) (r:Reads h v e as):isD h d v=PyData.eqv e d:=by
 have q:∃ e as,e.canLay0=true/\Reads h v e as:=⟨e,as,c,r⟩
 unfold isD
 rw [dif_pos q]
 obtain ⟨as',c',r'⟩:=q.choose_spec
 have z:q.choose=e:=by first | exact (Reads.unique _ _ r' r).1 | exact (Reads.unique r' r).1 | exact Reads.unique _ _ _ _ _ c' r' r | exact PySem.SeqAt.Reads.unique _ _ _ _ _ c' r' r | exact PySem.Reads.unique _ _ _ _ _ c' r' r
 rw [z]
theorem zfE (I:Inv X pins σ H s):∀ {xs:List V} {ds:List PyData} {us:List Value},DaVs X.K H xs ds->Vals xs us->us.length=ds.length/\∀ (j:Nat) u d,us[j]? = some u->ds[j]? = some d->∃ as,Reads s.heap u d as
 | _,_,_,.nil,r=>by cases r;exact ⟨rfl,fun j u d e=>by cases e⟩
 | _,_,_,.cons h1 h2,r=>by
  cases r with
  | cons r1 r2 =>
   obtain ⟨l,q⟩:=zfE I h2 r2
   refine ⟨by rw [List.length_cons,List.length_cons,l],fun j u d e1 e2=>?_⟩
   cases j with
   | zero=>cases e1;cases e2;exact h1.reads I r1
   | succ j=>exact q j u d e1 e2
theorem zfF {h:Heap} {d:PyData}:∀ {us:List Value} {ds:List PyData},us.length=ds.length->(∀ (j:Nat) u e,us[j]? = some u->ds[j]? = some e->isD h d u=PyData.eqv e d)->us.any (isD h d)=ds.any fun e=>PyData.eqv e d
 | [],[],_,_=>rfl
 | u::us,e::ds,hl,hh=>by
  rw [List.any_cons,List.any_cons,hh 0 u e rfl rfl,zfF (us:=us) (ds:=ds) (Nat.succ.inj hl) fun j u' e' a b=>hh (j+1) u' e' a b]
end
theorem zfG:∀ {xs:List Str} {us:List Value},Vals (xs.map V.str) us->∃ l:List (Str×Tok),us=strValues l/\l.map (·.1)=xs
 | [],_,r=>by cases r;exact ⟨[],rfl,rfl⟩
 | x::xs,_,r=>by
  cases r with
  | cons r1 r2 =>
   obtain ⟨t,rfl⟩:=r1
   obtain ⟨l,e1,e2⟩:=zfG r2
   exact ⟨(x,t)::l,by rw [e1];rfl,by rw [List.map_cons,e2]⟩
theorem zgs:∀ (xs:List Str),(Builtin.Str.glued Str.empty xs).cps.toList=(xs.map fun x=>x.cps.toList).flatten:=by
 have all:∀ (xs:List Str) (acc:Array Nat),(xs.foldl (fun acc p=>acc++Str.empty.cps++p.cps) acc).toList=acc.toList++(xs.map fun x=>x.cps.toList).flatten:=by
  intro xs
  induction xs with
  | nil=>intro acc;simp
  | cons x r ih =>
   intro acc
   rw [List.foldl_cons,ih]
   have e:(Str.empty.cps) = #[]:=rfl
   simp [e]
 intro xs
 unfold Builtin.Str.glued
 cases xs with
 | nil=>rfl
 | cons x r=>simp only [List.drop_succ_cons,List.drop_zero,List.headD_cons];rw [all];simp
theorem zcU:∀ (xs:List Str) (a:Nat),xs.foldl (fun n x=>n+x.length+Str.empty.length) a=a+((xs.map fun x=>x.cps.toList).flatten).length
 | [],a=>by simp
 | x::r,a=>by
  rw [List.foldl_cons,zcU r]
  have e1:Str.empty.length=0:=rfl
  have e2:x.length=x.cps.toList.length:=by simp [Str.length]
  rw [e1,e2,List.map_cons,List.flatten_cons,List.length_append]
  lia
def yhV (K:PySem.W.Frag):V->List V->Hp->VK->Prop:=fun x vs H Q=>∃ (l:Addr) (xs:List Str),x = .str Str.empty/\vs=[.ref l]/\SqL K H l (xs.map V.str)/\((xs.map fun x:Str=>x.cps.toList).flatten).length<=1000000/\∀ r:Str,r.cps.toList=(xs.map fun x:Str=>x.cps.toList).flatten->Q (.str r) H
theorem zjd {X:Cx}:MtR X "str.join" (yhV X.K):=by
 intro pins s σ H x vs v us Q I rx rv h
 obtain ⟨l,xs,rfl,rfl,hq,hz,q⟩:=h
 obtain ⟨t,rfl⟩:=rx
 obtain ⟨u,rfl,ru⟩:=ydx rv
 cases ru
 obtain ⟨its,r,pl,_⟩:=I.list hq
 obtain ⟨ll,rfl,e2⟩:=zfG r
 have hok:JoinOk Str.empty xs=true:=by
  unfold JoinOk
  rw [Bool.not_eq_true']
  first
   | (rw [List.foldl_toArray,zcU,Nat.zero_add];unfold Builtin.Str.tooLong;exact decide_eq_false (Nat.not_lt.mpr (Nat.le_trans hz (by decide))))
   | (unfold joinFit;rw [List.foldl_toArray,zcU,Nat.zero_add];unfold Builtin.Str.tooLong;exact decide_eq_false (Nat.not_lt.mpr (Nat.le_trans hz (by decide))))
 exact SC.join pl.isList e2 hok fun t' k=>⟨.str _,H,I.tok _,⟨_,rfl⟩,q _ (zgs xs)⟩
end L2
namespace L2
open PySem PySem.Spec PyProof.Rows
section
variable {X:Cx} {tg:Expr}
theorem zcE (ns:List Int):∀ k,k<=ns.length->preSum (fun i=>(ns[i]?).getD 0) k=(ns.take k).sum
 | 0,_=>by simp [preSum]
 | k+1,h=>by
  show preSum _ k+(ns[k]?).getD 0=_
  rw [zcE ns k (by lia),List.take_succ,List.sum_append]
  congr 1
  rw [List.getElem?_eq_getElem (by lia)]
  simp
theorem zh9 (hc:X.calm=true):CallR X (.builtin "sum") (fun xs H Q=>∃ (a:Addr) (ns:List Int),xs=[.ref a]/\SqL X.K H a (ns.map V.int)/\Q (.int ns.sum) H):=by
 intro pins s σ H xs us Q I r h
 obtain ⟨l,bs,rfl,hq,q⟩:=h
 obtain ⟨u,rfl,rx⟩:=ydx r
 cases rx
 obtain ⟨its,rv,pl,hz⟩:=I.list hq
 have hlt:l<s.heap.objs.size:=by obtain ⟨_,_,e,_⟩:=pl;exact Heap.lt_size e
 have hlen:its.length=bs.length:=by rw [<- rv.length,List.length_map]
 refine call_sum_walkAnyS (wpAny_pyIter_list pl.isList ?_)
 refine ⟨s.heap.objs.size,[s.heap.objs.size,l],[s.heap.objs.size],_,its.toArray.size,_,_,fun i=>(bs[i]?).getD 0,rfl,(Walks.list (prog:=X.prog) (w:=X.w) (A:=X.A.in1) (I.ok.hd hc) s.heap.objs.size l (Nat.ne_of_lt hlt) its.toArray).toS,
  ⟨⟨_,Heap.get?_push_size _ rfl,rfl,rfl⟩,pl.isList.push _⟩,fun b hb=>?_,fun i v hP=>?_,fun s' t' hm=>?_⟩
 ·rcases List.mem_cons.mp hb with rfl | hb
  ·exact Heap.lt_size (Heap.get?_push_size _ rfl)
  ·obtain rfl:=List.mem_singleton.mp hb
   obtain ⟨_,_,e,_⟩:=pl
   exact Heap.lt_size (Heap.get?_push_of_some _ e)
 ·have hP':its[i]? = some v:=by simpa using hP
  have hi:i<its.length:=(List.getElem?_eq_some_iff.mp hP').1
  have hb:(bs.map V.int)[i]? = some (V.int (bs[i]'(by lia))):=by rw [List.getElem?_map,List.getElem?_eq_getElem (by lia)];rfl
  obtain ⟨u,hu,ru⟩:=rv.get hb
  rw [hP'] at hu
  cases hu
  obtain ⟨t,rfl⟩:=ru
  refine ⟨t,?_⟩
  show Value.int _ t=Value.int ((bs[i]?).getD 0) t
  rw [List.getElem?_eq_getElem (by lia)];rfl
 ·obtain ⟨h',g',d',tk',os'⟩:=s'
  have e1:g'=s.gens:=hm.gens
  have e2:d'=s.drawn:=hm.drawn
  have e3:os'=s.os:=hm.os
  subst e1 e2 e3
  have e:preSum (fun i=>(bs[i]?).getD 0) its.toArray.size=bs.sum:=by
   rw [List.size_toArray,hlen,zcE bs _ (Nat.le_refl _),List.take_of_length_le (Nat.le_refl _)]
  rw [e]
  refine ⟨.int _,H,I.kept (t' := tk') fun b o q=>?_,⟨_,rfl⟩,q⟩
  exact hm.heap b o (fun hb=>by rw [List.mem_singleton.mp hb] at q;exact Nat.lt_irrefl _ (Heap.lt_size q)) (Heap.get?_push_of_some _ q)
def Itr3 (lo c:Int) (n:Nat):It:=⟨fun i _=>i<n,fun i H x H' => H'=H/\x = .int (lo+i*c),fun i _=>n<=i⟩
theorem zfd {P:Program} {w:World} {K:PySem.W.Frag} {tg:Expr} (it:Addr) (lo c:Int) (n:Nat):Turn P w K tg (Itr3 lo c n) [it] it (fun i h=>IsRangeIter h it (lo+(i:Nat)*c) ((n:Int)-(i:Nat)) c) where
 mem:=by simp
 obj:=fun i h st b hb=>by
  have e:b=it:=by simpa using hb
  subst e
  exact ⟨_,st,fun v z=>by
   have z':Data.fields _=Data.cell v:=z
   cases z'⟩
 keep:=fun i h h' st k=>k it (by simp) _ st
 item:=by
  intro X hP hw hK hc i pins s σ H E I hf st hg
  subst hP hw hK
  obtain ⟨f0,f1,f2,f3,f4,f5⟩:=hf it (by simp)
  have W:=Walks.range (prog:=X.prog) (w:=X.w) (I.ok.hd hc) it lo c n
  refine W.item i s _ _ hg st fun v h' tk hv st' kk=>?_
  obtain ⟨t,rfl⟩:=hv
  have I1:Inv X pins σ H { s with heap:=h',toks:=tk }:=I.turned (fun b o hb e=>kk b o (by simpa using hb) e) f0 f1 f3 f4 f5
  exact ⟨_,rfl,yeN (s:={ s with heap:=h',toks:=tk }) (n := "range_iterator") st' rfl rfl (by decide) ⟨.int (lo+i*c),H,I1,⟨t,rfl⟩,⟨rfl,rfl⟩,st',fun b hb=>(hf b hb).1⟩⟩
 done:=by
  intro X hP hw hK hc i pins s σ H E I hf st hg
  subst hP hw hK
  obtain ⟨f0,f1,f2,f3,f4,f5⟩:=hf it (by simp)
  exact wpAny_pyNext_range_end (I.ok.hd hc) st (by have:n<=i:=hg;lia) fun h' eb=>⟨rfl,I.turned (t' := s.toks) (fun b o hb e=>eb b o hb e) f0 f1 f3 f4 f5⟩
 self:=fun _ _ _ _ _ st h=>wpAny_pyIter_rangeiter st h
theorem zha {a b c:Int} (hc:0<c):Builtin.Range.rangeSize a b c=(((if a<b then (b-a-1) / c+1 else 0:Int).toNat:Nat):Int):=by
 unfold Builtin.Range.rangeSize
 rw [if_pos hc]
 split
 ·have:0<=(b-a-1) / c:=Int.ediv_nonneg (by lia) (by lia)
  lia
 ·rfl
theorem zbv {x:Int} (h:x.natAbs<2 ^ 42):Builtin.Range.rangeFitsLong x=true:=by
 have h2:x.natAbs<4398046511104:=h
 simp only [Builtin.Range.rangeFitsLong,Bool.and_eq_true,decide_eq_true_eq]
 omega
theorem zhb {a b c:Int} (ha:a.natAbs<2 ^ 40) (hb:b.natAbs<2 ^ 40) (hc:0<c):(Builtin.Range.rangeSize a b c).natAbs<2 ^ 42:=by
 have ha2:a.natAbs<1099511627776:=ha
 have hb2:b.natAbs<1099511627776:=hb
 show _<4398046511104
 unfold Builtin.Range.rangeSize
 rw [if_pos hc]
 split
 ·have h1:0<=(b-a-1) / c:=Int.ediv_nonneg (by omega) (by omega)
  have h2:(b-a-1) / c<=b-a-1:=Int.ediv_le_self _ (by omega)
  generalize (b-a-1) / c=d at *
  omega
 ·decide
theorem zgt {a b c:Int} (ha:a.natAbs<2 ^ 40) (hb:b.natAbs<2 ^ 40) (hc:0<c) (hc':c<2 ^ 20):Builtin.Range.small a b c=true:=by
 have l:(2:Nat) ^ 40<2 ^ 42:=by decide
 unfold Builtin.Range.small
 rw [zbv (Nat.lt_trans ha l),zbv (Nat.lt_trans hb l),zbv (x:=c) (by have h2:c<1048576:=hc';show _<4398046511104;omega),zbv (zhb ha hb hc),if_pos hc,zbv (x:=b+(c-1)) (by have h2:c<1048576:=hc';have h3:b.natAbs<1099511627776:=hb;show _<4398046511104;omega)]
 simp
def yhW (ta:TA):TI:=fun σ H R=>ta σ H fun vs H1=>∃ i j c:Int,vs=[.int i,.int j,.int c]/\(i.natAbs<2 ^ 40/\j.natAbs<2 ^ 40/\0<c/\c<2 ^ 20)/\R (Itr3 i c (if i<j then (j-i-1) / c+1 else 0:Int).toNat) H1
theorem zhc {pins:List (Addr×Obj)} {σ:St} {H:Hp} {s:Shared} {R:It->Hp->Prop} {E:Value->Shared->Prop} {lo hi c:Int} {t u v:Tok} {tk:Nat} (I:Inv X pins σ H s) (h1:lo.natAbs<2 ^ 40) (h2:hi.natAbs<2 ^ 40) (h3:0<c) (h4:c<2 ^ 20)
  (q:R (Itr3 lo c (if lo<hi then (hi-lo-1) / c+1 else 0:Int).toNat) H):wpAny (model X.prog X.w) X.A (pyIter (.ref s.heap.objs.size)) (PIE X pins σ tg R) E { s with heap:=s.heap.push { cls:=.type "range",data:=.fields #[.int lo t,.int hi u,.int c v] },toks:=tk }:=by
 refine wpAny_pyIter_range (IsRange.new ..) (zgt h1 h2 h3 h4) ?_
 have I1:Inv X pins σ H { s with heap:=s.heap.push { cls:=.type "range",data:=.fields #[.int lo t,.int hi u,.int c v] },toks:=tk }:=I.kept fun b o e=>Heap.get?_push_of_some _ e
 refine ⟨(s.heap.push { cls:=.type "range",data:=.fields #[.int lo t,.int hi u,.int c v] }).objs.size,[(s.heap.push { cls:=.type "range",data:=.fields #[.int lo t,.int hi u,.int c v] }).objs.size],_,_,H,rfl,
  I1.kept (t' := tk) fun b o e=>Heap.get?_push_of_some _ e,zfd _ lo c (if lo<hi then (hi-lo-1) / c+1 else 0:Int).toNat,?_,fun b hb=>?_,q⟩
 ·have e1:lo+((0:Nat):Int)*c=lo:=by simp
  have e2:(((if lo<hi then (hi-lo-1) / c+1 else 0:Int).toNat:Nat):Int)-((0:Nat):Int)=Builtin.Range.rangeSize lo hi c:=by rw [zha h3];lia
  show IsRangeIter _ _ (lo+((0:Nat):Int)*c) ((((if lo<hi then (hi-lo-1) / c+1 else 0:Int).toNat:Nat):Int)-((0:Nat):Int)) c
  rw [e1,e2]
  exact Heap.get?_push_size _ rfl
 ·have e:b=(s.heap.push { cls:=.type "range",data:=.fields #[.int lo t,.int hi u,.int c v] }).objs.size:=by simpa using hb
  subst e
  exact I1.fpOk (Nat.le_refl _) (I1.hok.fresh (Nat.le_refl _))
theorem zhd {a b c:Expr} {ta:TA} {p pos:Pos} (hg:Gl X "range") (hm:X.mg "range" = none) (ha:PA X [a,b,c] ta) (hs:starEach [a,b,c] X.env=[(false,eval a X.env),(false,eval b X.env),(false,eval c X.env)]:=by rfl) (hs2:starEach [b,c] X.env=[(false,eval b X.env),(false,eval c X.env)]:=by rfl) :
  PI X tg (.Call (.Name "range" p) [a,b,c] [] pos) (yhW ta):=by
 intro pins s σ H R I h
 refine Call_ (yd7 I hg hm boot_range (PyProof.Rows.callWith_type1 (thn (ha pos pins s σ H _ I h) fun us s1 ⟨vs,H1,I1,r1,q1⟩=>?_) (by rw [hs,hs2]) (by rw [hs2];rfl)))
 obtain ⟨i,j,c,e,⟨q1,q2,q3,q4⟩,q⟩:=q1
 subst e
 cases r1 with
 | cons r rr =>
  cases rr with
  | cons r' rr =>
   cases rr with
   | cons r'' rr =>
    cases rr
    obtain ⟨t,rfl⟩:=r
    obtain ⟨t',rfl⟩:=r'
    obtain ⟨t'',rfl⟩:=r''
    exact call_range_3 (by lia) (zhc I1 q1 q2 q3 q4 q) (.inl (PyProof.noPylong_small (by lia)))
end
end L2
namespace L2
open PySem PySem.Spec PyProof.Rows
open PySem.Builtin PySem.Builtin.Str
section
variable {X:Cx}
def cutS (z:Str) (lo hi:Option Int):Str:=⟨((z.cps.toList.drop (HT.sIx z.cps.toList.length 0 lo)).take (HT.sIx z.cps.toList.length z.cps.toList.length hi-HT.sIx z.cps.toList.length 0 lo)).toArray⟩
theorem zbp (n d:Nat) (i:Int):max 0 (min (if i<0 then i+(n:Int) else i) (n:Int))=((HT.sIx n d (some i):Nat):Int):=by
 show max 0 (min (if i<0 then i+(n:Int) else i) (n:Int))=(((if i<0 then (i+(n:Int)).toNat else min i.toNat n):Nat):Int)
 split<;>lia
theorem zbC {a b:Int} {A B:Nat} (ha:a=A) (hb:b=B):sliceRange a b 1=(List.range (B-A)).map fun k=>A+k:=by
 subst ha hb
 unfold sliceRange
 simp only [show (1:Int) > 0 by decide,if_true]
 have:(if (A:Int)<(B:Int) then ((B:Int)-A+1-1) / 1 else 0).toNat=B-A:=by
  split<;>(try simp only [Int.ediv_one])<;>lia
 rw [this]
 apply List.map_congr_left
 intro k _
 lia
theorem zia (xs:List Nat) (i k:Nat):(List.range k).filterMap (fun m=>xs[i+m]?)=(xs.drop i).take k:=by
 induction k generalizing i with
 | zero=>simp
 | succ k ih =>
  rw [List.range_succ_eq_map,List.filterMap_cons,List.filterMap_map]
  have e:((fun m=>xs[i+m]?) ∘ Nat.succ)=fun m=>xs[(i+1)+m]? := by
   funext m;show xs[i+(m+1)]? = _;congr 1;lia
  rw [e,ih (i+1)]
  cases h:xs[i]? with
  | none =>
   have hl:xs.length<=i:=List.getElem?_eq_none_iff.mp h
   simp only [Nat.add_zero,h]
   rw [List.drop_of_length_le (by lia),List.drop_of_length_le hl];simp
  | some v =>
   have hi:=(List.getElem?_eq_some_iff.mp h).1
   simp only [Nat.add_zero,h]
   rw [List.drop_eq_getElem_cons hi,List.take_succ_cons]
   congr 1
   exact (Option.some.inj ((List.getElem?_eq_getElem hi).symm.trans h)).symm
theorem zgu (n:Nat) (lo hi:Option Int):strSliceIndices lo hi 1 n=(List.range (HT.sIx n n hi-HT.sIx n 0 lo)).map fun k=>HT.sIx n 0 lo+k:=by
 cases lo with
 | none =>
  cases hi with
  | none=>exact zbC rfl rfl
  | some j=>exact zbC rfl (zbp n n j)
 | some i =>
  cases hi with
  | none=>exact zbC (zbp n 0 i) rfl
  | some j=>exact zbC (zbp n 0 i) (zbp n n j)
theorem zib (z:Str) (lo hi:Option Int):Txt.slice z lo hi=cutS z lo hi:=by
 have hz:z.length=z.cps.toList.length:=by simp [Str.length]
 unfold Txt.slice cutS
 rw [hz,zgu,List.filterMap_map]
 have e:((fun x=>z.cps[x]?) ∘ fun k=>HT.sIx z.cps.toList.length 0 lo+k)=fun m=>z.cps.toList[HT.sIx z.cps.toList.length 0 lo+m]? := by
  funext m;simp
 rw [e,zia]
 split
 ·rename_i hc
  simp only [beq_self_eq_true,Bool.true_and,beq_iff_eq,List.length_map,List.length_range] at hc
  have h1:HT.sIx z.cps.toList.length z.cps.toList.length hi<=z.cps.toList.length:=HT.sIx_le _ _ (Nat.le_refl _) _
  have h2:HT.sIx z.cps.toList.length 0 lo=0\/z.cps.toList.length=0:=by lia
  rw [hc]
  rcases h2 with h2 | h2
  ·rw [h2,List.drop_zero,List.take_of_length_le (Nat.le_refl _)]
  ·have:z.cps.toList=[]:=List.eq_nil_of_length_eq_zero h2
   have h3:z.cps = #[]:=by simpa using this
   simp [h3]
   cases z;simp_all
 ·rfl
theorem zdi {v:Value} {o:Option Int} (p:IsPart v o):∃ l:Option (Int×Tok),v=partValue l/\l.map (·.1)=o:=by
 cases p with
 | none=>exact ⟨none,rfl,rfl⟩
 | int i t=>exact ⟨some (i,t),rfl,rfl⟩
theorem ygQ:SlR X (fun x lo hi H Q=>∃ z,x = .str z/\z.length<=sizeLine/\Q (.str (cutS z lo hi)) H):=by
 intro pins s σ H x v vl vu lo hi sl Q I rx hs pl pu h
 obtain ⟨z,rfl,hz,q⟩:=h
 obtain ⟨t,rfl⟩:=rx
 obtain ⟨l,rfl,rfl⟩:=zdi pl
 obtain ⟨u,rfl,rfl⟩:=zdi pu
 refine ⟨"str",_,F.slot_str_getitem.lookup,typeIs_str _ _ _,?_⟩
 refine wpAny_getItem_str_slice (l:=l) (u:=u) (st:=none) hs rfl ?_
 refine post_val_or_str ⟨Nat.le_trans (Txt.slice_le z (l.map (·.1)) (u.map (·.1))) hz,fun t' k=>?_⟩
 have e:=zib z (l.map (·.1)) (u.map (·.1))
 refine ⟨.str (cutS z (l.map (·.1)) (u.map (·.1))),H,I.tok _,⟨t',?_⟩,q⟩
 rw [<- e];rfl
def revS (z:Str):Str:=⟨z.cps.toList.reverse.toArray⟩
def ygd (r r' r'':R2) (ta tb tc td:TE):TE:=fun σ H Q=>ta σ H fun x H1=>tb σ H1 fun y H2=>r x y H2 fun z H3=>∃ k,z = .bl k /\
 (if k=true then tc σ H3 fun w' H4=>r' y w' H4 fun z2 H5=>∃ k2,z2 = .bl k2/\(if k2=true then td σ H5 fun v' H6=>r'' w' v' H6 Q else Q (.bl false) H5) else Q (.bl false) H3)
theorem zhe {a b c d:Expr} {ta tb tc td:TE} {pos:Pos} {op op' op'':CmpOp} {r r' r'':R2} (ho:OpR X (compareOp op) r) (ho':OpR X (compareOp op') r') (ho'':OpR X (compareOp op'') r'') (ha:PE X a ta) (hb:PE X b tb) (hc:PE X c tc) (hd:PE X d td)
  (hm:lastMarks [op,op',op''] [b,c,d]=false:=by with_unfolding_all rfl):PT X (.Compare a [op,op',op''] [b,c,d] pos) (yfc (ygd r r' r'' ta tb tc td)):=by
 intro pins s σ H Q I h
 refine isTrue_chain (thn (ha pins s σ H _ I h) fun v s1 ⟨x,H1,I1,r1,q1⟩=>test_link (thn (hb pins s1 σ H1 _ I1 q1) fun u s2 ⟨y,H2,I2,r2,q2⟩ =>
  thn (ho pins s2 σ H2 x y v u _ I2 r1 r2 q2) fun d s3 ⟨z,H3,I3,r3,k,e,q3⟩=>?_)) hm
 subst e
 cases r3
 refine wpAny_truthy_bool ?_
 cases k with
 | false =>
  obtain ⟨k',e',q'⟩:=q3
  cases e'
  exact ite_ff ⟨H3,I3,q'⟩
 | true =>
  refine ite_tt (test_link (thn (hc pins s3 σ H3 _ I3 q3) fun w' s4 ⟨z',H4,I4,r4,q4⟩=>thn (ho' pins s4 σ H4 y z' u w' _ I4 r2 r4 q4) fun d' s5 ⟨z2,H5,I5,r5,k2,e2,q5⟩=>?_))
  subst e2
  cases r5
  refine wpAny_truthy_bool ?_
  cases k2 with
  | false =>
   obtain ⟨k',e',q'⟩:=q5
   cases e'
   exact ite_ff ⟨H5,I5,q'⟩
  | true =>
   refine ite_tt (test_last (thn (hd pins s5 σ H5 _ I5 q5) fun w2 s6 ⟨z3,H6,I6,r6,q6⟩=>thn (ho'' pins s6 σ H6 z' z3 w' w2 _ I6 r4 r6 q6) fun d2 s7 ⟨z4,H7,I7,r7,k3,e3,q7⟩=>?_))
   subst e3
   cases r7
   exact wpAny_truthy_bool ⟨H7,I7,q7⟩
def repS (z:Str) (n:Nat):Str:=⟨((List.replicate n z.cps.toList).flatten).toArray⟩
theorem zje {z:Str} {n:Int} (h2:2<=n) (hz:1<=z.length):Txt.mul z n=repS z n.toNat:=by
 unfold Txt.mul repS
 rw [if_neg (by lia),if_neg (by simp;lia)]
 have:=zg9 (List.replicate n.toNat z.cps) #[]
 rw [List.map_replicate] at this
 have e:(List.replicate n.toNat z.cps).foldl (· ++ ·) #[]=((List.replicate n.toNat z.cps.toList).flatten).toArray:=by
  apply Array.toList_inj.mp
  rw [this];simp
 rw [e]
end
end L2
namespace L2
open PySem PySem.Spec PyProof.Rows
def ya1 (X:Cx) (pins:List (Addr×Obj)) (x₁ x₂:Str) (jf:List (Nat×Str)) (scope:Scope) (cl:List (Str×Addr)) (s:Shared) (H:Hp) (fp:List Addr):Cx where
 prog:=X.prog
 w:=X.w
 K:=X.K
 mg:=X.mg
 base:=X.base
 A:=X.A
 N:=x₁::x₂::jf.map (·.2)
 s₀:=s
 H₀:=H
 env:=compEnvC scope cl s.heap.objs.size X.env
 outer:=X.stack
 stack:=X.stack
 ex:=fp
 fn:=fun _=>false
 calm:=X.calm
 pn:=X.pn++pins
 xe:=fun _ _=>False
def ybc (v v2:Option V) (js:List (Nat×Str)) (σ:St):St:=v::v2::js.map fun j=>(σ[j.1]?).join
def yey (K:PySem.W.Frag) (jf:List (Nat×Str)) (wi:TI) (tc:TT) (te:TE):TE:=fun σ H Q=>wi σ H fun J H1=>∀ D,H1 D=none->∃ W:Nat->Nat->List V->Hp->Prop,(∃ m,W 0 m [] (upd H1 D (.lst []))) /\
 ∀ i m ys H2,W i m ys H2->H2 D=some (.lst ys)/\((J.stop i H2/\Q (.ref D) H2)\/(J.go i H2/\ys.length<sizeLine/\∀ x H3,J.yld i H2 x H3->∃ a u v,x = .ref a/\SqT K H3 a [u,v]/\tc (ybc (some u) (some v) jf σ) H3 fun b H5 =>
  if b=true then te (ybc (some u) (some v) jf σ) H5 fun w H6=>H6 D=some (.lst ys)/\∃ m',m'<m/\W (i+1) m' (ys++[w]) (upd H6 D (.lst (ys++[w]))) else ∃ m',m'<m/\W (i+1) m' ys H5))
section
variable {X:Cx} {pins:List (Addr×Obj)} {σ:St} {H:Hp} {s:Shared} {x₁ x₂:Str} {jf:List (Nat×Str)} {scope:Scope} {fp:List Addr}
theorem Inv.block2 {h1:Heap} {tk:Nat} (I:Inv X pins σ H s) (hf:∀ b∈fp,FpOk X pins H b) (hlt:∀ b∈fp,b<s.heap.objs.size) (hjf:∀ p∈jf,X.N[p.1]? = some p.2) (hjl:∀ p∈jf,scope.names.lookup p.2=some .free) (hkind:scope.kind = .function)
  (hcell:∀ y∈scope.names,y.2 ≠ .cell) (hfr:∀ y∈scope.names,y.2 = .free->X.env.kindOf y.1=some .cell\/X.env.kindOf y.1=some .free)
  (hn:h1.Ns s.heap.objs.size (fun _=>none)) (hk:∀ b o,s.heap.get? b=some o->h1.get? b=some o) :
  Inv (ya1 X pins x₁ x₂ jf scope (yav X.env scope.names []) s H fp) [] (ybc none none jf σ) H { s with heap:=h1,toks:=tk }:=by
 have hsome:∀ y∈scope.names,y.2 = .free->(X.env.cells.lookup y.1).isSome=true:=fun y hy hyf=>Option.isSome_iff_exists.mpr (I.ok.has y.1 (hfr y hy hyf))
 have sub:∀ y c,(yav X.env scope.names []).lookup y=some c->X.env.cells.lookup y=some c:=zbl hsome (fun y c e=>by simp at e)
 have hsz:=I.sz
 have inE:∀ b,b∈(ya1 X pins x₁ x₂ jf scope (yav X.env scope.names []) s H fp).ex->b∈fp:=fun b z=>z
 have stk:∀ b∈frs X.stack,b<s.heap.objs.size:=fun b hb=>by
  obtain ⟨_,o,ho,_⟩:=I.stack.mem hb
  exact Heap.lt_size ho
 refine ⟨⟨I.ok.mod,hkind,I.ok.glob,I.ok.blt,Nat.le_refl _,fun y z c e1 e2=>I.ok.inj y z c (sub y c e1) (sub z c e2),fun y hy=>?_,fun y c hfn _=>(by cases hfn),I.ok.hd,I.ok.frames,.inl rfl,fun b hb=>?_,fun b o e=>I.bs b o e,Nat.le_trans I.ok.bsz hsz,fun b o e z=>?_,fun b hb z=>?_,I.stack,I.stkFree⟩,
  rfl,I.bare,Un.kept hk,⟨_,hn,fun i y v e1 e2 e3=>?_⟩,fun y c e=>?_,I.hok.fresh (Nat.le_refl _),fun y c e=>I.freeC y c (sub y c e),fun p hp=>?_,I.hok.kept hk,?_⟩
 ·have hy':(relabel scope X.env).names.lookup y=some .cell\/(relabel scope X.env).names.lookup y=some .free:=hy
  have mem:(y,NameKind.free)∈scope.names:=by
   rcases hy' with q | q
   ·rcases zay (env:=X.env) q with z | z
    ·exact absurd rfl (hcell _ (zas z))
    ·exact zas z.2
   ·rcases zay (env:=X.env) q with z | z
    ·exact zas z
    ·exact zas z.2
  exact Option.isSome_iff_exists.mp (zbm (.inl mem))
 ·exact ⟨Nat.ne_of_lt (hlt b hb),fun y c e=>(hf b hb).2.2.2.2.1 y c (sub y c e)⟩
 ·rcases (hf b z).2.2.2.1 with q | q
  ·exact I.ok.noex b o e q
  ·exact absurd (Nat.lt_of_lt_of_le (Heap.lt_size e) (Nat.le_trans I.ok.bsz q)) (Nat.lt_irrefl _)
 ·rcases List.mem_cons.mp (I.stkSub b z) with q | q
  ·exact (hf b hb).2.1 q
  ·exact (hf b hb).2.2.1 q
 ·have e1':(x₁::x₂::jf.map (·.2))[i]? = some y:=e1
  unfold ybc at e2
  cases i with
  | zero=>cases e2
  | succ i=>cases i with
   | zero=>cases e2
   | succ i =>
   rw [List.getElem?_cons_succ,List.getElem?_cons_succ,List.getElem?_map] at e1' e2
   cases q:jf[i]? with
   | none=>rw [q] at e2;cases e2
   | some p =>
    rw [q] at e1' e2
    have ey:p.2=y:=Option.some.inj e1'
    have ev:(σ[p.1]?).join=some v:=Option.some.inj e2
    have hp:p∈jf:=List.mem_of_getElem? q
    have eσ:σ[p.1]? = some (some v):=by
     cases z:σ[p.1]? with
     | none=>rw [z] at ev;cases ev
     | some r=>rw [z] at ev;rw [show r=some v from ev]
    have hfree:scope.names.lookup y=some .free:=by rw [<- ey];exact hjl p hp
    have mem:=zas hfree
    have kX:=hfr _ mem rfl
    obtain ⟨m,hnX,hl⟩:=I.loc
    obtain ⟨u,ru,lk⟩:=hl p.1 y v (by rw [<- ey];exact hjf p hp) eσ (by
     rcases kX with z | z
     ·exact .inr (.inl z)
     ·exact .inr (.inr z))
    refine ⟨u,ru,.inr ⟨?_,?_⟩⟩
    ·have e3':Vis (relabel scope X.env) y:=e3
     rcases e3' with z | z | z
     ·exfalso
      rcases zay (env:=X.env) z with q | q
      ·rw [hfree] at q;cases q
      ·cases q.1
     ·exact .inl z
     ·exact .inr z
    ·rcases lk with ⟨z,_⟩ | ⟨_,c,hc,hcell'⟩
     ·exfalso
      rcases kX with q | q
      ·rw [show X.env.kindOf y=some .cell from q] at z;cases z
      ·rw [show X.env.kindOf y=some .free from q] at z;cases z
     ·obtain ⟨c',hc'⟩:=Option.isSome_iff_exists.mp (zbm (env:=X.env) (acc:=[]) (.inl mem))
      have e:=sub y c' hc'
      rw [hc] at e
      cases e
      obtain ⟨o,ho,hd⟩:=hcell'
      exact ⟨c,hc',o,hk c o ho,hd⟩
 ·obtain ⟨v,o,ho,hd⟩:=I.cell y c (sub y c e)
  exact ⟨v,o,hk c o ho,hd⟩
 ·have hp':p∈X.pn++pins:=by simpa [ya1] using hp
  obtain ⟨e,n,ne,nf,d⟩:=I.pin p hp'
  refine ⟨hk _ _ e,n,Nat.ne_of_lt (Heap.lt_size e),fun z=>?_,d⟩
  rcases List.mem_cons.mp (I.stkSub p.1 z) with q | q
  ·exact ne q
  ·exact nf q
 ·unfold ybc
  show _=(x₁::x₂::jf.map (·.2)).length
  simp
end
section
variable {X:Cx} {x₁ x₂:Str} {px p1 p2:Pos} {kk:Nat} {jf:List (Nat×Str)} {scope:Scope} {iter elt:Expr} {ifs:List Expr} {pos:Pos} {wi:TI} {tc:TT} {te:TE}
theorem zhf (hcalm:X.calm=true) (hi:PI X (.Tuple [.Name x₁ p1,.Name x₂ p2] kk px) iter wi) (hc:∀ pins cl s H fp,PTs (ya1 X pins x₁ x₂ jf scope cl s H fp) ifs tc) (he:∀ pins cl s H fp,PE (ya1 X pins x₁ x₂ jf scope cl s H fp) elt te)
  (hN:(x₁::x₂::jf.map (·.2)).Nodup) (hx:scope.names.lookup x₁=some .local) (hx2:scope.names.lookup x₂=some .local) (hjf:∀ p∈jf,X.N[p.1]? = some p.2) (hjl:∀ p∈jf,scope.names.lookup p.2=some .free) (hkind:scope.kind = .function)
  (hcell:∀ y∈scope.names,y.2 ≠ .cell) (hfr:∀ y∈scope.names,y.2 = .free->X.env.kindOf y.1=some .cell\/X.env.kindOf y.1=some .free)
  (hnames:∀ y∈scope.names,y.2 = .local->scope.names.lookup y.1=some .local) {use:Option (Value->Sem Unit)} {Qf:Value->Shared->Prop} {cpos:Pos}
  {pins:List (Addr×Obj)} {σ:St} {H:Hp} {s:Shared} {Q:VK} (I:Inv X pins σ H s) (h:yey X.K jf wi tc te σ H Q)
  (fin:∀ D C s6 H6 m6,Inv X pins σ H6 s6->Q (.ref D) H6->FpOk X pins H6 C->s6.heap.Ns C m6->compPost (model X.prog X.w) X.A X.xe use Qf (.ref D) C (.ok .next) s6) (hs:∀ x,foldedSetIterable iter X.env x=pure x) :
  wpAny (model X.prog X.w) X.A (comprehension (.ListComp elt [⟨.Tuple [.Name x₁ p1,.Name x₂ p2] kk px,iter,ifs,0⟩] scope pos) scope X.env cpos (newList []) false (eval iter X.env) use) Qf X.xe s:=by
 have hsome:∀ y∈scope.names,y.2 = .free->(X.env.cells.lookup y.1).isSome=true:=fun y hy hyf=>Option.isSome_iff_exists.mpr (I.ok.has y.1 (hfr y hy hyf))
 refine wpAny_comprehension_free (use:=use) rfl hs (zdh hsome) hkind hnames (thn (hi pins s σ H _ I h) fun xv s1 h1=>thn h1 fun itv s2 h2=>?_)
 obtain ⟨it,fp,tn,J,H2,e,I2,T,st2,f2,h⟩:=h2
 subst e
 refine wpAny_newObj_type (wpAny_newFunctionEnv hcell (by intro y hy;simp at hy) (fun h₁ hns₁ hsb₁=>?_) hkind)
 have hD0:H2 s2.heap.objs.size=none:=I2.hok.fresh (Nat.le_refl _)
 obtain ⟨W,⟨m0,w0⟩,step⟩:=h s2.heap.objs.size hD0
 dsimp only at hns₁ hsb₁ ⊢
 have I3:Inv X pins σ (upd H2 s2.heap.objs.size (.lst [])) { s2 with heap:=s2.heap.push { cls:=.type "list",dict:=none,data:=.seq ([]:List Value).toArray } } :=
  I2.laid (t' := s2.toks) (fun b u q=>Heap.get?_push_of_some _ q) (Nat.le_refl _) ⟨Nat.zero_le _,[],0,.nil,Heap.get?_push_size _ rfl⟩
 generalize hH3:s2.heap.push { cls:=.type "list",dict:=none,data:=.seq ([]:List Value).toArray }=hp3 at hns₁ hsb₁ I3 ⊢
 have hsz3:hp3.objs.size=s2.heap.objs.size+1:=by rw [<- hH3,Heap.size_push]
 have k23:∀ b o,s2.heap.get? b=some o->hp3.get? b=some o:=fun b o q=>by rw [<- hH3];exact Heap.get?_push_of_some _ q
 have flt:∀ b∈fp,b<s2.heap.objs.size:=fun b hb=>by
  obtain ⟨o,q,_⟩:=T.obj 0 _ st2 b hb
  exact Heap.lt_size q
 have f3:∀ b∈fp,FpOk X pins (upd H2 s2.heap.objs.size (.lst [])) b:=fun b hb=>by
  obtain ⟨g0,g⟩:=f2 b hb
  exact ⟨by rw [yaC (Nat.ne_of_lt (flt b hb))];exact g0,g⟩
 have kC:∀ b o,hp3.get? b=some o->h₁.get? b=some o:=fun b o q=>(hsb₁.2 b (Nat.ne_of_lt (Heap.lt_size q))).trans (Heap.get?_push_of_some _ q)
 have B0:=I3.block2 (x₁:=x₁) (x₂:=x₂) (jf:=jf) (scope:=scope) (fp:=fp) (h1:=h₁) (tk:=s2.toks+([]:List (Str×Value)).length) f3 (fun b hb=>by show b<hp3.objs.size;rw [hsz3];exact Nat.lt_succ_of_lt (flt b hb)) hjf hjl hkind hcell hfr (by simpa using hns₁) kC
 have st4:tn 0 h₁:=T.keep _ _ _ st2 fun b _ o q=>kC b o (k23 b o q)
 have w0' := w0
 have stat:∀ {H':Hp},(∀ b∈fp,H' b=none)->∀ b∈fp,FpOk (ya1 X pins x₁ x₂ jf scope (yav X.env scope.names []) { s2 with heap:=hp3 } (upd H2 s2.heap.objs.size (.lst [])) fp) [] H' b:=fun hn b hb=>by
  obtain ⟨_,g1,g2,g3,g4,g5⟩:=f2 b hb
  refine ⟨hn b hb,Nat.ne_of_lt (by show b<hp3.objs.size;rw [hsz3];exact Nat.lt_succ_of_lt (flt b hb)),fun z=>?_,.inl hb,fun y c q=>g4 y c (zbl hsome (fun y c e=>by simp at e) y c q),fun p hp=>g5 p (by simpa [ya1] using hp)⟩
  rcases List.mem_cons.mp (I2.stkSub b z) with q | q
  ·exact g1 q
  ·exact g2 q
 have loop:codeAny (model X.prog X.w) X.A (.compLoop (.ListComp elt [⟨.Tuple [.Name x₁ p1,.Name x₂ p2] kk px,iter,ifs,0⟩] scope pos) 0 (.ref it) (.ref s2.heap.objs.size) (compEnvC scope (yav X.env scope.names []) hp3.objs.size X.env))
   (compPost (model X.prog X.w) X.A X.xe use Qf (.ref s2.heap.objs.size) hp3.objs.size) { s2 with heap:=h₁,toks:=s2.toks+([]:List (Str×Value)).length }:=by
  refine zb0 (fun n s' => ∃ i ys H',Inv (ya1 X pins x₁ x₂ jf scope (yav X.env scope.names []) { s2 with heap:=hp3 } (upd H2 s2.heap.objs.size (.lst [])) fp) [] (ybc none none jf σ) H' s'/\tn i s'.heap/\(∀ b∈fp,H' b=none)/\W i n ys H') ?_ m0
   ⟨0,[],_,B0,st4,fun b hb=>(f3 b hb).1,w0⟩
  rintro n s5 ⟨i,ys,H5,I5,st5,fr5,w5⟩
  obtain ⟨hD5,alt⟩:=step i n ys H5 w5
  rcases alt with ⟨stop,q5⟩ | ⟨go,hlen,next⟩
  ·refine wpAny_mono (T.done (ya1 X pins x₁ x₂ jf scope (yav X.env scope.names []) { s2 with heap:=hp3 } (upd H2 s2.heap.objs.size (.lst [])) fp) rfl rfl rfl hcalm i [] s5 _ H5 (fun _ _=>False) I5 (stat fr5) st5 stop) (fun r s6 ⟨hr,I6⟩=>?_) fun _ _ z=>z
   subst hr
   obtain ⟨m6,hn6,_⟩:=id I6.loc
   refine fin _ _ s6 H5 m6 ?_ q5 (I3.fpOk (Nat.le_refl _) I6.free) hn6
   refine I3.call' (ch:=fp) I6.os I6.base I6.hok I6.bare (fun b hb=>?_)
   obtain ⟨_,g1,g2,g3,g4,g5⟩:=f2 b hb
   exact ⟨g3,g1,g4,g5⟩
  ·refine wpAny_mono (T.item (ya1 X pins x₁ x₂ jf scope (yav X.env scope.names []) { s2 with heap:=hp3 } (upd H2 s2.heap.objs.size (.lst [])) fp) rfl rfl rfl hcalm i [] s5 _ H5 (fun _ _=>False) I5 (stat fr5) st5 go) (fun r s6 ⟨u,hr,h6⟩=>?_) fun _ _ z=>z
   subst hr
   refine wpAny_mono h6 (fun _ s7 ⟨x,H7,I7,r7,y7,st7,fr7⟩=>?_) fun _ _ z=>z
   have I7' := I7.pinned (stat fr7) (T.obj _ _ st7)
   have hloc:Loc (ya1 X pins x₁ x₂ jf scope (yav X.env scope.names []) { s2 with heap:=hp3 } (upd H2 s2.heap.objs.size (.lst [])) fp).env.scope x₁:=.inl (lookup_relabel_local hx)
   have hloc2:Loc (ya1 X pins x₁ x₂ jf scope (yav X.env scope.names []) { s2 with heap:=hp3 } (upd H2 s2.heap.objs.size (.lst [])) fp).env.scope x₂:=.inl (lookup_relabel_local hx2)
   obtain ⟨a8,u1,u2,rfl,sq8,q8⟩:=next x H7 y7
   have PGt:PG (ya1 X pins x₁ x₂ jf scope (yav X.env scope.names []) { s2 with heap:=hp3 } (upd H2 s2.heap.objs.size (.lst [])) fp) (.Tuple [.Name x₁ p1,.Name x₂ p2] kk px) (gTup X.K 2 (yfb (yej 0) (yfb (yej 1) gNil))) :=
    yfo hcalm (zcR (zck hN rfl hloc (.inr (lookup_relabel_local hx))) (zcR (zck hN rfl hloc2 (.inr (lookup_relabel_local hx2))) zfw))
   refine wpAny_mono (PGt ([]++ybM fp s7.heap) s7 _ H7 (.ref a8) _ (fun σ' H' => σ'=ybc (some u1) (some u2) jf σ/\H7=H') I7' r7 ⟨a8,[u1,u2],rfl,sq8,rfl,u1,[u2],rfl,u2,[],rfl,rfl,rfl,rfl⟩) (fun _ s8 ⟨σ8,H8,I8,e8,e8'⟩=>?_) fun _ _ z=>z
   subst e8 e8'
   have I8':Inv (ya1 X pins x₁ x₂ jf scope (yav X.env scope.names []) { s2 with heap:=hp3 } (upd H2 s2.heap.objs.size (.lst [])) fp) ([]++ybM fp s7.heap) (ybc (some u1) (some u2) jf σ) H7 s8:=I8
   have again:∀ {s9:Shared} {H9:Hp} {zs:List V} {m':Nat},Inv (ya1 X pins x₁ x₂ jf scope (yav X.env scope.names []) { s2 with heap:=hp3 } (upd H2 s2.heap.objs.size (.lst [])) fp) ([]++ybM fp s7.heap) (ybc (some u1) (some u2) jf σ) H9 s9->m'<n->W (i+1) m' zs H9 ->
     ∃ m,m<n/\∃ i ys H',Inv (ya1 X pins x₁ x₂ jf scope (yav X.env scope.names []) { s2 with heap:=hp3 } (upd H2 s2.heap.objs.size (.lst [])) fp) [] (ybc none none jf σ) H' s9/\tn i s9.heap/\(∀ b∈fp,H' b=none)/\W i m ys H' := fun {s9 H9 zs m'} I9 hm w9=>by
    refine ⟨m',hm,i+1,zs,H9,I9.unpinned.weak (by simp [ybc]) (fun j v e=>?_),T.keep _ _ _ st7 fun b hb o e=>(I9.pin (b,o) (List.mem_append_right _ (List.mem_append_right _ (zaO hb e)))).1,fun b hb=>?_,w9⟩
    ·cases j with
     | zero=>simp [ybc] at e
     | succ j=>cases j with
      | zero=>simp [ybc] at e
      | succ j=>simpa [ybc] using e
    ·obtain ⟨o,e,d⟩:=T.obj _ _ st7 b hb
     exact (I9.pin (b,o) (List.mem_append_right _ (List.mem_append_right _ (zaO hb e)))).2.1
   refine wpAny_mono (hc pins _ _ _ fp ([]++ybM fp s7.heap) s8 _ H7 _ I8' q8) (fun ok s9 ⟨H9,I9,q9⟩=>?_) fun _ _ z=>z
   cases ok with
   | false =>
    rw [if_neg Bool.false_ne_true] at q9 ⊢
    obtain ⟨m',hm,w9⟩:=q9
    exact again I9 hm w9
   | true =>
    rw [if_pos rfl] at q9 ⊢
    refine wpAny_mono (he pins _ _ _ fp ([]++ybM fp s7.heap) s9 _ H9 _ I9 q9) (fun y s10 ⟨v,H10,I10,r10,hD10,m',hm,w10⟩=>?_) fun _ _ z=>z
    refine wpAny_mono (zbY (X:=(ya1 X pins x₁ x₂ jf scope (yav X.env scope.names []) { s2 with heap:=hp3 } (upd H2 s2.heap.objs.size (.lst [])) fp)) ([]++ybM fp s7.heap) s10 (ybc (some u1) (some u2) jf σ) H10 (.ref s2.heap.objs.size) [v] (.ref s2.heap.objs.size) [y] (fun _ H' => H'=upd H10 s2.heap.objs.size (.lst (ys++[v]))) I10 rfl (.cons r10 .nil) ⟨_,ys,v,rfl,rfl,hD10,hlen,rfl⟩)
     (fun _ s11 ⟨_,H11,I11,_,e11⟩=>?_) fun _ _ z=>z
    subst e11
    exact again I11 hm w10
 exact codeAny_compStart_list loop (T.self _ 0 _ _ _ st4 loop)
theorem zic (hcalm:X.calm=true) (hi:PI X (.Tuple [.Name x₁ p1,.Name x₂ p2] kk px) iter wi) (hc:∀ pins cl s H fp,PTs (ya1 X pins x₁ x₂ jf scope cl s H fp) ifs tc) (he:∀ pins cl s H fp,PE (ya1 X pins x₁ x₂ jf scope cl s H fp) elt te)
  (hN:(x₁::x₂::jf.map (·.2)).Nodup) (hx:scope.names.lookup x₁=some .local) (hx2:scope.names.lookup x₂=some .local) (hjf:∀ p∈jf,X.N[p.1]? = some p.2) (hjl:∀ p∈jf,scope.names.lookup p.2=some .free) (hkind:scope.kind = .function)
  (hcell:∀ y∈scope.names,y.2 ≠ .cell) (hfr:∀ y∈scope.names,y.2 = .free->X.env.kindOf y.1=some .cell\/X.env.kindOf y.1=some .free)
  (hnames:∀ y∈scope.names,y.2 = .local->scope.names.lookup y.1=some .local) (hs:∀ x,foldedSetIterable iter X.env x=pure x:=by intro _;rfl) :
  PE X (.ListComp elt [⟨.Tuple [.Name x₁ p1,.Name x₂ p2] kk px,iter,ifs,0⟩] scope pos) (yey X.K jf wi tc te):=by
 intro pins s σ H Q I h
 rw [eval_ListComp]
 refine zhf hcalm hi hc he hN hx hx2 hjf hjl hkind hcell hfr hnames (use:=none) (Qf:=EP X pins σ Q) I h (fun D C s6 H6 m6 I6 q6 f6 n6=>?_) hs
 refine ⟨m6,n6,fun h' hs' => ⟨.ref D,H6,?_,rfl,q6⟩⟩
 exact I6.turnedL (fp:=[C]) (t' := s6.toks) (fun b o hb q=>(hs'.2 b (fun z=>hb (by simp [z]))).trans q) (fun b hb=>by
  have e:b=C:=by simpa using hb
  subst e
  exact f6)
end
section
variable {X:Cx}
end
end L2
namespace L2
open PySem PySem.Spec PyProof.Rows
open PySem.Builtin PySem.Builtin.Str
section
variable {X:Cx}
theorem zid (z:Str) (n:Int):Txt.mul z n=repS z n.toNat:=by
 by_cases h2:2<=n/\1<=z.length
 ·exact zje h2.1 h2.2
 ·unfold Txt.mul
  by_cases h1:n<1
  ·rw [if_pos h1,show n.toNat=0 by lia];rfl
  ·rw [if_neg h1,if_pos (by simp;lia)]
   by_cases hz:z.length=0
   ·have e:z.cps.toList=[]:=List.length_eq_zero_iff.mp (by simpa [Str.length] using hz)
    cases z
    simp only [repS,Str.mk.injEq] at *
    rw [e]
    apply Array.toList_inj.mp
    simp [e]
   ·rw [show n.toNat=1 by lia]
    cases z
    simp [repS]
theorem zgv:OpR X (binaryOp .Mult) (fun x y H Q=>∃ z n,x = .str z/\y = .int n/\n.natAbs<2 ^ 40/\z.length*n.toNat<=1000000/\Q (.str (repS z n.toNat)) H):=by
 intro pins s σ H x y v u Q I rx ry h
 obtain ⟨z,n,rfl,rfl,hb,hl,q⟩:=h
 obtain ⟨t,rfl⟩:=rx
 obtain ⟨t',rfl⟩:=ry
 have hb2:n.natAbs<1099511627776:=hb
 refine SB.mul ⟨?_,fun h1 _=>?_,fun _ _=>?_⟩ fun t2 k=>⟨.str (repS z n.toNat),H,I.tok _,⟨t2,by rw [zid]⟩,q⟩
 ·simp;omega
 ·intro hc
  have n0:(n:Int)=(n.toNat:Int):=by omega
  have h1:n*(z.length:Int)<=1000000:=by
   rw [n0,<- Int.natCast_mul,Nat.mul_comm];exact Int.ofNat_le.mpr hl
  have h3:(2 ^ 63-1:Int) / n<z.length:=hc
  have h4:(2 ^ 63-1:Int)<z.length*n:=Int.lt_mul_of_ediv_lt (by omega) h3
  rw [Int.mul_comm] at h4
  have:(9223372036854775807:Int)<n*z.length:=h4
  omega
 ·exact decide_eq_false (Nat.not_lt.mpr (Nat.le_trans hl (by decide)))
end
section
variable {prog:Program} {w:World} {A:Around} {E:Value->Shared->Prop} {s:Shared}
end
section
variable {X:Cx} {pos:Pos}
end
end L2
namespace L2
open PySem PySem.Spec PyProof.Rows
open PySem.Builtin PySem.Builtin.Str
section
variable {X:Cx} {tg:Expr}
theorem zie:MtR X "str.upper" (fun x vs H Q=>∃ z,x = .str z/\vs=[]/\(Txt.upper z).length<=sizeLine/\Q (.str (Txt.upper z)) H):=by
 intro pins s σ H x vs v us Q I rx rv h
 obtain ⟨z,rfl,rfl,hl,q⟩:=h
 obtain ⟨t,rfl⟩:=rx
 cases rv
 exact call_gives F.slot_str_upper (typeIs_str s z t) F.entry_str_upper (F.args_str_upper_1 _) (gives_str_upper z t (decide_eq_false (Nat.not_lt.mpr hl))) ⟨hl,.str _,H,I.tok _,⟨_,rfl⟩,q⟩
end
end L2
namespace Sm
open PySem L2
inductive AV where
 | non | bl (b:Bool) | int (i:Int) | str (x:Str)
 | tup (xs:List AV)
 | fl (xs:List AV)
 | ref (n:Nat)
 | exc (c:Nat)
 deriving Inhabited
inductive AO where
 | lst (xs:List AV)
 | dct (t:Bool) (kvs:List (AV×AV))
 | ins (c:Nat) (fs:List (Option AV))
abbrev AH:=List AO
abbrev En:=List (Option AV)
inductive Out (α:Type) where
 | ok (a:α) (h:AH)
 | ex (c:Nat) (h:AH)
 | bad
@[simp] def Out.bind {α β:Type} (o:Out α) (f:α->AH->Out β):Out β :=
 match o with
 | .ok a h=>f a h
 | .ex c h=>.ex c h
 | .bad=>.bad
inductive OutS where
 | nx (e:En) (h:AH)
 | rt (v:AV) (h:AH)
 | bk (e:En) (h:AH)
 | ct (e:En) (h:AH)
 | ex (c:Nat) (e:En) (h:AH)
 | bad
abbrev SE:=En->AH->Out AV
abbrev SB:=En->AH->Out Bool
abbrev SL:=En->AH->Out (List AV)
abbrev SS:=En->AH->OutS
abbrev Fn:=List AV->AH->Out AV
@[simp] def Out.go {α:Type} (o:Out α) (e:En) (f:α->AH->OutS):OutS :=
 match o with
 | .ok a h=>f a h
 | .ex c h=>.ex c e h
 | .bad=>.bad
structure Tb where
 K:PySem.W.Frag
 cls:Nat->Option Addr
 exc:Nat->Option Addr
 fields:Nat->List Str
 nd:∀ c,(fields c).Nodup
 few:∀ c,(fields c).length<=500
def KL (K:PySem.W.Frag) (a:Addr) (xs:List V):Prop:=∃ (o:Obj) (its:Array Value) (n:Nat),K.lookup a=some o/\o.cls = .type "list" /\ o.dict=none/\o.data = .seq its n/\its.size<=sizeLine/\Vals xs its.toList
structure Ix where
 refs:List Addr
 priv:List Addr
def Ix.all (ι:Ix):List Addr:=ι.refs++ι.priv
mutual
inductive RV (T:Tb) (ι:Ix) (H:Hp):AV->V->Prop
 | non:RV T ι H .non .non
 | bl (b:Bool):RV T ι H (.bl b) (.bl b)
 | int (i:Int):RV T ι H (.int i) (.int i)
 | str {x:Str} (n:x.length<=sizeLine) (o:x.cps.all (· < 0x110000)=true):RV T ι H (.str x) (.str x)
 | tup {xs:List AV} {us:List V} {a:Addr} (n:a∉ι.all) (h:H a=some (.tup us)) (r:RVs T ι H xs us):RV T ι H (.tup xs) (.ref a)
 | fl {xs:List AV} {us:List V} {a:Addr} (n:a∉ι.all) (h:Rd H a (.lst us)) (r:RVs T ι H xs us):RV T ι H (.fl xs) (.ref a)
 | kfl {xs:List AV} {us:List V} {a:Addr} (h:KL T.K a us) (r:RVs T ι H xs us):RV T ι H (.fl xs) (.ref a)
 | ref {k:Nat} {a:Addr} (h:ι.refs[k]? = some a):RV T ι H (.ref k) (.ref a)
 | exc {c:Nat} {C a:Addr} (n:a∉ι.all) (h:T.exc c=some C) (q:H a=some (excO a (.ref C))):RV T ι H (.exc c) (.ref a)
inductive RVs (T:Tb) (ι:Ix) (H:Hp):List AV->List V->Prop
 | nil:RVs T ι H [] []
 | cons {x:AV} {u:V} {xs:List AV} {us:List V} (r:RV T ι H x u) (rs:RVs T ι H xs us):RVs T ι H (x::xs) (u::us)
end
structure Grow (ι:Ix) (H:Hp) (ι':Ix) (H':Hp):Prop where
 pre:∃ n,ι'.refs=ι.refs++n/\∀ a∈n,H a=none
 priv:ι'.priv=ι.priv
 keep:∀ a o,a∉ι.refs->H a=some o->H' a=some o
 live:∀ a∈ι.all,H' a≠none
theorem zeE:∀ {l:List Addr} {i j:Nat} {a:Addr},l.Nodup->l[i]? = some a->l[j]? = some a->i=j
 | [],_,_,_,_,e,_=>by simp at e
 | x::l,0,0,_,_,_,_=>rfl
 | x::l,0,j+1,a,n,e,f=>by
  simp at e f;subst e
  exact absurd (List.mem_of_getElem? f) (List.nodup_cons.mp n).1
 | x::l,i+1,0,a,n,e,f=>by
  simp at e f;subst f
  exact absurd (List.mem_of_getElem? e) (List.nodup_cons.mp n).1
 | x::l,i+1,j+1,a,n,e,f=>by
  simp at e f
  rw [zeE (List.nodup_cons.mp n).2 e f]
theorem Ix.nr {ι:Ix} {a:Addr} (h:a∉ι.all):a∉ι.refs:=fun z=>h (List.mem_append_left _ z)
theorem Ix.np {ι:Ix} {a:Addr} (h:a∉ι.all):a∉ι.priv:=fun z=>h (List.mem_append_right _ z)
theorem Grow.refl {ι:Ix} {H:Hp} (l:∀ a∈ι.all,H a≠none):Grow ι H ι H:=⟨⟨[],by simp,by simp⟩,rfl,fun _ _ _ e=>e,l⟩
theorem Grow.at {ι ι':Ix} {H H':Hp} (g:Grow ι H ι' H') {k:Nat} {a:Addr} (h:ι.refs[k]? = some a):ι'.refs[k]? = some a:=by
 obtain ⟨n,e,_⟩:=g.pre
 rw [e,List.getElem?_append_left (List.getElem?_eq_some_iff.mp h).1]
 exact h
theorem Grow.outR {ι ι':Ix} {H H':Hp} (g:Grow ι H ι' H') {a:Addr} {o:HO} (n:a∉ι.refs) (e:H a=some o):a∉ι'.refs:=fun z=>by
 obtain ⟨m,e',hm⟩:=g.pre
 rw [e'] at z
 rcases List.mem_append.mp z with z | z
 ·exact n z
 ·rw [hm a z] at e;cases e
theorem Grow.out {ι ι':Ix} {H H':Hp} (g:Grow ι H ι' H') {a:Addr} {o:HO} (n:a∉ι.all) (e:H a=some o):a∉ι'.all:=fun z=>by
 rcases List.mem_append.mp z with z | z
 ·exact g.outR (Ix.nr n) e z
 ·rw [g.priv] at z;exact Ix.np n z
theorem Grow.trans {ι ι' ι'':Ix} {H H' H'':Hp} (g:Grow ι H ι' H') (k:Grow ι' H' ι'' H''):Grow ι H ι'' H'' := by
 obtain ⟨n,e1,hn⟩:=g.pre
 obtain ⟨m,e2,hm⟩:=k.pre
 refine ⟨⟨n++m,by rw [e2,e1];simp,fun a ha=>?_⟩,k.priv.trans g.priv,fun a o na e=>k.keep a o (g.outR na e) (g.keep a o na e),fun a ha=>k.live a ?_⟩
 ·rcases List.mem_append.mp ha with z | z
  ·exact hn a z
  ·have q:=hm a z
   by_cases hi:a∈ι.refs
   ·exact absurd q (g.live a (List.mem_append_left _ hi))
   ·cases e:H a with
    | none=>rfl
    | some o=>rw [g.keep a o hi e] at q;cases q
 ·rcases List.mem_append.mp ha with z | z
  ·exact List.mem_append_left _ (by rw [e1];exact List.mem_append_left _ z)
  ·exact List.mem_append_right _ (by rw [g.priv];exact z)
structure Ext (ι:Ix) (H:Hp) (ι':Ix) (H':Hp):Prop where
 at_:∀ {k:Nat} {a:Addr},ι.refs[k]? = some a->ι'.refs[k]? = some a
 keep:∀ a o,a∉ι.all->H a=some o->H' a=some o
 out:∀ a o,a∉ι.all->H a=some o->a∉ι'.all
theorem Grow.ext {ι ι':Ix} {H H':Hp} (g:Grow ι H ι' H'):Ext ι H ι' H' := ⟨g.at,fun a o n e=>g.keep a o (Ix.nr n) e,fun a o n e=>g.out n e⟩
theorem Ext.trans {ι ι' ι'':Ix} {H H' H'':Hp} (g:Ext ι H ι' H') (k:Ext ι' H' ι'' H''):Ext ι H ι'' H'' :=
 ⟨fun e=>k.at_ (g.at_ e),fun a o n e=>k.keep a o (g.out a o n e) (g.keep a o n e),fun a o n e=>k.out a o (g.out a o n e) (g.keep a o n e)⟩
theorem zfH {ι ι':Ix} {H H':Hp} (g:Ext ι H ι' H') {a:Addr} {u:HO} (n:a∉ι.all) (r:Rd H a u):Rd H' a u:=by
 rcases r with r | ⟨o,r⟩
 ·exact .inl (g.keep a _ n r)
 ·exact .inr ⟨o,g.keep a _ n r⟩
theorem ygR {ι ι':Ix} {H H':Hp} (g:Ext ι H ι' H') {a:Addr} {u:HO} (n:a∉ι.all) (r:Rd H a u):a∉ι'.all:=by
 rcases r with r | ⟨o,r⟩
 ·exact g.out _ _ n r
 ·exact g.out _ _ n r
mutual
theorem RV.ext {T:Tb} {ι ι':Ix} {H H':Hp} (g:Ext ι H ι' H'):∀ {x:AV} {u:V},RV T ι H x u->RV T ι' H' x u
 | _,_,.non=>.non
 | _,_,.bl b=>.bl b
 | _,_,.int i=>.int i
 | _,_,.str n o=>.str n o
 | _,_,.tup n h r=>.tup (g.out _ _ n h) (g.keep _ _ n h) (RVs.ext g r)
 | _,_,.fl n h r=>.fl (ygR g n h) (zfH g n h) (RVs.ext g r)
 | _,_,.kfl h r=>.kfl h (RVs.ext g r)
 | _,_,.ref h=>.ref (g.at_ h)
 | _,_,.exc n h q=>.exc (g.out _ _ n q) h (g.keep _ _ n q)
theorem RVs.ext {T:Tb} {ι ι':Ix} {H H':Hp} (g:Ext ι H ι' H'):∀ {xs:List AV} {us:List V},RVs T ι H xs us->RVs T ι' H' xs us
 | _,_,.nil=>.nil
 | _,_,.cons r rs=>.cons (RV.ext g r) (RVs.ext g rs)
end
theorem RV.mono {T:Tb} {ι ι':Ix} {H H':Hp} (g:Grow ι H ι' H') {x:AV} {u:V} (r:RV T ι H x u):RV T ι' H' x u:=r.ext g.ext
theorem RVs.mono {T:Tb} {ι ι':Ix} {H H':Hp} (g:Grow ι H ι' H') {xs:List AV} {us:List V} (r:RVs T ι H xs us):RVs T ι' H' xs us:=r.ext g.ext
section
variable {T:Tb} {ι:Ix} {H:Hp}
theorem RVs.length:∀ {xs:List AV} {us:List V},RVs T ι H xs us->xs.length=us.length
 | _,_,.nil=>rfl
 | _,_,.cons _ rs=>by simp [RVs.length rs]
theorem RVs.get:∀ {xs:List AV} {us:List V} {i:Nat} {x:AV},RVs T ι H xs us->xs[i]? = some x->∃ u,us[i]? = some u/\RV T ι H x u
 | _,_,_,_,.nil,e=>by simp at e
 | _,_,0,_,.cons r _,e=>by simp at e;subst e;exact ⟨_,rfl,r⟩
 | _,_,i+1,x,.cons _ t,e=>by
  obtain ⟨u,h1,h2⟩:=RVs.get (i:=i) (x:=x) t (by simpa using e)
  exact ⟨u,by simpa using h1,h2⟩
theorem RVs.append:∀ {xs ys:List AV} {us ws:List V},RVs T ι H xs us->RVs T ι H ys ws->RVs T ι H (xs++ys) (us++ws)
 | _,_,_,_,.nil,s=>s
 | _,_,_,_,.cons r t,s=>.cons r (RVs.append t s)
theorem RVs.set {x:AV} {u:V} (r:RV T ι H x u):∀ {xs:List AV} {us:List V} (i:Nat),RVs T ι H xs us->RVs T ι H (xs.set i x) (us.set i u)
 | _,_,_,.nil=>.nil
 | _,_,0,.cons _ t=>.cons r t
 | _,_,i+1,.cons q t=>.cons q (RVs.set r i t)
theorem RVs.take:∀ {xs:List AV} {us:List V} (n:Nat),RVs T ι H xs us->RVs T ι H (xs.take n) (us.take n)
 | _,_,0,_=>by simpa using RVs.nil
 | _,_,_+1,.nil=>.nil
 | _,_,n+1,.cons r t=>.cons r (RVs.take n t)
theorem RVs.drop:∀ {xs:List AV} {us:List V} (n:Nat),RVs T ι H xs us->RVs T ι H (xs.drop n) (us.drop n)
 | _,_,0,r=>r
 | _,_,_+1,.nil=>.nil
 | _,_,n+1,.cons _ t=>RVs.drop n t
end
def kA:Key->AV
 | .inl i=>.int i
 | .inr x=>.str x
def OR (T:Tb) (ι:Ix) (H:Hp):AO->HO->Prop
 | .lst xs,o=>∃ us,o = .lst us/\RVs T ι H xs us
 | .dct false kvs,o=>∃ kus:List (Key×V),o = .dK kus/\Paired (fun (p:AV×AV) (q:Key×V)=>p.1=kA q.1/\RV T ι H p.2 q.2) kvs kus
 | .dct true kvs,o=>∃ kus:List (List Key×V),o = .dT kus/\Paired (fun (p:AV×AV) (q:List Key×V)=>p.1 = .tup (q.1.map kA)/\RV T ι H p.2 q.2) kvs kus
 | .ins c fs,o=>∃ C dx fus,T.cls c=some C/\o = .ins C dx fus/\(fus.map (·.1)).Nodup/\(∀ p∈fus,p.1∈T.fields c)/\fs.length=(T.fields c).length /\
   ∀ (i:Nat) (v:AV),fs[i]? = some (some v)->∃ f u,(T.fields c)[i]? = some f/\fus.lookup f=some u/\RV T ι H v u
theorem OR.mono {T:Tb} {ι ι':Ix} {H H':Hp} (g:Grow ι H ι' H') {o:AO} {u:HO} (h:OR T ι H o u):OR T ι' H' o u:=by
 cases o with
 | lst xs=>obtain ⟨us,e,r⟩:=h;exact ⟨us,e,r.mono g⟩
 | dct t kvs =>
  cases t with
  | false=>obtain ⟨us,e,r⟩:=h;exact ⟨us,e,Paired.mapP r fun _ _ ⟨a,b⟩=>⟨a,b.mono g⟩⟩
  | true=>obtain ⟨us,e,r⟩:=h;exact ⟨us,e,Paired.mapP r fun _ _ ⟨a,b⟩=>⟨a,b.mono g⟩⟩
 | ins c fs =>
  obtain ⟨C,dx,fus,a,b,n,w,l,r⟩:=h
  refine ⟨C,dx,fus,a,b,n,w,l,fun i v e=>?_⟩
  obtain ⟨f,u,e1,e2,q⟩:=r i v e
  exact ⟨f,u,e1,e2,q.mono g⟩
structure Sim (T:Tb) (ι:Ix) (h:AH) (H:Hp):Prop where
 len:ι.refs.length=h.length
 nd:ι.refs.Nodup
 plive:∀ a∈ι.priv,H a≠none
 obj:∀ (i:Nat) (o:AO) (a:Addr),h[i]? = some o->ι.refs[i]? = some a->∃ u,H a=some u/\OR T ι H o u
section
variable {T:Tb} {ι:Ix} {h:AH} {H:Hp}
theorem Sim.live (S:Sim T ι h H):∀ a∈ι.all,H a≠none:=fun a ha z=>by
 rcases List.mem_append.mp ha with ha | ha
 ·obtain ⟨i,hi⟩:=List.mem_iff_getElem?.mp ha
  have hl:i<h.length:=by rw [<- S.len];exact (List.getElem?_eq_some_iff.mp hi).1
  obtain ⟨u,e,_⟩:=S.obj i h[i] a (by simp [hl]) hi
  rw [z] at e;cases e
 ·exact S.plive a ha z
theorem Sim.refl (S:Sim T ι h H):Grow ι H ι H:=.refl S.live
theorem Sim.fresh (S:Sim T ι h H) {p:Addr} (n:H p=none):p∉ι.all:=fun z=>S.live p z n
theorem Sim.still (S:Sim T ι h H) {H':Hp} (g:Grow ι H ι H') (k:∀ a∈ι.refs,H' a=H a):Sim T ι h H' :=
 ⟨S.len,S.nd,fun a ha=>g.live a (List.mem_append_right _ ha),fun i o a e1 e2=>by
  obtain ⟨u,e,r⟩:=S.obj i o a e1 e2
  exact ⟨u,by rw [k a (List.mem_of_getElem? e2)];exact e,r.mono g⟩⟩
theorem Sim.growNew (S:Sim T ι h H) {p:Addr} {o:HO} (n:H p=none):Grow ι H ι (upd H p o) :=
 ⟨⟨[],by simp,by simp⟩,rfl,fun a u _ e=>by rw [yaC (zav e n)];exact e,fun a ha=>by
  rw [yaC (show a≠p from fun z=>S.fresh n (z▸ha))];exact S.live a ha⟩
theorem Sim.new (S:Sim T ι h H) {p:Addr} {o:HO} (n:H p=none):Sim T ι h (upd H p o) :=
 S.still (S.growNew n) fun a ha=>yaC fun z=>S.fresh n (z▸List.mem_append_left _ ha)
def Ix.add (ι:Ix) (p:Addr):Ix:=⟨ι.refs++[p],ι.priv⟩
theorem Sim.growAdd (S:Sim T ι h H) {p:Addr} {u:HO} (n:H p=none):Grow ι H (ι.add p) (upd H p u) :=
 ⟨⟨[p],rfl,fun a ha=>by have e:a=p:=(by simpa using ha);rw [e];exact n⟩,rfl,(S.growNew n).keep,(S.growNew n).live⟩
theorem Sim.add (S:Sim T ι h H) {p:Addr} {u:HO} {o:AO} (n:H p=none) (r:OR T (ι.add p) (upd H p u) o u):Sim T (ι.add p) (h++[o]) (upd H p u):=by
 refine ⟨by simp [Ix.add,S.len],?_,fun a ha=>(S.growNew n).live a (List.mem_append_right _ ha),fun i o' a e1 e2=>?_⟩
 ·show (ι.refs++[p]).Nodup
  rw [List.nodup_append]
  exact ⟨S.nd,by simp,fun a ha b hb z=>by have e:b=p:=(by simpa using hb);subst e;subst z;exact S.fresh n (List.mem_append_left _ ha)⟩
 ·replace e2:(ι.refs++[p])[i]? = some a:=e2
  by_cases hi:i<h.length
  ·rw [List.getElem?_append_left hi] at e1
   rw [List.getElem?_append_left (by rw [S.len];exact hi)] at e2
   obtain ⟨v,e,q⟩:=S.obj i o' a e1 e2
   exact ⟨v,by rw [yaC (zav e n)];exact e,q.mono (S.growAdd n)⟩
  ·have e3:i=h.length:=by
    have:=(List.getElem?_eq_some_iff.mp e1).1
    simp at this;lia
   subst e3
   rw [List.getElem?_append_right (Nat.le_refl _)] at e1
   rw [List.getElem?_append_right (by rw [S.len];exact Nat.le_refl _),S.len] at e2
   simp at e1 e2
   subst e1 e2
   exact ⟨u,zat,r⟩
theorem Sim.addAt (S:Sim T ι h H) {p:Addr}:(ι.add p).refs[h.length]? = some p:=by
 show (ι.refs++[p])[h.length]? = some p
 rw [<- S.len];simp
theorem Sim.growSet (S:Sim T ι h H) {i:Nat} {a:Addr} {u:HO} (e:ι.refs[i]? = some a):Grow ι H ι (upd H a u) :=
 ⟨⟨[],by simp,by simp⟩,rfl,fun b o nb q=>by rw [yaC (show b≠a from fun z=>nb (by rw [z];exact List.mem_of_getElem? e))];exact q,fun b hb=>by
  by_cases z:b=a
  ·subst z;rw [zat];simp
  ·rw [yaC z];exact S.live b hb⟩
theorem Sim.set (S:Sim T ι h H) {i:Nat} {a:Addr} {u:HO} {o:AO} (e:ι.refs[i]? = some a) (r:OR T ι (upd H a u) o u):Sim T ι (h.set i o) (upd H a u):=by
 refine ⟨by simp [S.len],S.nd,fun b hb=>(S.growSet e).live b (List.mem_append_right _ hb),fun j o' b e1 e2=>?_⟩
 by_cases hj:j=i
 ·subst hj
  rw [e] at e2;cases e2
  have hl:j<h.length:=by rw [<- S.len];exact (List.getElem?_eq_some_iff.mp e).1
  rw [List.getElem?_set_self hl] at e1;cases e1
  exact ⟨u,zat,r⟩
 ·rw [List.getElem?_set_ne (Ne.symm hj)] at e1
  obtain ⟨v,q,r'⟩:=S.obj j o' b e1 e2
  have ne:b≠a:=fun z=>hj (by
   subst z
   exact zeE S.nd e2 e)
  exact ⟨v,by rw [yaC ne];exact q,r'.mono (S.growSet e)⟩
end
def Ix.hide (ι:Ix) (D:Addr):Ix:=⟨ι.refs,D::ι.priv⟩
theorem Ix.hide_all {ι:Ix} {D a:Addr}:a∉(ι.hide D).all ↔ a∉ι.all/\a≠D:=by
 unfold Ix.all Ix.hide
 simp only [List.mem_append,List.mem_cons]
 constructor
 ·intro h;exact ⟨fun z=>h (z.elim .inl fun z=>.inr (.inr z)),fun z=>h (.inr (.inl z))⟩
 ·rintro ⟨h1,h2⟩ (z | z | z)
  ·exact h1 (.inl z)
  ·exact h2 z
  ·exact h1 (.inr z)
section
variable {T:Tb} {ι:Ix} {H:Hp} {D:Addr}
theorem Ext.hide {o:HO} (hn:H D=none):Ext ι H (ι.hide D) (upd H D o):=⟨fun e=>e,fun a u n e=>by rw [yaC (zav e hn)];exact e,fun a u n e=>Ix.hide_all.mpr ⟨n,zav e hn⟩⟩
theorem Ext.poke {o:HO}:Ext (ι.hide D) H (ι.hide D) (upd H D o):=⟨fun e=>e,fun a u n e=>by rw [yaC (Ix.hide_all.mp n).2];exact e,fun a u n e=>n⟩
theorem Ext.show:Ext (ι.hide D) H ι H:=⟨fun e=>e,fun a u n e=>e,fun a u n e=>(Ix.hide_all.mp n).1⟩
theorem OR.ext {ι ι':Ix} {H H':Hp} (g:Ext ι H ι' H') {o:AO} {u:HO} (h:OR T ι H o u):OR T ι' H' o u:=by
 cases o with
 | lst xs=>obtain ⟨us,e,r⟩:=h;exact ⟨us,e,r.ext g⟩
 | dct t kvs =>
  cases t with
  | false=>obtain ⟨us,e,r⟩:=h;exact ⟨us,e,Paired.mapP r fun _ _ ⟨a,b⟩=>⟨a,b.ext g⟩⟩
  | true=>obtain ⟨us,e,r⟩:=h;exact ⟨us,e,Paired.mapP r fun _ _ ⟨a,b⟩=>⟨a,b.ext g⟩⟩
 | ins c fs =>
  obtain ⟨C,dx,fus,a,b,n,w,l,r⟩:=h
  refine ⟨C,dx,fus,a,b,n,w,l,fun i v e=>?_⟩
  obtain ⟨f,u,e1,e2,q⟩:=r i v e
  exact ⟨f,u,e1,e2,q.ext g⟩
theorem Sim.hide {h:AH} {o:HO} (S:Sim T ι h H) (hn:H D=none):Sim T (ι.hide D) h (upd H D o) :=
 ⟨S.len,S.nd,fun a ha=>by
  rcases List.mem_cons.mp ha with rfl | ha
  ·rw [zat];simp
  ·rw [yaC (show a≠D from fun z=>S.plive a ha (z▸hn))];exact S.plive a ha,fun i o' a e1 e2=>by
  obtain ⟨u,e,r⟩:=S.obj i o' a e1 e2
  exact ⟨u,by rw [yaC (zav e hn)];exact e,r.ext (Ext.hide hn)⟩⟩
theorem Sim.poke {h:AH} {o:HO} (S:Sim T (ι.hide D) h H) (hr:D∉ι.refs):Sim T (ι.hide D) h (upd H D o) :=
 ⟨S.len,S.nd,fun a ha=>by
  by_cases z:a=D
  ·subst z;rw [zat];simp
  ·rw [yaC z];exact S.plive a ha,fun i o' a e1 e2=>by
  obtain ⟨u,e,r⟩:=S.obj i o' a e1 e2
  have ne:a≠D:=fun z=>hr (z▸List.mem_of_getElem? e2)
  exact ⟨u,by rw [yaC ne];exact e,r.ext Ext.poke⟩⟩
theorem Sim.show {h:AH} (S:Sim T (ι.hide D) h H):Sim T ι h H :=
 ⟨S.len,S.nd,fun a ha=>S.plive a (List.mem_cons_of_mem _ ha),fun i o' a e1 e2=>by
  obtain ⟨u,e,r⟩:=S.obj i o' a e1 e2
  exact ⟨u,e,r.ext Ext.show⟩⟩
end
def ER (T:Tb) (ι:Ix) (H:Hp) (e:En) (σ:St):Prop:=e.length=σ.length/\∀ (i:Nat) (v:AV),e[i]? = some (some v)->∃ u,σ[i]? = some (some u)/\RV T ι H v u
theorem ER.mono {T:Tb} {ι ι':Ix} {H H':Hp} {e:En} {σ:St} (r:ER T ι H e σ) (g:Grow ι H ι' H'):ER T ι' H' e σ :=
 ⟨r.1,fun i v q=>let ⟨u,a,b⟩:=r.2 i v q;⟨u,a,b.mono g⟩⟩
theorem ER.ext {T:Tb} {ι ι':Ix} {H H':Hp} {e:En} {σ:St} (r:ER T ι H e σ) (g:Ext ι H ι' H'):ER T ι' H' e σ :=
 ⟨r.1,fun i v q=>let ⟨u,a,b⟩:=r.2 i v q;⟨u,a,b.ext g⟩⟩
theorem ER.set {T:Tb} {ι:Ix} {H:Hp} {e:En} {σ:St} (r:ER T ι H e σ) {v:AV} {u:V} (q:RV T ι H v u) (i:Nat):ER T ι H (e.set i (some v)) (σ.set i (some u)):=by
 refine ⟨by simp [r.1],fun j w z=>?_⟩
 by_cases hj:j=i
 ·subst hj
  by_cases hl:j<e.length
  ·rw [List.getElem?_set_self hl] at z;cases z
   exact ⟨u,by rw [List.getElem?_set_self (by rw [<- r.1];exact hl)],q⟩
  ·rw [List.getElem?_eq_none (by simpa using hl)] at z;cases z
 ·rw [List.getElem?_set_ne (Ne.symm hj)] at z ⊢
  exact r.2 j w z
def Post {α β:Type} (T:Tb) (ι:Ix) (H:Hp) (E:XK) (R:Ix->Hp->α->β->Prop) (o:Out α) (Q:β->Hp->Prop):Prop :=
 match o with
 | .ok v h' => ∀ ι' H' u,Grow ι H ι' H'->Sim T ι' h' H'->R ι' H' v u->Q u H'
 | .ex c h' => ∀ ι' H' C,Grow ι H ι' H'->Sim T ι' h' H'->T.exc c=some C->E (.ref C) none H'
 | .bad=>False
def PostS (T:Tb) (ι:Ix) (H:Hp) (E:St->XK) (o:OutS) (D:Ends):Prop :=
 match o with
 | .nx e h' => ∀ ι' H' σ',Grow ι H ι' H'->Sim T ι' h' H'->ER T ι' H' e σ'->D.nx σ' H'
 | .bk e h' => ∀ ι' H' σ',Grow ι H ι' H'->Sim T ι' h' H'->ER T ι' H' e σ'->D.bk σ' H'
 | .ct e h' => ∀ ι' H' σ',Grow ι H ι' H'->Sim T ι' h' H'->ER T ι' H' e σ'->D.ct σ' H'
 | .rt v h' => ∀ ι' H' u,Grow ι H ι' H'->Sim T ι' h' H'->RV T ι' H' v u->D.rt u H'
 | .ex c e h' => ∀ ι' H' σ' C,Grow ι H ι' H'->Sim T ι' h' H'->ER T ι' H' e σ'->T.exc c=some C->E σ' (.ref C) none H'
 | .bad=>False
abbrev REq {α:Type}:Ix->Hp->α->α->Prop:=fun _ _ a b=>a=b
section
variable {T:Tb} {ι ι':Ix} {h:AH} {H H':Hp} {α β γ δ:Type} {E:XK} {R:Ix->Hp->α->β->Prop} {R':Ix->Hp->γ->δ->Prop}
theorem Post.shift {o:Out α} {Q:β->Hp->Prop} (p:Post T ι H E R o Q) (g:Grow ι H ι' H'):Post T ι' H' E R o Q:=by
 cases o with
 | ok v h' => exact fun i2 H2 u g2=>p i2 H2 u (g.trans g2)
 | ex c h' => exact fun i2 H2 C g2=>p i2 H2 C (g.trans g2)
 | bad=>exact p
theorem Post.bind {o:Out α} {f:α->AH->Out γ} {Q:δ->Hp->Prop} {Q1:β->Hp->Prop} (p:Post T ι H E R' (o.bind f) Q)
  (k:∀ v h' ι' H' u,Grow ι H ι' H'->Sim T ι' h' H'->R ι' H' v u->Post T ι' H' E R' (f v h') Q->Q1 u H'):Post T ι H E R o Q1:=by
 cases o with
 | ok v h' => exact fun i2 H2 u g S r=>k v h' i2 H2 u g S r (Post.shift p g)
 | ex c h' => exact p
 | bad=>exact p
theorem Post.now {v:α} {u:β} {Q:β->Hp->Prop} (p:Post T ι H E R (.ok v h) Q) (S:Sim T ι h H) (r:R ι H v u):Q u H:=p ι H u S.refl S r
theorem PostS.shift {E:St->XK} {o:OutS} {D:Ends} (p:PostS T ι H E o D) (g:Grow ι H ι' H'):PostS T ι' H' E o D:=by
 cases o with
 | nx e h' => exact fun i2 H2 u g2=>p i2 H2 u (g.trans g2)
 | bk e h' => exact fun i2 H2 u g2=>p i2 H2 u (g.trans g2)
 | ct e h' => exact fun i2 H2 u g2=>p i2 H2 u (g.trans g2)
 | rt v h' => exact fun i2 H2 u g2=>p i2 H2 u (g.trans g2)
 | ex c e h' => exact fun i2 H2 u C g2=>p i2 H2 u C (g.trans g2)
 | bad=>exact p
theorem PostS.go {E:St->XK} {o:Out α} {en:En} {σ:St} {f:α->AH->OutS} {D:Ends} {Q1:β->Hp->Prop} (p:PostS T ι H E (o.go en f) D) (er:ER T ι H en σ)
  (k:∀ v h' ι' H' u,Grow ι H ι' H'->Sim T ι' h' H'->R ι' H' v u->PostS T ι' H' E (f v h') D->Q1 u H'):Post T ι H (E σ) R o Q1:=by
 cases o with
 | ok v h' => exact fun i2 H2 u g S r=>k v h' i2 H2 u g S r (PostS.shift p g)
 | ex c h' => exact fun i2 H2 C g S e=>p i2 H2 σ C g S (er.mono g) e
 | bad=>exact p
end
def tE (T:Tb) (E:St->XK) (a:SE):TE:=fun σ H Q=>∃ ι h en,Sim T ι h H/\ER T ι H en σ/\Post T ι H (E σ) (RV T) (a en h) Q
def tT (T:Tb) (E:St->XK) (a:SB):TT:=fun σ H Q=>∃ ι h en,Sim T ι h H/\ER T ι H en σ/\Post T ι H (E σ) REq (a en h) Q
def tA (T:Tb) (E:St->XK) (a:SL):TA:=fun σ H Q=>∃ ι h en,Sim T ι h H/\ER T ι H en σ/\Post T ι H (E σ) (RVs T) (a en h) Q
def tS (T:Tb) (E:St->XK) (b:SS):TS:=fun D σ H=>∃ ι h en,Sim T ι h H/\ER T ι H en σ/\PostS T ι H E (b en h) D
abbrev PEA (T:Tb) (E:St->XK) (X:Cx) (e:Expr) (a:SE):Prop:=PE X e (tE T E a)
abbrev PTA (T:Tb) (E:St->XK) (X:Cx) (e:Expr) (a:SB):Prop:=PT X e (tT T E a)
abbrev PWA (T:Tb) (E:St->XK) (X:Cx) (e:Expr) (a:SB):Prop:=PW X e (tT T E a)
abbrev PAA (T:Tb) (E:St->XK) (X:Cx) (es:List Expr) (a:SL):Prop:=PA X es (tA T E a)
abbrev PSA (T:Tb) (E:St->XK) (X:Cx) (st:Stmt) (b:SS):Prop:=PS X st (tS T E b)
abbrev PSsA (T:Tb) (E:St->XK) (X:Cx) (sts:List Stmt) (b:SS):Prop:=PSs X sts (tS T E b)
theorem yaV {X:Cx} {e:Expr} {t t':TE} (h:PE X e t) (k:∀ σ H Q,t' σ H Q->t σ H Q):PE X e t' := fun pins s σ H Q I q=>h pins s σ H Q I (k σ H Q q)
theorem yd8 {X:Cx} {e:Expr} {t t':TT} (h:PT X e t) (k:∀ σ H Q,t' σ H Q->t σ H Q):PT X e t' := fun pins s σ H Q I q=>h pins s σ H Q I (k σ H Q q)
theorem ygS {X:Cx} {e:Expr} {t t':TT} (h:PW X e t) (k:∀ σ H Q,t' σ H Q->t σ H Q):PW X e t' := fun w pins s σ H Q I q=>h w pins s σ H Q I (k σ H Q q)
theorem yfA {X:Cx} {e:List Expr} {t t':TA} (h:PA X e t) (k:∀ σ H Q,t' σ H Q->t σ H Q):PA X e t' := fun p pins s σ H Q I q=>h p pins s σ H Q I (k σ H Q q)
theorem yb6 {X:Cx} {e:Stmt} {t t':TS} (h:PS X e t) (k:∀ D σ H,t' D σ H->t D σ H):PS X e t' := fun pins s σ H D I q=>h pins s σ H D I (k D σ H q)
theorem zfI {X:Cx} {e:List Stmt} {t t':TS} (h:PSs X e t) (k:∀ D σ H,t' D σ H->t D σ H):PSs X e t' := fun pins s σ H D I q=>h pins s σ H D I (k D σ H q)
theorem yfB {X:Cx} {st:Stmt} {t:TS} (h:PS X.nox st t):PS X st t:=fun pins s σ H D I hw=>by
 refine wpAny_mono (h pins s σ H D (I.wish _) hw) (fun f s' q=>SP.unwish q) fun _ _ z=>z.elim
end Sm
namespace Sm
open PySem L2
instance:DecidableEq AV:=fun _ _=>Classical.propDecidable _
@[simp] def sVar (i:Nat):SE:=fun en h=>match en[i]? with
 | some (some v)=>.ok v h
 | _=>.bad
@[simp] def sLit (v:AV):SE:=fun _ h=>.ok v h
abbrev F1:=AV->AH->Out AV
abbrev F2:=AV->AV->AH->Out AV
@[simp] def sOp1 (f:F1) (a:SE):SE:=fun en h=>(a en h).bind f
@[simp] def sOp2 (f:F2) (a b:SE):SE:=fun en h=>(a en h).bind fun x h1=>(b en h1).bind fun y h2=>f x y h2
@[simp] def sNil:SL:=fun _ h=>.ok [] h
@[simp] def yab (a:SE) (r:SL):SL:=fun en h=>(a en h).bind fun x h1=>(r en h1).bind fun xs h2=>.ok (x::xs) h2
@[simp] def yae (F:Fn) (as:SL):SE:=fun en h=>(as en h).bind F
@[simp] def sTup (as:SL):SE:=fun en h=>(as en h).bind fun xs h1=>if xs.length<=1000 then .ok (.tup xs) h1 else .bad
@[simp] def sLst (as:SL):SE:=fun en h=>(as en h).bind fun xs h1=>if xs.length<=1000 then .ok (.fl xs) h1 else .bad
@[simp] def ybv (as:SL):SE:=fun en h=>(as en h).bind fun xs h1=>if xs.length<=1000 then .ok (.ref h1.length) (h1++[.lst xs]) else .bad
@[simp] def yfZ (t:Bool):SE:=fun _ h=>.ok (.ref h.length) (h++[.dct t []])
@[simp] def yiv (v:AV) (h:AH):Option (List AV):=match v with
 | .tup xs=>some xs
 | .fl xs=>some xs
 | .ref n=>match h[n]? with
  | some (.lst xs)=>some xs
  | _=>none
 | _=>none
@[simp] def ybw (v:AV) (h:AH):Option (List AV):=match v with
 | .fl xs=>some xs
 | .ref n=>match h[n]? with
  | some (.lst xs)=>some xs
  | _=>none
 | _=>none
@[simp] def fAdd:F2:=fun x y h=>match x,y with
 | .int i,.int j=>.ok (.int (i+j)) h
 | .str i,.str j=>if i.length+j.length<=sizeLine then .ok (.str (i++j)) h else .bad
 | .tup xs,.tup ys=>if xs≠[]/\xs.length+ys.length<=sizeLine then .ok (.tup (xs++ys)) h else .bad
 | x,y=>match ybw x h,ybw y h with
  | some xs,some ys=>if xs.length+ys.length<=sizeLine then .ok (.fl (xs++ys)) h else .bad
  | _,_=>.bad
@[simp] def fSub:F2:=fun x y h=>match x,y with
 | .int i,.int j=>.ok (.int (i-j)) h
 | _,_=>.bad
@[simp] def fMul:F2:=fun x y h=>match x,y with
 | .int i,.int j=>if (i.natAbs<2 ^ 64\/j.natAbs<2 ^ 64)\/(i.natAbs<2 ^ 4000/\j.natAbs<2 ^ 4000) then .ok (.int (i*j)) h else .bad
 | _,_=>.bad
@[simp] def fDiv:F2:=fun x y h=>match x,y with
 | .int i,.int j=>if 0<j/\j.natAbs<2 ^ 200 then .ok (.int (i / j)) h else .bad
 | _,_=>.bad
@[simp] def fMod:F2:=fun x y h=>match x,y with
 | .int i,.int j=>if 0<j then .ok (.int (i % j)) h else .bad
 | _,_=>.bad
@[simp] def fPow:F2:=fun x y h=>match x,y with
 | .int i,.int j=>if 0<=j/\j<=1000000/\i.natAbs<2 ^ 64 then .ok (.int (i ^ j.toNat)) h else .bad
 | _,_=>.bad
@[simp] def fNeg:F1:=fun x h=>match x with
 | .int i=>.ok (.int (-i)) h
 | _=>.bad
def toDs (f:AV->Option PyData):List AV->Option (List PyData)
 | []=>some []
 | x::xs=>match f x,toDs f xs with
  | some d,some ds=>some (d::ds)
  | _,_=>none
def toD:Nat->AH->AV->Option PyData
 | 0,_,v=>match v with
  | .non=>some .none
  | .bl b=>some (.bool b)
  | .int i=>some (.int i)
  | .str x=>some (.str x)
  | _=>none
 | n+1,h,v=>match v with
  | .non=>some .none
  | .bl b=>some (.bool b)
  | .int i=>some (.int i)
  | .str x=>some (.str x)
  | .tup xs=>(toDs (toD n h) xs).map .tuple
  | .fl xs=>(toDs (toD n h) xs).map .list
  | .ref k=>match h[k]? with
   | some (.lst xs)=>(toDs (toD n h) xs).map .list
   | _=>none
  | .exc _=>none
@[simp] def eqA (x y:AV) (h:AH):Option Bool:=match x,y with
 | .int i,.int j=>some (decide (i=j))
 | .str i,.str j=>some (decide (i=j))
 | .bl i,.bl j=>some (decide (i=j))
 | .non,.non=>some true
 | x,y=>match toD 8 h x,toD 8 h y with
  | some d,some e=>some (PyData.eqv d e)
  | _,_=>none
@[simp] def fEq:F2:=fun x y h=>match eqA x y h with
 | some b=>.ok (.bl b) h
 | none=>.bad
@[simp] def fNe:F2:=fun x y h=>match eqA x y h with
 | some b=>.ok (.bl (!b)) h
 | none=>.bad
@[simp] def fLt:F2:=fun x y h=>match x,y with
 | .int i,.int j=>.ok (.bl (decide (i<j))) h
 | .str i,.str j=>.ok (.bl (decide (i.cps.toList<j.cps.toList))) h
 | _,_=>.bad
@[simp] def fLe:F2:=fun x y h=>match x,y with
 | .int i,.int j=>.ok (.bl (decide (i<=j))) h
 | .str i,.str j=>.ok (.bl (!decide (j.cps.toList<i.cps.toList))) h
 | _,_=>.bad
@[simp] def fGt:F2:=fun x y h=>match x,y with
 | .int i,.int j=>.ok (.bl (decide (j<i))) h
 | _,_=>.bad
@[simp] def fGe:F2:=fun x y h=>match x,y with
 | .int i,.int j=>.ok (.bl (decide (j<=i))) h
 | _,_=>.bad
@[simp] def truA (v:AV) (h:AH):Option Bool:=match v with
 | .non=>some false
 | .bl b=>some b
 | .int i=>some (i != 0)
 | .str y=>some ((y.length:Int) != 0)
 | .tup xs=>some (!xs.isEmpty)
 | .fl xs=>some (!xs.isEmpty)
 | .ref n=>match h[n]? with
  | some (.lst xs)=>some (!xs.isEmpty)
  | some (.dct false kvs)=>some (!kvs.isEmpty)
  | _=>none
 | _=>none
@[simp] def ydV (a:SE):SB:=fun en h=>(a en h).bind fun v h1=>match truA v h1 with
 | some b=>.ok b h1
 | none=>.bad
@[simp] def yao (a:SE):SB:=fun en h=>(a en h).bind fun v h1=>match v with
 | .bl b=>.ok b h1
 | _=>.bad
@[simp] def sOr (a b:SB):SB:=fun en h=>(a en h).bind fun x h1=>if x=true then .ok true h1 else b en h1
@[simp] def sNot (a:SB):SB:=fun en h=>(a en h).bind fun x h1=>.ok (!x) h1
@[simp] def yeQ (a b:SE):SE:=fun en h=>(a en h).bind fun v h1=>match v with
 | .bl k=>if k=true then b en h1 else .ok (.bl false) h1
 | _=>.bad
@[simp] def sOrV (a b:SE):SE:=fun en h=>(a en h).bind fun v h1=>match v with
 | .bl k=>if k=true then .ok (.bl true) h1 else b en h1
 | _=>.bad
@[simp] def yf0 (a:SE):SE:=fun en h=>(a en h).bind fun v h1=>match v with
 | .bl b=>.ok (.bl (!b)) h1
 | _=>.bad
@[simp] def ycg (f f':F2) (a b c:SE):SE:=fun en h=>(a en h).bind fun x h1=>(b en h1).bind fun y h2=>(f x y h2).bind fun z h3=>match z with
 | .bl k=>if k=true then (c en h3).bind fun w h4=>f' y w h4 else .ok (.bl false) h3
 | _=>.bad
@[simp] def yay:SS:=fun en h=>.nx en h
@[simp] def sSeq (a b:SS):SS:=fun en h=>match a en h with
 | .nx e h' => b e h'
 | o=>o
@[simp] def yf1:SS:=fun en h=>.ct en h
@[simp] def yaK (a:SE):SS:=fun en h=>(a en h).go en fun _ h' => .nx en h'
@[simp] def sRet (a:SE):SS:=fun en h=>(a en h).go en fun v h' => .rt v h'
@[simp] def sIf (c:SB) (a b:SS):SS:=fun en h=>(c en h).go en fun x h' => if x=true then a en h' else b en h'
@[simp] def sSet (i:Nat) (a:SE):SS:=fun en h=>(a en h).go en fun v h' => .nx (en.set i (some v)) h'
def ybZ (c:SB) (b:SS):Nat->SS
 | 0=>fun _ _=>.bad
 | n+1=>fun en h=>match c en h with
  | .ok true h1=>(match b en h1 with
   | .nx e2 h2=>ybZ c b n e2 h2
   | .ct e2 h2=>ybZ c b n e2 h2
   | .bk e2 h2=>.nx e2 h2
   | .rt v h2=>.rt v h2
   | _=>.bad)
  | .ok false h1=>.nx en h1
  | _=>.bad
abbrev SI:=En->AH->Out (List AV×Option Nat)
@[simp] def ybx (w:Option Nat) (xs:List AV) (h:AH):Bool:=match w with
 | none=>true
 | some n=>match h[n]? with
  | some (.lst ys)=>decide (ys=xs)
  | _=>false
inductive Tg where
 | nm (i:Nat)
 | tup (is:List Nat)
@[simp] def yeY:List Nat->List AV->En->Option En
 | [],[],en=>some en
 | i::is,x::xs,en=>yeY is xs (en.set i (some x))
 | _,_,_=>none
@[simp] def setT (t:Tg) (v:AV) (en:En):Option En:=match t,v with
 | .nm i,v=>some (en.set i (some v))
 | .tup is,.tup xs=>yeY is xs en
 | _,_=>none
def yb7 (w:Option Nat) (all:List AV) (t:Tg) (b:SS):List AV->SS
 | []=>fun en h=>if ybx w all h=true then .nx en h else .bad
 | x::xs=>fun en h=>if ybx w all h=true then
   (match setT t x en with
   | some e1=>(match b e1 h with
    | .nx e2 h2=>yb7 w all t b xs e2 h2
    | .ct e2 h2=>yb7 w all t b xs e2 h2
    | .bk e2 h2=>.nx e2 h2
    | .rt v h2=>.rt v h2
    | _=>.bad)
   | none=>.bad) else .bad
@[simp] def sFor (it:SI) (t:Tg) (b:SS):SS:=fun en h=>match it en h with
 | .ok (xs,w) h1=>yb7 w xs t b xs en h1
 | _=>.bad
@[simp] def ycN (t:Tg) (a:SE):SS:=fun en h=>(a en h).go en fun v h' => match setT t v en with
 | some e=>.nx e h'
 | none=>.bad
@[simp] def iVal (a:SE):SI:=fun en h=>(a en h).bind fun v h1=>match v with
 | .fl xs=>.ok (xs,none) h1
 | .tup xs=>.ok (xs,none) h1
 | .str z=>.ok (z.cps.toList.map (fun c=>.str ⟨#[c]⟩),none) h1
 | .ref n=>match h1[n]? with
  | some (.lst xs)=>.ok (xs,some n) h1
  | _=>.bad
 | _=>.bad
@[simp] def ya4 (a:SE):SI:=fun en h=>(a en h).bind fun v h1=>match v with
 | .fl xs=>.ok (xs,none) h1
 | .tup xs=>.ok (xs,none) h1
 | .ref n=>match h1[n]? with
  | some (.lst xs)=>.ok (xs,some n) h1
  | _=>.bad
 | _=>.bad
def yaX (lo:Int):Nat->List AV
 | 0=>[]
 | n+1=>.int lo::yaX (lo+1) n
@[simp] def ybT (a:SE):SI:=fun en h=>(a en h).bind fun v h1=>match v with
 | .int j=>if j.natAbs<2 ^ 62 then .ok (yaX 0 j.toNat,none) h1 else .bad
 | _=>.bad
def numbered (k:Nat):List AV->List AV
 | []=>[]
 | x::xs=>.tup [.int k,x]::numbered (k+1) xs
@[simp] def iEnum (a:SE):SI:=fun en h=>(a en h).bind fun v h1=>match v with
 | .fl xs=>.ok (numbered 0 xs,none) h1
 | _=>.bad
def yaQ (js:List Nat) (en:En) (w:Option Nat) (all:List AV) (c:SB) (e:SE):List AV->List AV->AH->Out (List AV)
 | [],ys,h=>if ybx w all h=true then .ok ys h else .bad
 | x::xs,ys,h=>if ybx w all h=true/\ys.length<sizeLine then
   (match c (some x::js.map fun j=>(en[j]?).join) h with
   | .ok true h1=>(match e (some x::js.map fun j=>(en[j]?).join) h1 with
    | .ok v h2=>yaQ js en w all c e xs (ys++[v]) h2
    | _=>.bad)
   | .ok false h1=>yaQ js en w all c e xs ys h1
   | _=>.bad) else .bad
@[simp] def sYes:SB:=fun _ h=>.ok true h
@[simp] def yby (js:List Nat) (it:SI) (c:SB) (e:SE):SE:=fun en h=>match it en h with
 | .ok (xs,w) h1=>(match yaQ js en w xs c e xs [] h1 with
  | .ok ys h2=>.ok (.fl ys) h2
  | _=>.bad)
 | _=>.bad
@[simp] def mkFn (n m:Nat) (b:SS):Fn:=fun args h =>
 if args.length=n then
  match b (args.map some++List.replicate (m-n) none) h with
  | .nx _ h' => .ok .non h'
  | .rt v h' => .ok v h'
  | .ex c _ h' => .ex c h'
  | _=>.bad
 else .bad
@[simp] def yam (c:Nat) (F:Fn) (o:SE) (as:SL):SE:=fun en h=>(o en h).bind fun x h1=>match x with
 | .ref n=>match h1[n]? with
  | some (.ins c' _)=>if c'=c then (as en h1).bind fun xs h2=>F (x::xs) h2 else .bad
  | _=>.bad
 | _=>.bad
@[simp] def yeR (c k:Nat) (F:Fn) (as:SL):SE:=fun en h=>(as en h).bind fun xs h1=>match F (.ref h1.length::xs) (h1++[.ins c (List.replicate k none)]) with
 | .ok .non h2=>.ok (.ref h1.length) h2
 | .ex c h2=>.ex c h2
 | _=>.bad
@[simp] def sFld (c i:Nat) (o:SE):SE:=fun en h=>(o en h).bind fun x h1=>match x with
 | .ref n=>match h1[n]? with
  | some (.ins c' fs)=>if c'=c then (match fs[i]? with | some (some v)=>.ok v h1 | _=>.bad) else .bad
  | _=>.bad
 | _=>.bad
@[simp] def ycp (c i:Nat) (o v:SE):SS:=fun en h=>(v en h).go en fun y h1=>(o en h1).go en fun x h2=>match x with
 | .ref n=>match h2[n]? with
  | some (.ins c' fs)=>if c'=c then .nx en (h2.set n (.ins c (fs.set i (some y)))) else .bad
  | _=>.bad
 | _=>.bad
@[simp] def yb0 (c:Nat) (as:SL):SS:=fun en h=>(as en h).go en fun xs h1=>if xs.length<=1000 then .ex c en h1 else .bad
@[simp] def keyOf? (v:AV):Option Key:=match v with
 | .int i=>some (.inl i)
 | .str x=>some (.inr x)
 | _=>none
@[simp] def keysOf? : List AV->Option (List Key)
 | []=>some []
 | v::r=>match keyOf? v,keysOf? r with
  | some k,some ks=>some (k::ks)
  | _,_=>none
@[simp] def ydd (t:Bool) (v:AV):Bool:=match t,v with
 | false,v=>(keyOf? v).isSome
 | true,.tup xs=>(keysOf? xs).isSome
 | true,_=>false
def valA (kvs:List (AV×AV)) (k:AV):Option AV:=(kvs.find? fun p=>decide (p.1=k)).map (·.2)
def putA (kvs:List (AV×AV)) (k v:AV):List (AV×AV) :=
 if kvs.any (fun p=>decide (p.1=k)) then kvs.map fun p=>if p.1=k then (p.1,v) else p else kvs++[(k,v)]
@[simp] def fIx:F2:=fun x y h=>match x,y with
 | .str z,.int i=>match atI z.cps.toList i with
  | some c=>.ok (.str ⟨#[c]⟩) h
  | none=>.bad
 | .tup xs,.int i=>match atI xs i with
  | some v=>.ok v h
  | none=>.bad
 | .fl xs,.int i=>match atI xs i with
  | some v=>.ok v h
  | none=>.bad
 | .ref n,y=>match h[n]? with
  | some (.lst xs)=>match y with
   | .int i=>match atI xs i with
    | some v=>.ok v h
    | none=>.bad
   | _=>.bad
  | some (.dct t kvs)=>if ydd t y then (match valA kvs y with | some v=>.ok v h | none=>.bad) else .bad
  | _=>.bad
 | _,_=>.bad
@[simp] def yez (o i v:SE):SS:=fun en h=>(v en h).go en fun z h1=>(o en h1).go en fun x h2=>(i en h2).go en fun y h3=>match x with
 | .ref n=>match h3[n]? with
  | some (.lst xs)=>match y with
   | .int k=>match ixN xs.length k with
    | some j=>.nx en (h3.set n (.lst (xs.set j z)))
    | none=>.bad
   | _=>.bad
  | some (.dct t kvs)=>if ydd t y=true/\kvs.length<sizeLine then .nx en (h3.set n (.dct t (putA kvs y z))) else .bad
  | _=>.bad
 | _=>.bad
@[simp] def inA (x y:AV) (h:AH):Option Bool:=match x,y with
 | .str i,.str j=>some (!(Builtin.Str.occurrences j i 0 j.length 1).isEmpty)
 | x,.ref n=>match h[n]? with
  | some (.dct t kvs)=>if ydd t x then some (valA kvs x).isSome else none
  | some (.lst xs)=>match toD 8 h x,toDs (toD 8 h) xs with
   | some d,some ds=>some (ds.any fun e=>PyData.eqv e d)
   | _,_=>none
  | _=>none
 | x,.fl xs=>match toD 8 h x,toDs (toD 8 h) xs with
  | some d,some ds=>some (ds.any fun e=>PyData.eqv e d)
  | _,_=>none
 | x,.tup xs=>match toD 8 h x,toDs (toD 8 h) xs with
  | some d,some ds=>some (ds.any fun e=>PyData.eqv e d)
  | _,_=>none
 | _,_=>none
@[simp] def yeZ:F2:=fun x y h=>match inA x y h with
 | some b=>.ok (.bl (!b)) h
 | none=>.bad
@[simp] def fLen:Fn:=fun args h=>match args with
 | [.str x]=>.ok (.int x.length) h
 | [.tup xs]=>.ok (.int xs.length) h
 | [.fl xs]=>.ok (.int xs.length) h
 | [.ref n]=>match h[n]? with
  | some (.lst xs)=>.ok (.int xs.length) h
  | some (.dct false kvs)=>.ok (.int kvs.length) h
  | _=>.bad
 | _=>.bad
@[simp] def fAbs:Fn:=fun args h=>match args with
 | [.int i]=>.ok (.int (if i<0 then -i else i)) h
 | _=>.bad
@[simp] def ybG:Fn:=fun args h=>match args with
 | [.int i,.int j]=>.ok (.int (if j > i then j else i)) h
 | _=>.bad
@[simp] def yb3:Fn:=fun args h=>match args with
 | [.int i,.int j]=>.ok (.int (if j<i then j else i)) h
 | _=>.bad
@[simp] def ycL:List AV->Option (List Bool)
 | []=>some []
 | .bl b::r=>(ycL r).map (b :: ·)
 | _::_=>none
@[simp] def fAll:Fn:=fun args h=>match args with
 | [.fl xs]=>match ycL xs with
  | some bs=>.ok (.bl (bs.all id)) h
  | none=>.bad
 | _=>.bad
@[simp] def tyN (v:AV) (h:AH):Option String:=match v with
 | .non=>some "NoneType"
 | .bl _=>some "bool"
 | .int _=>some "int"
 | .str _=>some "str"
 | .tup _=>some "tuple"
 | .fl _=>some "list"
 | .ref n=>match h[n]? with
  | some (.lst _)=>some "list"
  | some (.dct _ _)=>some "dict"
  | _=>none
 | .exc _=>none
@[simp] def sIsB (t:String) (a:SE):SE:=fun en h=>(a en h).bind fun v h1=>match tyN v h1 with
 | some n=>.ok (.bl (n == t || (t == "int" && n == "bool"))) h1
 | none=>.bad
abbrev FM:=AV->List AV->AH->Out AV
@[simp] def yax (v:AV) (h:AH):Bool:=(ybw v h).isSome
@[simp] def yek (v:AV) (_:AH):Bool:=match v with
 | .str _=>true
 | _=>false
@[simp] def sBM (chk:AV->AH->Bool) (f:FM) (o:SE) (as:SL):SE:=fun en h=>(o en h).bind fun x h1=>if chk x h1=true then (as en h1).bind fun xs h2=>f x xs h2 else .bad
@[simp] def sBM0 (chk:AV->AH->Bool) (f:FM) (o:SE):SE:=fun en h=>(o en h).bind fun x h1=>if chk x h1=true then f x [] h1 else .bad
@[simp] def yaA:FM:=fun x vs h=>match x,vs with
 | .ref n,[y]=>match h[n]? with
  | some (.lst xs)=>if xs.length<sizeLine then .ok .non (h.set n (.lst (xs++[y]))) else .bad
  | _=>.bad
 | _,_=>.bad
@[simp] def mPop:FM:=fun x vs h=>match x,vs with
 | .ref n,[]=>match h[n]? with
  | some (.lst xs)=>match xs[xs.length-1]? with
   | some y=>.ok y (h.set n (.lst xs.dropLast))
   | none=>.bad
  | _=>.bad
 | _,_=>.bad
def yf2 (d:PyData):List PyData->Nat->Option Nat
 | [],_=>none
 | e::r,k=>if PyData.eqv e d=true then some k else yf2 d r (k+1)
@[simp] def yis:FM:=fun x vs h=>match vs with
 | [y]=>match ybw x h with
  | some xs=>match toD 8 h y,toDs (toD 8 h) xs with
   | some d,some ds=>match yf2 d ds 0 with
    | some k=>.ok (.int k) h
    | none=>.bad
   | _,_=>.bad
  | none=>.bad
 | _=>.bad
@[simp] def yeK:FM:=fun x vs h=>match x,vs with
 | .str z,[.str y]=>.ok (.int ((Builtin.Str.occurrences z y 0 z.length (z.length+1)).length:Nat)) h
 | _,_=>.bad
@[simp] def ydP:List AV->Option (List Str)
 | []=>some []
 | .str x::r=>(ydP r).map (x :: ·)
 | _::_=>none
@[simp] def yc6:FM:=fun x vs h=>match x,vs with
 | .str z,[y]=>if z=Str.empty then (match ybw y h with
  | some xs=>match ydP xs with
   | some zs=>if ((zs.map fun x:Str=>x.cps.toList).flatten).length<=1000000 then .ok (.str ⟨((zs.map fun x:Str=>x.cps.toList).flatten).toArray⟩) h else .bad
   | none=>.bad
  | none=>.bad) else .bad
 | _,_=>.bad
def cutA {α:Type} (xs:List α) (lo hi:Option Int):List α:=(xs.drop (HT.sIx xs.length 0 lo)).take (HT.sIx xs.length xs.length hi-HT.sIx xs.length 0 lo)
end Sm
namespace Sm
open PySem L2
structure CA (T:Tb) (E:St->XK) (X:Cx):Prop where
 hK:X.K=T.K
 pass:ydO (CXE X.prog X.w) X E
abbrev EN:St->XK:=fun _=>E0
theorem CA.nox {T:Tb} {E:St->XK} {X:Cx} (c:CA T E X):CA T EN X.nox:=⟨c.hK,fun _ _ _ _ _ _ _ h=>by
 obtain ⟨_,_,_,_,_,_,_,_,_,_,_,_,_,_,q⟩:=h
 exact q.elim⟩
theorem CA.never {T:Tb} {X:Cx} (hK:X.K=T.K):CA T EN X:=⟨hK,fun _ _ _ _ _ _ _ h=>by
 obtain ⟨_,_,_,_,_,_,_,_,_,_,_,_,_,_,q⟩:=h
 exact q.elim⟩
section
variable {T:Tb} {ι:Ix} {h:AH} {H:Hp}
theorem ybN {x:AV} {u:V} {xs:List AV} (S:Sim T ι h H) (r:RV T ι H x u) (e:ybw x h=some xs):∃ a us,u = .ref a/\SqL T.K H a us/\RVs T ι H xs us:=by
 unfold ybw at e
 cases r with
 | fl n q r=>cases e;exact ⟨_,_,rfl,.inl q,r⟩
 | kfl q r=>cases e;exact ⟨_,_,rfl,.inr q,r⟩
 | @ref k a q =>
  dsimp only at e
  split at e
  ·rename_i ys hk
   cases e
   obtain ⟨u,e1,us,rfl,r⟩:=S.obj k _ a hk q
   exact ⟨a,us,rfl,.inl (.inl e1),r⟩
  ·cases e
 | _=>cases e
theorem yc9 {u:V} {xs:List AV} (r:RV T ι H (.tup xs) u):∃ a us,u = .ref a/\SqT T.K H a us/\RVs T ι H xs us:=by
 cases r with
 | tup n q r=>exact ⟨_,_,rfl,.of q,r⟩
theorem ya8 {u:V} {x:Str} (r:RV T ι H (.str x) u):u = .str x/\x.length<=sizeLine/\x.cps.all (· < 0x110000)=true:=by
 cases r with
 | str n o=>exact ⟨rfl,n,o⟩
theorem yaG {u:V} {i:Int} (r:RV T ι H (.int i) u):u = .int i:=by cases r;rfl
theorem ycq {u:V} {i:Bool} (r:RV T ι H (.bl i) u):u = .bl i:=by cases r;rfl
theorem ye0 {u:V} (r:RV T ι H .non u):u = .non:=by cases r;rfl
theorem yd9 {us:List V} {xs:List AV} {p:Addr} {E:XK} {Q:VK} (S:Sim T ι h H) (r:RVs T ι H xs us) (n:H p=none) (q:Post T ι H E (RV T) (.ok (.fl xs) h) Q):Q (.ref p) (upd H p (.lst us)) :=
 q ι _ _ (S.growNew n) (S.new n) (.fl (S.fresh n) (.inl zat) (r.mono (S.growNew n)))
theorem zdy {us:List V} {xs:List AV} {p:Addr} {E:XK} {Q:VK} (S:Sim T ι h H) (r:RVs T ι H xs us) (n:H p=none) (q:Post T ι H E (RV T) (.ok (.tup xs) h) Q):Q (.ref p) (upd H p (.tup us)) :=
 q ι _ _ (S.growNew n) (S.new n) (.tup (S.fresh n) zat (r.mono (S.growNew n)))
theorem zjf {us:List V} {xs:List AV} {p:Addr} {E:XK} {Q:VK} (S:Sim T ι h H) (r:RVs T ι H xs us) (n:H p=none) (q:Post T ι H E (RV T) (.ok (.ref h.length) (h++[.lst xs])) Q):Q (.ref p) (upd H p (.lst us)) :=
 q _ _ _ (S.growAdd n) (S.add n ⟨us,rfl,r.mono (S.growAdd n)⟩) (.ref S.addAt)
end
section
variable {T:Tb} {E:St->XK} {X:Cx} {pos:Pos}
theorem yaa (i:Nat) {x:Str} {p:Pos} (hN:X.N[i]? = some x:=by rfl) (hv:Vis X.env.scope x:=by first | exact Or.inl rfl | exact Or.inr (Or.inl rfl) | exact Or.inr (Or.inr rfl)) (hd:(x == ("__debug__" : Str))=false:=by decide)
  (hcd:(x == ("__classdict__" : Str))=false:=by decide):PEA T E X (.Name x p) (sVar i) :=
 yaV (pv i hN hv hd hcd) fun σ H Q ⟨ι,h,en,S,er,q⟩=>by
  unfold sVar at q
  split at q
  ·rename_i v hv
   obtain ⟨u,e,r⟩:=er.2 i v hv
   exact ⟨u,e,q.now S r⟩
  ·exact q.elim
theorem yad {i j p}:PEA T E X (.Constant (.int i) j p) (sLit (.int i)):=yaV ygj fun σ H Q ⟨ι,h,en,S,er,q⟩=>q.now S (.int i)
theorem r_bl {i j p}:PEA T E X (.Constant (.bool i) j p) (sLit (.bl i)):=yaV yhv fun σ H Q ⟨ι,h,en,S,er,q⟩=>q.now S (.bl i)
theorem yaU {x j p} (n:x.length<=sizeLine:=by decide +kernel) (o:x.cps.all (· < 0x110000)=true:=by decide +kernel):PEA T E X (.Constant (.str x) j p) (sLit (.str x)):=yaV ygk fun σ H Q ⟨ι,h,en,S,er,q⟩=>q.now S (.str n o)
theorem zjg {x:Str} {i:Int} {t:Tok} {p:Pos} (hg:Gl X x) (hm:X.mg x=some (.int i t)) (hd:(x == ("__debug__" : Str))=false:=by decide):PEA T E X (.Name x p) (sLit (.int i)) :=
 yaV (ziM (v:=.int i) hg hm ⟨t,rfl⟩ hd) fun σ H Q ⟨ι,h,en,S,er,q⟩=>q.now S (.int i)
def OpS (T:Tb) (f:F2) (r:R2):Prop:=∀ (ι:Ix) (h:AH) (H:Hp) (x y:AV) (u w:V) (E:XK) (Q:VK),Sim T ι h H->RV T ι H x u->RV T ι H y w->Post T ι H E (RV T) (f x y h) Q->r u w H Q
def Op (T:Tb) (X:Cx) (g:Value->Value->Sem Value) (f:F2):Prop:=∃ r,OpR X g r/\OpS T f r
variable {a b c:Expr} {sa sb sc:SE}
theorem two {f:F2} {r:R2} (hs:OpS T f r) {σ:St} {H:Hp} {Q:VK} (q:tE T E (sOp2 f sa sb) σ H Q):tOp r (tE T E sa) (tE T E sb) σ H Q:=by
 obtain ⟨ι,h,en,S,er,q⟩:=q
 refine ⟨ι,h,en,S,er,q.bind fun x h1 ι1 H1 u g1 S1 r1 q1=>⟨ι1,h1,en,S1,er.mono g1,q1.bind fun y h2 ι2 H2 w g2 S2 r2 q2=>?_⟩⟩
 exact hs ι2 h2 H2 x y u w _ Q S2 (r1.mono g2) r2 q2
theorem yaj {op:Operator} {f:F2} (ho:Op T X (binaryOp op) f) (ha:PEA T E X a sa) (hb:PEA T E X b sb):PEA T E X (.BinOp a op b pos) (sOp2 f sa sb):=by
 obtain ⟨r,h1,h2⟩:=ho
 exact yaV (yhF h1 ha hb) fun σ H Q q=>two h2 q
theorem zjh {i j:Str} (hi:i.cps.all (· < 0x110000)=true) (hj:j.cps.all (· < 0x110000)=true):(i++j).cps.all (· < 0x110000)=true:=by
 show (i.cps++j.cps).all _=true
 rw [Array.all_append,hi,hj];rfl
theorem zfe (i j:Str):(i++j).length=i.length+j.length:=by
 show (i.cps++j.cps).size=_
 rw [Array.size_append];rfl
theorem yaO (hK:X.K=T.K):Op T X (binaryOp .Add) fAdd:=by
 refine ⟨_,op_add.or (zgj.or (ziY.or zjc)),fun ι h H x y u w E Q S rx ry p=>?_⟩
 unfold fAdd at p
 split at p
 ·rw [yaG rx,yaG ry]
  exact .inl ⟨_,_,rfl,rfl,p.now S (.int _)⟩
 ·split at p
  ·rename_i hz
   obtain ⟨rfl,_,o1⟩:=ya8 rx
   obtain ⟨rfl,_,o2⟩:=ya8 ry
   exact .inr (.inl ⟨_,_,rfl,rfl,hz,p.now S (.str (by rw [zfe];exact hz) (zjh o1 o2))⟩)
  ·exact p.elim
 ·split at p
  ·rename_i hz
   obtain ⟨a,us,rfl,q1,r1⟩:=yc9 rx
   obtain ⟨b,ws,rfl,q2,r2⟩:=yc9 ry
   refine .inr (.inr (.inl ⟨a,b,us,ws,rfl,rfl,hK▸q1,hK▸q2,fun z=>hz.1 ?_,by rw [<- r1.length,<- r2.length];exact hz.2,fun z=>?_,fun _ l n=>zdy S (r1.append r2) n p⟩))
   ·subst z;cases r1;rfl
   ·subst z;cases r2
    rw [List.append_nil] at p
    exact p.now S rx
  ·exact p.elim
 ·split at p
  ·split at p
   ·rename_i e1 e2 hz
    obtain ⟨a,us,rfl,q1,r1⟩:=ybN S rx e1
    obtain ⟨b,ws,rfl,q2,r2⟩:=ybN S ry e2
    exact .inr (.inr (.inr ⟨a,b,us,ws,rfl,rfl,hK▸q1,hK▸q2,by rw [<- r1.length,<- r2.length];exact hz,fun l n=>yd9 S (r1.append r2) n p⟩))
   ·exact p.elim
  ·exact p.elim
theorem ybg:Op T X (binaryOp .Sub) fSub:=by
 refine ⟨_,ygv,fun ι h H x y u w E Q S rx ry p=>?_⟩
 unfold fSub at p
 split at p
 ·rw [yaG rx,yaG ry]
  exact ⟨_,_,rfl,rfl,p.now S (.int _)⟩
 ·exact p.elim
theorem zfJ {i:Int} (h:i.natAbs<2 ^ 4000):Builtin.Int.intBits i<=2 ^ 20:=by
 unfold Builtin.Int.intBits
 split
 ·exact Nat.zero_le _
 ·rename_i hz
  have h0:i.natAbs≠0:=fun z=>hz (by simpa using z)
  have:i.natAbs.log2<4000:=(Nat.log2_lt h0).mpr h
  exact Nat.le_trans (by lia:i.natAbs.log2+1<=4001) (by decide)
theorem ybz:Op T X (binaryOp .Mult) fMul:=by
 refine ⟨_,zh2,fun ι h H x y u w E Q S rx ry p=>?_⟩
 unfold fMul at p
 split at p
 ·split at p
  ·rename_i hz
   rw [yaG rx,yaG ry]
   exact ⟨_,_,rfl,rfl,hz.elim (fun z=>CMul.ok (z.elim (fun z=>.inl ⟨by omega,by omega⟩) (fun z=>.inr ⟨by omega,by omega⟩))) (fun z=>.of_bits (zfJ z.1) (zfJ z.2)),p.now S (.int _)⟩
  ·exact p.elim
 ·exact p.elim
theorem yde:Op T X (binaryOp .FloorDiv) fDiv:=by
 refine ⟨_,zh1,fun ι h H x y u w E Q S rx ry p=>?_⟩
 unfold fDiv at p
 split at p
 ·split at p
  ·rename_i hz
   rw [yaG rx,yaG ry]
   exact ⟨_,_,rfl,rfl,⟨hz.1,by omega⟩,p.now S (.int _)⟩
  ·exact p.elim
 ·exact p.elim
theorem ydf:Op T X (binaryOp .Mod) fMod:=by
 refine ⟨_,ygw,fun ι h H x y u w E Q S rx ry p=>?_⟩
 unfold fMod at p
 split at p
 ·split at p
  ·rename_i hz
   rw [yaG rx,yaG ry]
   exact ⟨_,_,rfl,rfl,hz,p.now S (.int _)⟩
  ·exact p.elim
 ·exact p.elim
theorem ycr:Op T X (binaryOp .Pow) fPow:=by
 refine ⟨_,ygx,fun ι h H x y u w E Q S rx ry p=>?_⟩
 unfold fPow at p
 split at p
 ·split at p
  ·rename_i hz
   rw [yaG rx,yaG ry]
   exact ⟨_,_,rfl,rfl,hz,p.now S (.int _)⟩
  ·exact p.elim
 ·exact p.elim
theorem yeA (ha:PEA T E X a sa):PEA T E X (.UnaryOp .USub a pos) (sOp1 fNeg sa) :=
 yaV (yhG ygy ha) fun σ H Q ⟨ι,h,en,S,er,q⟩=>⟨ι,h,en,S,er,q.bind fun x h1 ι1 H1 u g1 S1 r1 q1=>by
  unfold fNeg at q1
  split at q1
  ·rw [yaG r1]
   exact ⟨_,rfl,q1.now S1 (.int _)⟩
  ·exact q1.elim⟩
theorem zhg {ds:List PyData} (h:∀ d∈ds,d.canLay0=true):PyData.canLayAll0 ds=true:=by
 induction ds with
 | nil=>rfl
 | cons d r ih=>show (d.canLay0 && PyData.canLayAll0 r)=true;rw [h d (by simp),ih fun e he=>h e (by simp [he])];rfl
theorem zff {n:Nat} {ds:List PyData} (h:∀ d∈ds,d.depth<=n):PyData.depthAll ds<=n:=by
 induction ds with
 | nil=>exact Nat.zero_le _
 | cons d r ih=>show max d.depth (PyData.depthAll r)<=n;have:=h d (by simp);have:=ih fun e he=>h e (by simp [he]);lia
section
variable {ι:Ix} {h:AH} {H:Hp}
theorem zbw {f:AV->Option PyData} {n:Nat} (hf:∀ {x:AV} {u:V} {d:PyData},RV T ι H x u->f x=some d->DaV T.K H u d/\d.canLay0=true/\d.depth<=n) :
  ∀ {xs:List AV} {us:List V} {ds:List PyData},RVs T ι H xs us->toDs f xs=some ds->DaVs T.K H us ds/\∀ d∈ds,d.canLay0=true/\d.depth<=n
 | _,_,ds,.nil,e=>by cases e;exact ⟨.nil,by simp⟩
 | _,_,ds,.cons (x:=x) (xs:=xs) r rs,e=>by
  unfold toDs at e
  split at e
  ·rename_i d ds' e1 e2
   cases e
   obtain ⟨q1,q2⟩:=hf r e1
   obtain ⟨q3,q4⟩:=zbw hf rs e2
   refine ⟨.cons q1 q3,fun d hd=>?_⟩
   rcases List.mem_cons.mp hd with rfl | hd
   ·exact q2
   ·exact q4 d hd
  ·cases e
theorem ycO (S:Sim T ι h H):∀ (n:Nat) {x:AV} {u:V} {d:PyData},RV T ι H x u->toD n h x=some d->DaV T.K H u d/\d.canLay0=true/\d.depth<=n
 | 0,x,u,d,r,e=>by
  unfold toD at e
  cases r with
  | non=>cases e;exact ⟨.non,rfl,Nat.le_refl _⟩
  | bl b=>cases e;exact ⟨.bl b,rfl,Nat.le_refl _⟩
  | int b=>cases e;exact ⟨.int b,rfl,Nat.le_refl _⟩
  | str a b=>cases e;exact ⟨.str _,b,Nat.le_refl _⟩
  | _=>cases e
 | n+1,x,u,d,r,e=>by
  unfold toD at e
  have many:∀ {xs:List AV} {us:List V} {ds:List PyData},RVs T ι H xs us->toDs (toD n h) xs=some ds->DaVs T.K H us ds/\∀ d∈ds,d.canLay0=true/\d.depth<=n:=fun r e=>zbw (fun r e=>ycO S n r e) r e
  have fin:∀ {ds:List PyData},(∀ d∈ds,d.canLay0=true/\d.depth<=n)->PyData.canLayAll0 ds=true/\PyData.depthAll ds+1<=n+1:=fun q=>⟨zhg fun d hd=>(q d hd).1,Nat.succ_le_succ (zff fun d hd=>(q d hd).2)⟩
  cases r with
  | non=>cases e;exact ⟨.non,rfl,Nat.zero_le _⟩
  | bl b=>cases e;exact ⟨.bl b,rfl,Nat.zero_le _⟩
  | int b=>cases e;exact ⟨.int b,rfl,Nat.zero_le _⟩
  | str a b=>cases e;exact ⟨.str _,b,Nat.zero_le _⟩
  | tup k q r =>
   obtain ⟨ds,e1,rfl⟩:=Option.map_eq_some_iff.mp e
   obtain ⟨q1,q2⟩:=many r e1
   exact ⟨.tup (.of q) q1,fin q2⟩
  | fl k q r =>
   obtain ⟨ds,e1,rfl⟩:=Option.map_eq_some_iff.mp e
   obtain ⟨q1,q2⟩:=many r e1
   exact ⟨.lst (.inl q) q1,fin q2⟩
  | kfl q r =>
   obtain ⟨ds,e1,rfl⟩:=Option.map_eq_some_iff.mp e
   obtain ⟨q1,q2⟩:=many r e1
   exact ⟨.lst (.inr q) q1,fin q2⟩
  | @ref k a q =>
   dsimp only at e
   split at e
   ·rename_i ys hk
    obtain ⟨ds,e1,rfl⟩:=Option.map_eq_some_iff.mp e
    obtain ⟨u,e2,us,rfl,r⟩:=S.obj k _ a hk q
    obtain ⟨q1,q2⟩:=many r e1
    exact ⟨.lst (.inl (.inl e2)) q1,fin q2⟩
   ·cases e
  | exc _ _ _=>cases e
end
theorem ygT {i j:Int}:decide (V.int i=V.int j)=decide (i=j):=by rw [Bool.eq_iff_iff];simp
theorem ygU {i j:Str}:decide (V.str i=V.str j)=decide (i=j):=by rw [Bool.eq_iff_iff];simp
theorem yhX {i j:Bool}:decide (V.bl i=V.bl j)=decide (i=j):=by rw [Bool.eq_iff_iff];simp
theorem zfK {r:R2} {neg:Bool} (ho:OpR X g r) (h1:∀ x y H Q,(scal x y=true/\Q (.bl (if neg then !decide (x=y) else decide (x=y))) H)->r x y H Q)
  (h2:∀ x y H Q,(∃ d e,DaV T.K H x d/\DaV T.K H y e/\d.canLay0=true/\e.canLay0=true/\d.depth<=60/\Q (.bl (if neg then !PyData.eqv d e else PyData.eqv d e)) H)->r x y H Q) :
  OpS T (fun x y h=>match eqA x y h with | some b=>.ok (.bl (if neg then !b else b)) h | none=>.bad) r:=by
 intro ι h H x y u w E Q S rx ry p
 dsimp only at p
 cases hb:eqA x y h with
 | none=>rw [hb] at p;exact p.elim
 | some b =>
  rw [hb] at p
  dsimp only at p
  unfold eqA at hb
  split at hb
  ·cases hb
   rw [yaG rx,yaG ry]
   exact h1 _ _ _ _ ⟨rfl,by rw [ygT];exact p.now S (.bl _)⟩
  ·cases hb
   obtain ⟨rfl,_⟩:=ya8 rx
   obtain ⟨rfl,_⟩:=ya8 ry
   exact h1 _ _ _ _ ⟨rfl,by rw [ygU];exact p.now S (.bl _)⟩
  ·cases hb
   rw [ycq rx,ycq ry]
   exact h1 _ _ _ _ ⟨rfl,by rw [yhX];exact p.now S (.bl _)⟩
  ·cases hb
   rw [ye0 rx,ye0 ry]
   exact h1 _ _ _ _ ⟨rfl,by rw [show decide (V.non=V.non)=true from rfl];exact p.now S (.bl _)⟩
  ·split at hb
   ·rename_i d e e1 e2
    cases hb
    obtain ⟨q1,q2,q3⟩:=ycO S 8 rx e1
    obtain ⟨q4,q5,q6⟩:=ycO S 8 ry e2
    exact h2 _ _ _ _ ⟨d,e,q1,q4,q2,q5,by lia,p.now S (.bl _)⟩
   ·cases hb
theorem o_eq (hK:X.K=T.K) (hu:X.A.units+64<cLine):Op T X (compareOp .Eq) fEq :=
 ⟨_,op_eq.or (yfx hu),zfK (neg:=false) (op_eq.or (yfx hu)) (fun _ _ _ _ q=>.inl q) fun _ _ _ _ q=>.inr (hK▸q)⟩
theorem o_ne (hK:X.K=T.K) (hu:X.A.units+64<cLine):Op T X (compareOp .NotEq) fNe :=
 ⟨_,op_ne.or (yfy hu),zfK (neg:=true) (op_ne.or (yfy hu)) (fun _ _ _ _ q=>.inl q) fun _ _ _ _ q=>.inr (hK▸q)⟩
theorem o_lt:Op T X (compareOp .Lt) fLt:=by
 refine ⟨_,op_lt.or zgT,fun ι h H x y u w E Q S rx ry p=>?_⟩
 unfold fLt at p
 split at p
 ·rw [yaG rx,yaG ry]
  exact .inl ⟨_,_,rfl,rfl,p.now S (.bl _)⟩
 ·obtain ⟨rfl,_⟩:=ya8 rx
  obtain ⟨rfl,_⟩:=ya8 ry
  exact .inr ⟨_,_,rfl,rfl,p.now S (.bl _)⟩
 ·exact p.elim
theorem o_le:Op T X (compareOp .LtE) fLe:=by
 refine ⟨_,op_le.or zg8,fun ι h H x y u w E Q S rx ry p=>?_⟩
 unfold fLe at p
 split at p
 ·rw [yaG rx,yaG ry]
  exact .inl ⟨_,_,rfl,rfl,p.now S (.bl _)⟩
 ·obtain ⟨rfl,_⟩:=ya8 rx
  obtain ⟨rfl,_⟩:=ya8 ry
  exact .inr ⟨_,_,rfl,rfl,p.now S (.bl _)⟩
 ·exact p.elim
theorem o_gt:Op T X (compareOp .Gt) fGt:=by
 refine ⟨_,yhH,fun ι h H x y u w E Q S rx ry p=>?_⟩
 unfold fGt at p
 split at p
 ·rw [yaG rx,yaG ry]
  exact ⟨_,_,rfl,rfl,p.now S (.bl _)⟩
 ·exact p.elim
theorem o_ge:Op T X (compareOp .GtE) fGe:=by
 refine ⟨_,yhI,fun ι h H x y u w E Q S rx ry p=>?_⟩
 unfold fGe at p
 split at p
 ·rw [yaG rx,yaG ry]
  exact ⟨_,_,rfl,rfl,p.now S (.bl _)⟩
 ·exact p.elim
theorem yf3 {op:CmpOp} {f:F2} (ho:Op T X (compareOp op) f) (ha:PEA T E X a sa) (hb:PEA T E X b sb) (hm:behindInMarks op b=false):PEA T E X (.Compare a [op] [b] pos) (sOp2 f sa sb):=by
 obtain ⟨r,h1,h2⟩:=ho
 exact yaV (ziR h1 ha hb hm) fun σ H Q q=>two h2 q
theorem yar {op:CmpOp} {f:F2} (ho:Op T X (compareOp op) f) (ha:PEA T E X a sa) (hb:PEA T E X b sb) (hm:behindInMarks op b=false):PTA T E X (.Compare a [op] [b] pos) (yao (sOp2 f sa sb)):=by
 obtain ⟨r,h1,h2⟩:=ho
 refine yd8 (ziS h1 ha hb hm) fun σ H Q q=>two (E:=E) (Q:=fun x H' => ∃ k,x=V.bl k/\Q k H') h2 ?_
 obtain ⟨ι,h,en,S,er,q⟩:=q
 refine ⟨ι,h,en,S,er,q.bind fun x h1 ι1 H1 u g1 S1 r1 q1=>?_⟩
 split at q1
 ·rw [ycq r1]
  exact ⟨_,rfl,q1.now S1 rfl⟩
 ·exact q1.elim
theorem yf4 {f f':F2} {r r':R2} (hs:OpS T f r) (hs':OpS T f' r') {σ:St} {H:Hp} {Q:VK} (q:tE T E (ycg f f' sa sb sc) σ H Q):yeX r r' (tE T E sa) (tE T E sb) (tE T E sc) σ H Q:=by
 obtain ⟨ι,h,en,S,er,q⟩:=q
 refine ⟨ι,h,en,S,er,q.bind fun x h1 ι1 H1 u g1 S1 r1 q1=>⟨ι1,h1,en,S1,er.mono g1,q1.bind fun y h2 ι2 H2 w g2 S2 r2 q2=>?_⟩⟩
 refine hs ι2 h2 H2 x y u w (E σ) _ S2 (r1.mono g2) r2 (q2.bind fun z h3 ι3 H3 k g3 S3 r3 q3=>?_)
 split at q3
 ·rename_i kk
  rw [ycq r3]
  refine ⟨kk,rfl,?_⟩
  by_cases hkk:kk=true
  ·rw [if_pos hkk] at q3 ⊢
   refine ⟨ι3,h3,en,S3,er.mono (g1.trans (g2.trans g3)),q3.bind fun v h4 ι4 H4 j g4 S4 r4 q4=>?_⟩
   exact hs' ι4 h4 H4 y v w j _ Q S4 (r2.mono (g3.trans g4)) r4 q4
  ·rw [if_neg hkk] at q3 ⊢
   exact q3.now S3 (.bl _)
 ·exact q3.elim
theorem zdz {op op':CmpOp} {f f':F2} (ho:Op T X (compareOp op) f) (ho':Op T X (compareOp op') f') (ha:PEA T E X a sa) (hb:PEA T E X b sb) (hc:PEA T E X c sc) (hm:lastMarks [op,op'] [b,c]=false:=by with_unfolding_all rfl) :
  PEA T E X (.Compare a [op,op'] [b,c] pos) (ycg f f' sa sb sc):=by
 obtain ⟨r,h1,h2⟩:=ho
 obtain ⟨r',h1',h2'⟩:=ho'
 exact yaV (zhK h1 h1' ha hb hc hm) fun σ H Q q=>yf4 h2 h2' q
theorem zeF {op op':CmpOp} {f f':F2} (ho:Op T X (compareOp op) f) (ho':Op T X (compareOp op') f') (ha:PEA T E X a sa) (hb:PEA T E X b sb) (hc:PEA T E X c sc) (hm:lastMarks [op,op'] [b,c]=false:=by with_unfolding_all rfl) :
  PTA T E X (.Compare a [op,op'] [b,c] pos) (yao (ycg f f' sa sb sc)):=by
 obtain ⟨r,h1,h2⟩:=ho
 obtain ⟨r',h1',h2'⟩:=ho'
 refine yd8 (zhL h1 h1' ha hb hc hm) fun σ H Q q=>yf4 (E:=E) (Q:=fun x H' => ∃ k,x=V.bl k/\Q k H') h2 h2' ?_
 obtain ⟨ι,h,en,S,er,q⟩:=q
 refine ⟨ι,h,en,S,er,q.bind fun x h1 ι1 H1 u g1 S1 r1 q1=>?_⟩
 split at q1
 ·rw [ycq r1]
  exact ⟨_,rfl,q1.now S1 rfl⟩
 ·exact q1.elim
theorem ygV {ι:Ix} {h:AH} {H:Hp} {v:AV} {u:V} {k:Bool} (S:Sim T ι h H) (r:RV T ι H v u) (e:truA v h=some k):TruV T.K u H k:=by
 unfold truA at e
 cases r with
 | non=>cases e;rfl
 | bl b=>cases e;rfl
 | int b=>cases e;rfl
 | str n o=>cases e;exact ⟨n,rfl⟩
 | tup n q r=>cases e;exact .inr (.inl ⟨_,.of q,by cases r<;>rfl⟩)
 | fl n q r=>cases e;exact .inl ⟨_,.inl q,by cases r<;>rfl⟩
 | kfl q r=>cases e;exact .inl ⟨_,.inr q,by cases r<;>rfl⟩
 | @ref n a q =>
  dsimp only at e
  split at e
  ·rename_i xs hk
   cases e
   obtain ⟨u,e1,us,rfl,r⟩:=S.obj n _ a hk q
   exact .inl ⟨us,.inl (.inl e1),by cases r<;>rfl⟩
  ·rename_i xs hk
   cases e
   obtain ⟨u,e1,us,rfl,r⟩:=S.obj n _ a hk q
   exact .inr (.inr ⟨us,e1,by cases r<;>rfl⟩)
  ·cases e
 | exc _ _ _=>cases e
theorem za2 (hK:X.K=T.K) (ha:PEA T E X a sa) (he:∀ whole,isTrue a X.env whole=(do let v <- whole;standAt a.pos;holding [v] (truthy v)):=by intro _;rfl):PTA T E X a (ydV sa) :=
 yd8 (zhM ha he) fun σ H Q ⟨ι,h,en,S,er,q⟩=>⟨ι,h,en,S,er,q.bind fun x h1 ι1 H1 u g1 S1 r1 q1=>by
  split at q1
  ·rename_i b hb
   exact ⟨b,hK▸ygV S1 r1 hb,q1.now S1 rfl⟩
  ·exact q1.elim⟩
variable {ca cb:SB} {rest:List Expr}
theorem ydm (ha:PTA T E X a ca):PTA T E X (.UnaryOp .Not a pos) (sNot ca) :=
 yd8 (ygm ha) fun σ H Q ⟨ι,h,en,S,er,q⟩=>⟨ι,h,en,S,er,q.bind fun x h1 ι1 H1 u g1 S1 r1 q1=>by subst r1;exact q1.now S1 rfl⟩
theorem rt_w (h:PWA T E X a ca):PTA T E X a ca:=PW.pt h
theorem ygW (ha:PTA T E X a ca):PWA T E X (.BoolOp .Or [a] pos) ca:=ygl ha
theorem yhY (ha:PTA T E X a ca) (hb:PWA T E X (.BoolOp .Or (b::rest) pos) cb):PWA T E X (.BoolOp .Or (a::b::rest) pos) (sOr ca cb) :=
 ygS (yhw ha hb) fun σ H Q ⟨ι,h,en,S,er,q⟩=>⟨ι,h,en,S,er,q.bind fun x h1 ι1 H1 u g1 S1 r1 q1=>by
  subst r1
  by_cases hx:x=true
  ·rw [if_pos hx] at q1 ⊢
   exact q1.now S1 rfl
  ·rw [if_neg hx] at q1 ⊢
   exact ⟨ι1,h1,en,S1,er.mono g1,q1⟩⟩
theorem yeS {op} (h:PEA T E X a sa):PEA T E X (.BoolOp op [a] pos) sa:=ygn h
theorem yfe (ha:PEA T E X a sa) (hb:PEA T E X (.BoolOp .And (b::rest) pos) sb):PEA T E X (.BoolOp .And (a::b::rest) pos) (yeQ sa sb) :=
 yaV (ygo ha hb) fun σ H Q ⟨ι,h,en,S,er,q⟩=>⟨ι,h,en,S,er,q.bind fun x h1 ι1 H1 u g1 S1 r1 q1=>by
  split at q1
  ·rename_i kk
   rw [ycq r1]
   refine ⟨kk,rfl,?_⟩
   by_cases hkk:kk=true
   ·rw [if_pos hkk] at q1 ⊢
    exact ⟨ι1,h1,en,S1,er.mono g1,q1⟩
   ·rw [if_neg hkk] at q1 ⊢
    exact q1.now S1 (.bl _)
  ·exact q1.elim⟩
theorem r_or (ha:PEA T E X a sa) (hb:PEA T E X (.BoolOp .Or (b::rest) pos) sb):PEA T E X (.BoolOp .Or (a::b::rest) pos) (sOrV sa sb) :=
 yaV (yhz ha hb) fun σ H Q ⟨ι,h,en,S,er,q⟩=>⟨ι,h,en,S,er,q.bind fun x h1 ι1 H1 u g1 S1 r1 q1=>by
  split at q1
  ·rename_i kk
   rw [ycq r1]
   refine ⟨kk,rfl,?_⟩
   by_cases hkk:kk=true
   ·rw [if_pos hkk] at q1 ⊢
    exact q1.now S1 (.bl _)
   ·rw [if_neg hkk] at q1 ⊢
    exact ⟨ι1,h1,en,S1,er.mono g1,q1⟩
  ·exact q1.elim⟩
theorem yhZ (ha:PEA T E X a sa):PEA T E X (.UnaryOp .Not a pos) (yf0 sa) :=
 yaV (ygp ha) fun σ H Q ⟨ι,h,en,S,er,q⟩=>⟨ι,h,en,S,er,q.bind fun x h1 ι1 H1 u g1 S1 r1 q1=>by
  split at q1
  ·rw [ycq r1]
   exact ⟨_,rfl,q1.now S1 (.bl _)⟩
  ·exact q1.elim⟩
variable {es:List Expr} {as:SL}
theorem yac:PAA T E X [] sNil:=yfA yfs fun σ H Q ⟨ι,h,en,S,er,q⟩=>q.now S .nil
theorem zaa (ha:PEA T E X a sa) (hr:PAA T E X es as) (hs:starEach (a::es) X.env=(false,eval a X.env)::starEach es X.env:=by rfl):PAA T E X (a::es) (yab sa as) :=
 yfA (zdv ha hr hs) fun σ H Q ⟨ι,h,en,S,er,q⟩=>⟨ι,h,en,S,er,q.bind fun x h1 ι1 H1 u g1 S1 r1 q1=>⟨ι1,h1,en,S1,er.mono g1,q1.bind fun xs h2 ι2 H2 us g2 S2 r2 q2=>q2.now S2 (.cons (r1.mono g2) r2)⟩⟩
theorem ybq {k} (h:PAA T E X es as):PEA T E X (.Tuple es k pos) (sTup as) :=
 yaV (ygC h) fun σ H Q ⟨ι,h,en,S,er,q⟩=>⟨ι,h,en,S,er,q.bind fun xs h1 ι1 H1 us g1 S1 r1 q1=>by
  split at q1
  ·rename_i hl
   exact ⟨by rw [<- r1.length];exact Nat.le_trans hl (by decide),fun p n=>zdy S1 r1 n q1⟩
  ·exact q1.elim⟩
theorem ycE (h:PAA T E X es as):PEA T E X (.List es pos) (sLst as) :=
 yaV (yft h) fun σ H Q ⟨ι,h,en,S,er,q⟩=>⟨ι,h,en,S,er,q.bind fun xs h1 ι1 H1 us g1 S1 r1 q1=>by
  split at q1
  ·rename_i hl
   exact ⟨by rw [<- r1.length];exact Nat.le_trans hl (by decide),fun p n=>yd9 S1 r1 n q1⟩
  ·exact q1.elim⟩
theorem ybh (h:PAA T E X es as):PEA T E X (.List es pos) (ybv as) :=
 yaV (yft h) fun σ H Q ⟨ι,h,en,S,er,q⟩=>⟨ι,h,en,S,er,q.bind fun xs h1 ι1 H1 us g1 S1 r1 q1=>by
  split at q1
  ·rename_i hl
   exact ⟨by rw [<- r1.length];exact Nat.le_trans hl (by decide),fun p n=>zjf S1 r1 n q1⟩
  ·exact q1.elim⟩
theorem zji:PEA T E X (.Dict [] [] pos) (yfZ true) :=
 yaV zhW fun σ H Q ⟨ι,h,en,S,er,q⟩ p n=>q _ _ _ (S.growAdd n) (S.add n ⟨[],rfl,.nil⟩) (.ref S.addAt)
end
end Sm
namespace Sm
open PySem L2
section
variable {T:Tb} {E:St->XK} {X:Cx} {pos:Pos} {a b:Expr} {sa sb:SE} {ca:SB} {st:Stmt} {sts ss1 ss2:List Stmt} {s1 s2:SS}
theorem yas:PSsA T E X [] yay:=zfI ziO fun D σ H ⟨ι,h,en,S,er,q⟩=>q ι H σ S.refl S er
theorem zab (h1:PSA T E X st s1) (h2:PSsA T E X sts s2):PSsA T E X (st::sts) (sSeq s1 s2) :=
 zfI (zhH h1 h2) fun D σ H ⟨ι,h,en,S,er,q⟩=>by
  refine ⟨ι,h,en,S,er,?_⟩
  unfold sSeq at q
  cases e:s1 en h with
  | nx e1 h1 =>
   rw [e] at q
   exact fun ι' H' σ' g S' er' => ⟨ι',h1,e1,S',er',q.shift g⟩
  | rt v h1=>rw [e] at q;exact q
  | bk e1 h1=>rw [e] at q;exact q
  | ct e1 h1=>rw [e] at q;exact q
  | ex c e1 h1=>rw [e] at q;exact q
  | bad=>rw [e] at q;exact q
theorem yaf (h1:PSA T E X st s1):PSsA T E X [st] s1:=ziP h1
theorem zgw:PSA T E X (.Continue pos) yf1:=yb6 zfb fun D σ H ⟨ι,h,en,S,er,q⟩=>q ι H σ S.refl S er
theorem yaD (ha:PEA T E X a sa) (hs:swapsWith a none pos.line X.env=pure false:=by rfl):PSA T E X (.Expr a pos) (yaK sa) :=
 yb6 (ziQ ha hs) fun D σ H ⟨ι,h,en,S,er,q⟩=>⟨ι,h,en,S,er,q.go er fun v h1 ι1 H1 u g1 S1 r1 q1=>q1 ι1 H1 σ S1.refl S1 (er.mono g1)⟩
theorem yan (ha:PEA T E X a sa):PSA T E X (.Return (some a) pos) (sRet sa) :=
 yb6 (ygq ha) fun D σ H ⟨ι,h,en,S,er,q⟩=>⟨ι,h,en,S,er,q.go er fun v h1 ι1 H1 u g1 S1 r1 q1=>q1 ι1 H1 u S1.refl S1 r1⟩
theorem r_if (hc:PTA T E X a ca) (h1:PSsA T E X ss1 s1) (h2:PSsA T E X ss2 s2):PSA T E X (.If a ss1 ss2 pos) (sIf ca s1 s2) :=
 yb6 (yhD hc h1 h2) fun D σ H ⟨ι,h,en,S,er,q⟩=>⟨ι,h,en,S,er,q.go er fun x h1 ι1 H1 u g1 S1 r1 q1=>by
  subst r1
  by_cases hx:x=true
  ·rw [if_pos hx] at q1 ⊢
   exact ⟨ι1,h1,en,S1,er.mono g1,q1⟩
  ·rw [if_neg hx] at q1 ⊢
   exact ⟨ι1,h1,en,S1,er.mono g1,q1⟩⟩
theorem yfC {σ:St} {H:Hp} {D:Ends} {i:Nat} (q:tS T E (sSet i sa) D σ H):tAsg (tE T E sa) (yej i) D σ H:=by
 obtain ⟨ι,h,en,S,er,q⟩:=q
 exact ⟨ι,h,en,S,er,q.go er fun v h1 ι1 H1 u g1 S1 r1 q1=>q1 ι1 H1 _ S1.refl S1 ((er.mono g1).set r1 i)⟩
theorem yak {i:Nat} {x:Str} {p':Pos} (hN:X.N.Nodup) (ha:PEA T E X a sa) (hi:X.N[i]? = some x:=by rfl) (hx:Loc X.env.scope x:=by first | exact Or.inl rfl | exact Or.inr rfl) (hs:swapsWith a (some (.Name x p')) pos.line X.env=pure false:=by rfl)
  (hf:X.fn x=true\/X.env.scope.names.lookup x=some .local:=by first | exact .inl rfl | exact .inr rfl | assumption):PSA T E X (.Assign [.Name x p'] a pos) (sSet i sa) :=
 yb6 (ygs hN hi hx ha hs hf) fun D σ H q=>yfC q
theorem zjj (n:Nat) (hc:PTA T EN X.nox a ca) (hb:PSsA T EN X.nox sts s1):PSA T E X (.While a sts [] pos) (ybZ ca s1 n) :=
 yb6 (yfB (zhI PassesOwn.never hc hb)) fun D σ H ⟨ι,h,en,S,er,q⟩=>by
  refine ⟨fun m σ H=>∃ ι h en,Sim T ι h H/\ER T ι H en σ/\PostS T ι H E (ybZ ca s1 m en h) D,⟨n,ι,h,en,S,er,q⟩,?_⟩
  rintro m σ H ⟨ι,h,en,S,er,q⟩
  cases m with
  | zero=>exact (show False from q).elim
  | succ m =>
   unfold ybZ at q
   refine ⟨ι,h,en,S,er,?_⟩
   cases e:ca en h with
   | bad=>rw [e] at q;exact q
   | ex c h1=>rw [e] at q;exact (show False from q).elim
   | ok x h1 =>
    rw [e] at q
    intro ι1 H1 u g1 S1 r1
    subst r1
    have q1:=PostS.shift q g1
    cases x with
    | true =>
     rw [if_pos rfl]
     refine ⟨fun σ H=>∃ ι h en,Sim T ι h H/\ER T ι H en σ/\PostS T ι H E (ybZ ca s1 m en h) D,fun σ' H' w=>⟨m,Nat.lt_succ_self m,w⟩,ι1,h1,en,S1,er.mono g1,?_⟩
     dsimp only at q1
     cases e2:s1 en h1 with
     | nx e3 h3=>rw [e2] at q1;exact fun ι2 H2 σ2 g2 S2 er2=>⟨ι2,h3,e3,S2,er2,q1.shift g2⟩
     | ct e3 h3=>rw [e2] at q1;exact fun ι2 H2 σ2 g2 S2 er2=>⟨ι2,h3,e3,S2,er2,q1.shift g2⟩
     | bk e3 h3=>rw [e2] at q1;exact q1
     | rt v h3=>rw [e2] at q1;exact q1
     | ex c e3 h3=>rw [e2] at q1;exact (show False from q1).elim
     | bad=>rw [e2] at q1;exact q1
    | false =>
     rw [if_neg Bool.false_ne_true]
     exact q1 ι1 H1 σ S1.refl S1 (er.mono g1)
theorem zdZ {ι:Ix} {H:Hp}:∀ {is:List Nat} {xs:List AV} {us:List V} {en e:En} {σ:St},RVs T ι H xs us->ER T ι H en σ->yeY is xs en=some e->ER T ι H e ((is.zip us).foldl (fun σ p=>σ.set p.1 (some p.2)) σ)/\us.length=is.length
 | [],_,_,en,e,σ,.nil,er,q=>by cases q;exact ⟨er,rfl⟩
 | i::is,_,_,en,e,σ,.cons r rs,er,q=>by
  obtain ⟨h1,h2⟩:=zdZ (is:=is) rs (er.set r i) q
  exact ⟨h1,by simp [h2]⟩
 | [],_,_,en,e,σ,.cons r rs,er,q=>by cases q
 | i::is,_,_,en,e,σ,.nil,er,q=>by cases q
def PGA (T:Tb) (X:Cx) (tg:Expr) (t:Tg):Prop:=∃ g,PG X tg g/\∀ {ι:Ix} {h:AH} {H:Hp} {en e:En} {σ:St} {v:AV} {u:V} {Q:St->Hp->Prop},Sim T ι h H->ER T ι H en σ->RV T ι H v u->setT t v en=some e ->
 (∀ σ',ER T ι H e σ'->Q σ' H)->g u σ H Q
theorem zaS {i:Nat} {x:Str} (hN:X.N.Nodup) (hi:X.N[i]? = some x:=by rfl) (hx:Loc X.env.scope x:=by first | exact Or.inl rfl | exact Or.inr rfl) (hf:X.fn x=true\/X.env.scope.names.lookup x=some .local:=by first | exact .inl rfl | exact .inr rfl | assumption) :
  PGA T X (.Name x pos) (.nm i):=⟨_,zck hN hi hx hf,fun S er r e k=>by cases e;exact k _ (er.set r i)⟩
def PGsA (X:Cx) (es:List Expr) (is:List Nat):Prop:=PGs X es (fun vs σ H Q=>vs.length=is.length/\Q ((is.zip vs).foldl (fun σ p=>σ.set p.1 (some p.2)) σ) H)
theorem zfL {X:Cx} {es:List Expr} {t t':TGs} (h:PGs X es t) (k:∀ vs σ H Q,t' vs σ H Q->t vs σ H Q):PGs X es t' := fun pins s σ H vs us Q I r q=>h pins s σ H vs us Q I r (k vs σ H Q q)
theorem zaL:PGsA X [] []:=zfL zfw fun vs σ H Q ⟨l,q⟩=>by
 cases vs with
 | nil=>exact ⟨rfl,q⟩
 | cons=>cases l
theorem zar {i:Nat} {is:List Nat} {x:Str} {p:Pos} {es:List Expr} (hN:X.N.Nodup) (hr:PGsA X es is) (hi:X.N[i]? = some x:=by rfl) (hx:Loc X.env.scope x:=by first | exact Or.inl rfl | exact Or.inr rfl)
  (hf:X.fn x=true\/X.env.scope.names.lookup x=some .local:=by first | exact .inl rfl | exact .inr rfl | assumption) (hs:(assignEach (.Name x p::es) X.env).map (·.2)=assign (.Name x p) X.env::(assignEach es X.env).map (·.2):=by rfl):PGsA X (.Name x p::es) (i::is) :=
 zfL (zcR (zck hN hi hx hf) hr hs) fun vs σ H Q ⟨l,q⟩=>by
  cases vs with
  | nil=>cases l
  | cons v r=>exact ⟨v,r,rfl,Nat.succ.inj l,q⟩
theorem ycz {es:List Expr} {is:List Nat} {k:Nat} (hK:X.K=T.K) (hc:X.calm=true) (h:PGsA X es is) (hn:(assignEach es X.env).length=is.length:=by rfl) (hst:(assignEach es X.env).findIdx? (·.1)=none:=by rfl):PGA T X (.Tuple es k pos) (.tup is) :=
 ⟨_,yfo hc h hn hst,fun {ι h H en e σ v u Q} S er r q k=>by
  unfold setT at q
  split at q
  ·rename_i hh;cases hh
  ·rename_i hh
   cases hh
   obtain ⟨a,us,rfl,q1,r1⟩:=yc9 r
   obtain ⟨h1,h2⟩:=zdZ r1 er q
   exact ⟨a,us,rfl,hK▸q1,h2,h2,k _ h1⟩
  ·cases q⟩
theorem yea {tg:Expr} {t:Tg} (ha:PEA T E X a sa) (hg:PGA T X tg t) (hs:swapsWithSole [tg] a pos.line X.env=pure false:=by rfl) (hw:swappedStores [tg] a X.env=pure none:=by rfl)
  (h1:(assignEach [tg] X.env).map (·.2)=[assign tg X.env]:=by rfl):PSA T E X (.Assign [tg] a pos) (ycN t sa):=by
 obtain ⟨g,hg1,hg2⟩:=hg
 refine yb6 (yfp ha hg1 hs hw h1) fun D σ H ⟨ι,h,en,S,er,q⟩=>⟨ι,h,en,S,er,q.go er fun v h1 ι1 H1 u g1 S1 r1 q1=>?_⟩
 split at q1
 ·rename_i e he
  exact hg2 S1 (er.mono g1) r1 he fun σ' er' => q1 ι1 H1 σ' S1.refl S1 er'
 ·exact q1.elim
structure ItR (T:Tb) (J:It) (ι:Ix) (H:Hp) (xs:List AV) (w:Option Nat):Prop where
 go:∀ (i:Nat) (ι':Ix) (h':AH) (H':Hp) (x:AV),Ext ι H ι' H'->Sim T ι' h' H'->ybx w xs h'=true->xs[i]? = some x->J.go i H'/\∀ u H2,J.yld i H' u H2->Grow ι' H' ι' H2/\Sim T ι' h' H2/\RV T ι' H2 x u
 stop:∀ (i:Nat) (ι':Ix) (h':AH) (H':Hp),Ext ι H ι' H'->Sim T ι' h' H'->ybx w xs h'=true->xs.length<=i->J.stop i H'
def tI (T:Tb) (it:SI):TI:=fun σ H R=>∃ ι h en,Sim T ι h H/\ER T ι H en σ/\match it en h with
 | .ok (xs,w) h' => ∀ ι' H' J,Grow ι H ι' H'->Sim T ι' h' H'->ItR T J ι' H' xs w->R J H'
 | _=>False
abbrev PIA (T:Tb) (X:Cx) (tg iter:Expr) (it:SI):Prop:=PI X tg iter (tI T it)
theorem yeb {X:Cx} {tg iter:Expr} {t t':TI} (h:PI X tg iter t) (k:∀ σ H R,t' σ H R->t σ H R):PI X tg iter t' := fun pins s σ H R I q=>h pins s σ H R I (k σ H R q)
theorem PI.or {X:Cx} {tg iter:Expr} {t t':TI} (h:PI X tg iter t) (h':PI X tg iter t'):PI X tg iter (fun σ H R=>t σ H R\/t' σ H R):=fun pins s σ H R I q=>q.elim (h pins s σ H R I) (h' pins s σ H R I)
theorem yfD {ι:Ix} {H:Hp} {a:Addr} {us:List V} {xs:List AV} {K:PySem.W.Frag} (keep:∀ (ι':Ix) (H':Hp),Ext ι H ι' H'->SqL K H' a us) (r:RVs T ι H xs us):ItR T (Itl K a) ι H xs none:=by
 constructor
 ·intro i ι' h' H' x g S _ e
  obtain ⟨u,e1,r1⟩:=(r.ext g).get e
  refine ⟨⟨us,u,keep ι' H' g,e1⟩,?_⟩
  rintro u2 H2 ⟨rfl,y⟩
  have z:=y us (keep ι' _ g)
  rw [e1] at z;cases z
  exact ⟨S.refl,S,r1⟩
 ·intro i ι' h' H' g S _ hl
  exact ⟨us,keep ι' H' g,by rw [<- r.length];exact hl⟩
theorem ygX {ι:Ix} {H:Hp} {a:Addr} {us:List V} {xs:List AV} {K:PySem.W.Frag} (keep:∀ (ι':Ix) (H':Hp),Ext ι H ι' H'->SqT K H' a us) (r:RVs T ι H xs us):ItR T (Itt K a) ι H xs none:=by
 constructor
 ·intro i ι' h' H' x g S _ e
  obtain ⟨u,e1,r1⟩:=(r.ext g).get e
  refine ⟨⟨us,u,keep ι' H' g,e1⟩,?_⟩
  rintro u2 H2 ⟨rfl,y⟩
  have z:=y us (keep ι' _ g)
  rw [e1] at z;cases z
  exact ⟨S.refl,S,r1⟩
 ·intro i ι' h' H' g S _ hl
  exact ⟨us,keep ι' H' g,by rw [<- r.length];exact hl⟩
theorem zjk {ι:Ix} {H:Hp} {a:Addr} {n:Nat} {xs:List AV} {K:PySem.W.Frag} (e:ι.refs[n]? = some a):ItR T (Itl K a) ι H xs (some n):=by
 have at_:∀ {ι':Ix} {h':AH} {H':Hp},Ext ι H ι' H'->Sim T ι' h' H'->ybx (some n) xs h'=true->∃ us,H' a=some (.lst us)/\RVs T ι' H' xs us:=fun {ι' h' H'} g S l=>by
  unfold ybx at l
  dsimp only at l
  split at l
  ·rename_i ys hy
   have z:=of_decide_eq_true l
   subst z
   obtain ⟨u,e1,us,rfl,r⟩:=S.obj n _ a hy (g.at_ e)
   exact ⟨us,e1,r⟩
  ·cases l
 constructor
 ·intro i ι' h' H' x g S l e
  obtain ⟨us,e0,r⟩:=at_ g S l
  obtain ⟨u,e1,r1⟩:=r.get e
  refine ⟨⟨us,u,.of e0,e1⟩,?_⟩
  rintro u2 H2 ⟨rfl,y⟩
  have z:=y us (.of e0)
  rw [e1] at z;cases z
  exact ⟨S.refl,S,r1⟩
 ·intro i ι' h' H' g S l hl
  obtain ⟨us,e0,r⟩:=at_ g S l
  exact ⟨us,.of e0,by rw [<- r.length];exact hl⟩
theorem zjl {ι:Ix} {H:Hp} {x:Str} (o:x.cps.all (· < 0x110000)=true):ItR T (Its x) ι H (x.cps.toList.map fun c=>.str ⟨#[c]⟩) none:=by
 constructor
 ·intro i ι' h' H' y g S _ e
  rw [List.getElem?_map] at e
  obtain ⟨c,e1,rfl⟩:=Option.map_eq_some_iff.mp e
  have hi:i<x.cps.size:=by
   have:=(List.getElem?_eq_some_iff.mp e1).1
   simpa using this
  refine ⟨hi,?_⟩
  rintro u H2 ⟨rfl,c',e2,rfl⟩
  have z:x.cps[i]? = some c:=by simpa using e1
  rw [e2] at z;cases z
  refine ⟨S.refl,S,.str (show 1<=sizeLine by decide) ?_⟩
  have m:=Array.mem_of_getElem? e2
  have:=Array.all_eq_true_iff_forall_mem.mp o _ m
  simpa using this
 ·intro i ι' h' H' g S _ hl
  show x.cps.size<=i
  simpa using hl
theorem zgx (n:Nat):∀ (lo:Int) (i:Nat),(yaX lo n)[i]? = if i<n then some (.int (lo+i)) else none:=by
 induction n with
 | zero=>intro lo i;simp [yaX]
 | succ n ih =>
  intro lo i
  cases i with
  | zero=>simp [yaX]
  | succ i =>
   show (yaX (lo+1) n)[i]? = _
   rw [ih]
   by_cases h:i<n
   ·rw [if_pos h,if_pos (by lia)]
    congr 2
    show lo+1+(i:Int)=lo+((i+1:Nat):Int)
    lia
   ·rw [if_neg h,if_neg (by lia)]
theorem zel (n:Nat):∀ lo:Int,(yaX lo n).length=n:=by
 induction n with
 | zero=>intro lo;rfl
 | succ n ih=>intro lo;show (yaX (lo+1) n).length+1=n+1;rw [ih]
theorem zhh {ι:Ix} {H:Hp} {lo:Int} {n:Nat}:ItR T (Itr lo n) ι H (yaX lo n) none:=by
 constructor
 ·intro i ι' h' H' y g S _ e
  rw [zgx] at e
  split at e
  ·rename_i hi
   cases e
   refine ⟨hi,?_⟩
   rintro u H2 ⟨rfl,rfl⟩
   exact ⟨S.refl,S,.int _⟩
  ·cases e
 ·intro i ι' h' H' g S _ hl
  rw [zel] at hl
  exact hl
theorem zb1:∀ (xs:List AV) (k i:Nat),(numbered k xs)[i]? = (xs[i]?).map fun x=>.tup [.int ((k+i:Nat):Int),x]
 | [],k,i=>by simp [numbered]
 | x::xs,k,0=>by simp [numbered]
 | x::xs,k,i+1=>by
  show (numbered (k+1) xs)[i]? = _
  rw [zb1 xs (k+1) i]
  show _=(xs[i]?).map _
  congr 1
  funext y
  rw [show k+1+i=k+(i+1) by lia]
theorem zbq:∀ (xs:List AV) (k:Nat),(numbered k xs).length=xs.length
 | [],_=>rfl
 | x::xs,k=>by show (numbered (k+1) xs).length+1=_;rw [zbq xs];rfl
theorem zeG {ι:Ix} {H:Hp} {a:Addr} {us:List V} {xs:List AV} {K:PySem.W.Frag} (keep:∀ (ι':Ix) (H':Hp),Ext ι H ι' H'->SqL K H' a us) (r:RVs T ι H xs us):ItR T (Ite K a) ι H (numbered 0 xs) none:=by
 constructor
 ·intro i ι' h' H' x g S _ e
  rw [zb1] at e
  obtain ⟨y,e0,rfl⟩:=Option.map_eq_some_iff.mp e
  obtain ⟨u,e1,r1⟩:=(r.ext g).get e0
  refine ⟨⟨us,u,keep ι' H' g,e1⟩,?_⟩
  rintro u2 H2 ⟨t,y2,rfl,hn,rfl,hy⟩
  have z:=hy us (keep ι' _ g)
  rw [e1] at z;cases z
  have g2:=S.growNew (o:=.tup [.int i,u]) hn
  refine ⟨g2,S.new hn,.tup (S.fresh hn) zat (.cons ?_ (.cons (r1.mono g2) .nil))⟩
  rw [Nat.zero_add]
  exact .int _
 ·intro i ι' h' H' g S _ hl
  rw [zbq] at hl
  exact ⟨us,keep ι' H' g,by rw [<- r.length];exact hl⟩
theorem yf5 {ι:Ix} {H:Hp} {a:Addr} {us:List V} (n:a∉ι.all) (h:Rd H a (.lst us)):∀ (ι':Ix) (H':Hp),Ext ι H ι' H'->SqL T.K H' a us:=fun _ _ g=>.inl (zfH g n h)
theorem yh0 {ι:Ix} {H:Hp} {a:Addr} {us:List V} (n:a∉ι.all) (h:H a=some (.tup us)):∀ (ι':Ix) (H':Hp),Ext ι H ι' H'->SqT T.K H' a us:=fun _ _ g=>.of (g.keep _ _ n h)
theorem yeB {K K':PySem.W.Frag} {H:Hp} {a:Addr} {us:List V} (e:K=K') (h:SqL K' H a us):SqL K H a us:=e▸h
theorem yeT {σ:St} {H:Hp} {R:It->Hp->Prop} {ι:Ix} {h h1:AH} {en:En} {v:AV} {xs:List AV} {w:Option Nat} (hK:X.K=T.K) (S:Sim T ι h H) (er:ER T ι H en σ) (e:sa en h = .ok v h1) (hv:(v = .fl xs/\w=none)\/∃ n,v = .ref n/\h1[n]? = some (.lst xs)/\w=some n)
  (q:∀ ι' H' J,Grow ι H ι' H'->Sim T ι' h1 H'->ItR T J ι' H' xs w->R J H'):yfV X.K (tE T E sa) σ H R:=by
 refine ⟨ι,h,en,S,er,?_⟩
 rw [e]
 intro ι1 H1 u g1 S1 r1
 rcases hv with ⟨rfl,rfl⟩ | ⟨n,rfl,hn,rfl⟩
 ·cases r1 with
  | fl n hr rs=>exact ⟨_,rfl,⟨_,yeB hK (.inl hr)⟩,q ι1 H1 _ g1 S1 (hK▸yfD (yf5 n hr) rs)⟩
  | kfl hr rs=>exact ⟨_,rfl,⟨_,yeB hK (.inr hr)⟩,q ι1 H1 _ g1 S1 (hK▸yfD (fun _ _ _=>.inr hr) rs)⟩
 ·cases r1 with
  | ref hr =>
   obtain ⟨u,e1,us,rfl,rs⟩:=S1.obj n _ _ hn hr
   exact ⟨_,rfl,⟨_,.of e1⟩,q ι1 H1 _ g1 S1 (zjk hr)⟩
theorem yf6 {σ:St} {H:Hp} {R:It->Hp->Prop} {ι:Ix} {h h1:AH} {en:En} {xs:List AV} (hK:X.K=T.K) (S:Sim T ι h H) (er:ER T ι H en σ) (e:sa en h = .ok (.tup xs) h1)
  (q:∀ ι' H' J,Grow ι H ι' H'->Sim T ι' h1 H'->ItR T J ι' H' xs none->R J H'):iTup X.K (tE T E sa) σ H R:=by
 refine ⟨ι,h,en,S,er,?_⟩
 rw [e]
 intro ι1 H1 u g1 S1 r1
 cases r1 with
 | tup n hr rs=>exact ⟨_,rfl,⟨_,.of hr⟩,q ι1 H1 _ g1 S1 (hK▸ygX (yh0 n hr) rs)⟩
theorem za3 {tg:Expr} (hK:X.K=T.K) (ha:PEA T E X a sa):PIA T X tg a (ya4 sa) :=
 yeb (PI.or (zfx ha) (yfq ha)) fun σ H R ⟨ι,h,en,S,er,q⟩=>by
  unfold ya4 at q
  cases e:sa en h with
  | bad=>rw [e] at q;exact q.elim
  | ex c h1=>rw [e] at q;exact q.elim
  | ok v h1 =>
   rw [e] at q
   cases v with
   | fl xs=>exact .inl (yeT hK S er e (.inl ⟨rfl,rfl⟩) q)
   | tup xs=>exact .inr (yf6 hK S er e q)
   | ref n =>
    dsimp only [Out.bind] at q
    cases e2:h1[n]? with
    | none=>rw [e2] at q;exact q.elim
    | some o =>
     rw [e2] at q
     cases o with
     | lst xs=>exact .inl (yeT hK S er e (.inr ⟨n,rfl,e2,rfl⟩) q)
     | _=>exact q.elim
   | _=>exact q.elim
theorem yec {y:Str} {py:Pos} (hK:X.K=T.K) (ha:PEA T E X a sa):PIA T X (.Name y py) a (iVal sa) :=
 yeb (PI.or (zfx ha) (PI.or (yfq ha) (ygL ha))) fun σ H R ⟨ι,h,en,S,er,q⟩=>by
  unfold iVal at q
  cases e:sa en h with
  | bad=>rw [e] at q;exact q.elim
  | ex c h1=>rw [e] at q;exact q.elim
  | ok v h1 =>
   rw [e] at q
   cases v with
   | fl xs=>exact .inl (yeT hK S er e (.inl ⟨rfl,rfl⟩) q)
   | tup xs=>exact .inr (.inl (yf6 hK S er e q))
   | str z =>
    refine .inr (.inr ⟨ι,h,en,S,er,?_⟩)
    rw [e]
    intro ι1 H1 u g1 S1 r1
    obtain ⟨rfl,_,o⟩:=ya8 r1
    exact ⟨_,rfl,q ι1 H1 _ g1 S1 (zjl o)⟩
   | ref n =>
    dsimp only [Out.bind] at q
    cases e2:h1[n]? with
    | none=>rw [e2] at q;exact q.elim
    | some o =>
     rw [e2] at q
     cases o with
     | lst xs=>exact .inl (yeT hK S er e (.inr ⟨n,rfl,e2,rfl⟩) q)
     | _=>exact q.elim
   | _=>exact q.elim
theorem zba {tg:Expr} {p:Pos} (hg:Gl X "range") (hm:X.mg "range" = none) (ha:PEA T E X a sa) (hs:starEach [a] X.env=[(false,eval a X.env)]:=by rfl):PIA T X tg (.Call (.Name "range" p) [a] [] pos) (ybT sa) :=
 yeb (zgR hg hm (zaa ha yac hs) hs) fun σ H R ⟨ι,h,en,S,er,q⟩=>by
  unfold ybT at q
  refine ⟨ι,h,en,S,er,?_⟩
  unfold yab
  cases e:sa en h with
  | bad=>rw [e] at q;exact q
  | ex c h1=>rw [e] at q;exact q.elim
  | ok v h1 =>
   rw [e] at q
   intro ι1 H1 u g1 S1 r1
   dsimp only [Out.bind] at q
   cases v with
   | int j =>
    dsimp only at q
    split at q
    ·rename_i hx
     split at hx
     ·rename_i hb
      cases hx
      cases r1 with
      | cons r r' =>
       cases r'
       rw [yaG r]
       exact ⟨j,rfl,by omega,by omega,q ι1 H1 _ g1 S1 zhh⟩
     ·cases hx
    ·exact q.elim
   | _=>exact q.elim
theorem zjm {p tp:Pos} {es:List Expr} {k:Nat} (hK:X.K=T.K) (hg:Gl X "enumerate") (hm:X.mg "enumerate" = none) (ha:PEA T E X a sa) (hs:starEach [a] X.env=[(false,eval a X.env)]:=by rfl):PIA T X (.Tuple es k tp) (.Call (.Name "enumerate" p) [a] [] pos) (Sm.iEnum sa) :=
 yeb (zi5 hg hm (zaa ha yac hs) hs) fun σ H R ⟨ι,h,en,S,er,q⟩=>by
  unfold Sm.iEnum at q
  refine ⟨ι,h,en,S,er,?_⟩
  unfold yab
  cases e:sa en h with
  | bad=>rw [e] at q;exact q
  | ex c h1=>rw [e] at q;exact q.elim
  | ok v h1 =>
   rw [e] at q
   intro ι1 H1 u g1 S1 r1
   dsimp only [Out.bind] at q
   cases v with
   | fl xs =>
    cases r1 with
    | cons r r' =>
     cases r'
     cases r with
     | fl n hr rs=>exact ⟨_,rfl,⟨_,yeB hK (.inl hr)⟩,q ι1 H1 _ g1 S1 (hK▸zeG (yf5 n hr) rs)⟩
     | kfl hr rs=>exact ⟨_,rfl,⟨_,yeB hK (.inr hr)⟩,q ι1 H1 _ g1 S1 (hK▸zeG (fun _ _ _=>.inr hr) rs)⟩
   | _=>exact q.elim
theorem zb2 {α:Type} {xs:List α} {i:Nat} (h:i<xs.length):xs.drop i=xs[i]::xs.drop (i+1):=by simp
theorem ycs {tg iter:Expr} {it:SI} {t:Tg} (hc:X.calm=true) (hi:PIA T X.nox tg iter it) (hg:PGA T X.nox tg t) (hb:PSsA T EN X.nox sts s1) (hs:∀ x,foldedSetIterable iter X.nox.env x=pure x:=by intro _;rfl) :
  PSA T E X (.For tg iter sts [] pos) (sFor it t s1):=by
 obtain ⟨g,hg1,hg2⟩:=hg
 refine yb6 (yfB (ygu PassesOwn.never hc hi hg1 hb hs)) fun D σ H ⟨ι,h,en,S,er,q⟩=>⟨ι,h,en,S,er,?_⟩
 unfold sFor at q
 cases e:it en h with
 | bad=>rw [e] at q;exact q
 | ex c h1=>rw [e] at q;exact q
 | ok p h1 =>
  obtain ⟨xs,w⟩:=p
  rw [e] at q
  intro ι1 H1 J g1 S1 IR
  refine ⟨fun i m σ H=>m=xs.length-i/\i<=xs.length/\∃ ι' h' en',Grow ι1 H1 ι' H/\Sim T ι' h' H/\ER T ι' H en' σ/\PostS T ι' H E (yb7 w xs t s1 (xs.drop i) en' h') D,
   ⟨xs.length,by simp,Nat.zero_le _,ι1,h1,en,S1.refl,S1,er.mono g1,PostS.shift q g1⟩,?_⟩
  rintro i m σ H ⟨rfl,hi,ι',h',en',g',S',er',q'⟩
  by_cases hl:i<xs.length
  ·rw [zb2 hl] at q'
   unfold yb7 at q'
   split at q'
   ·rename_i hlive
    obtain ⟨go,yld⟩:=IR.go i ι' h' H xs[i] g'.ext S' hlive (by simp [hl])
    refine .inr ⟨go,fun σ H=>∃ ι' h' en',Grow ι1 H1 ι' H/\Sim T ι' h' H/\ER T ι' H en' σ/\PostS T ι' H E (yb7 w xs t s1 (xs.drop (i+1)) en' h') D,
     fun σ' H' w' => ⟨xs.length-(i+1),by omega,rfl,hl,w'⟩,fun x H' y=>?_⟩
    obtain ⟨g2,S2,r2⟩:=yld x H' y
    split at q'
    ·rename_i e1 he1
     refine hg2 S2 (er'.mono g2) r2 he1 fun σ' er2=>⟨ι',h',e1,S2,er2,?_⟩
     have q2:=PostS.shift q' g2
     cases e2:s1 e1 h' with
     | nx e3 h3=>rw [e2] at q2;exact fun ι3 H3 σ3 g3 S3 er3=>⟨ι3,h3,e3,g'.trans (g2.trans g3),S3,er3,q2.shift g3⟩
     | ct e3 h3=>rw [e2] at q2;exact fun ι3 H3 σ3 g3 S3 er3=>⟨ι3,h3,e3,g'.trans (g2.trans g3),S3,er3,q2.shift g3⟩
     | bk e3 h3=>rw [e2] at q2;exact q2
     | rt v h3=>rw [e2] at q2;exact q2
     | ex c e3 h3=>rw [e2] at q2;exact (show False from q2).elim
     | bad=>rw [e2] at q2;exact q2
    ·exact (show False from q').elim
   ·exact (show False from q').elim
  ·have ei:i=xs.length:=by omega
   subst ei
   rw [List.drop_length] at q'
   unfold yb7 at q'
   split at q'
   ·rename_i hlive
    exact .inl ⟨IR.stop _ ι' h' H g'.ext S' hlive (Nat.le_refl _),q' ι' H σ S'.refl S' er'⟩
   ·exact (show False from q').elim
theorem ER.comp {ι:Ix} {H:Hp} {en:En} {σ:St} {x:AV} {u:V} {jf:List (Nat×Str)} (er:ER T ι H en σ) (r:RV T ι H x u):ER T ι H (some x::(jf.map (·.1)).map fun j=>(en[j]?).join) (ybD (some u) jf σ):=by
 refine ⟨by simp [ybD],fun i v e=>?_⟩
 cases i with
 | zero=>simp at e;subst e;exact ⟨u,rfl,r⟩
 | succ i =>
  simp only [List.getElem?_cons_succ,List.getElem?_map] at e
  unfold ybD
  simp only [List.getElem?_cons_succ,List.getElem?_map]
  cases e1:jf[i]? with
  | none=>rw [e1] at e;cases e
  | some j =>
   rw [e1] at e
   simp only [Option.map_some,Option.some.injEq] at e
   have e2:en[j.1]? = some (some v):=by
    cases e3:en[j.1]? with
    | none=>rw [e3] at e;cases e
    | some o=>rw [e3] at e;exact congrArg some e
   obtain ⟨u',e4,r'⟩:=er.2 j.1 v e2
   exact ⟨u',by simp [e4],r'⟩
theorem zjn {jf:List (Nat×Str)} {it:SI} {cc:SB} {ce:SE} {σ:St} {H:Hp} {Q:VK} {ι:Ix} {h:AH} {en:En} (S:Sim T ι h H) (er:ER T ι H en σ)
  (q:match it en h with | .ok (xs,w) h1=>(match yaQ (jf.map (·.1)) en w xs cc ce xs [] h1 with | .ok ys h2=>∀ ι' H' D vs,Grow ι H ι' H'->Sim T (ι'.hide D) h2 H'->RVs T (ι'.hide D) H' ys vs->H' D=some (.lst vs)->D∉ι'.all->(∀ n,ι'.refs=ι.refs++n->∀ a∈n++[D],H a=none)->Q (.ref D) H' | _=>False) | _=>False) :
  yex jf (tI T it) (tT T EN cc) (tE T EN ce) σ H Q:=by
 refine ⟨ι,h,en,S,er,?_⟩
 cases e:it en h with
 | bad=>rw [e] at q;exact q
 | ex c h1=>rw [e] at q;exact q
 | ok p h1 =>
  obtain ⟨xs,w⟩:=p
  rw [e] at q
  dsimp only at q
  intro ι1 H1 J g1 S1 IR D hD
  refine ⟨fun i m ys H2=>m=xs.length-i/\i<=xs.length/\H2 D=some (.lst ys)/\∃ ι' h' vs,Grow ι1 H1 ι' H2/\Ext ι1 H1 (ι'.hide D) H2/\Sim T (ι'.hide D) h' H2/\ER T (ι'.hide D) H2 en σ/\RVs T (ι'.hide D) H2 vs ys/\D∉ι'.refs /\
   (match yaQ (jf.map (·.1)) en w xs cc ce (xs.drop i) vs h' with | .ok ys h2=>∀ ι' H' D vs,Grow ι H ι' H'->Sim T (ι'.hide D) h2 H'->RVs T (ι'.hide D) H' ys vs->H' D=some (.lst vs)->D∉ι'.all->(∀ n,ι'.refs=ι.refs++n->∀ a∈n++[D],H a=none)->Q (.ref D) H' | _=>False),?_,?_⟩
  ·exact ⟨xs.length,by simp,Nat.zero_le _,zat,ι1,h1,[],S1.growNew hD,Ext.hide hD,S1.hide hD,(er.mono g1).ext (Ext.hide hD),.nil,fun z=>S1.fresh hD (List.mem_append_left _ z),q⟩
  ·rintro i m ys H2 ⟨rfl,hi,hH2,ι',h',vs,g',x',S',er',rv',nD',q'⟩
   refine ⟨hH2,?_⟩
   by_cases hl:i<xs.length
   ·rw [zb2 hl] at q'
    unfold yaQ at q'
    by_cases hs:ybx w xs h'=true/\vs.length<sizeLine
    ·rw [if_pos hs] at q'
     obtain ⟨hs1,hs2⟩:=hs
     obtain ⟨go,yld⟩:=IR.go i _ h' H2 xs[i] x' S' hs1 (by simp [hl])
     refine .inr ⟨go,by rw [<- rv'.length];exact hs2,fun x H3 y=>?_⟩
     obtain ⟨g3,S3,r3⟩:=yld x H3 y
     have er3:=er'.mono g3
     refine ⟨ι'.hide D,h',_,S3,ER.comp er3 r3,?_⟩
     cases ec:cc (some xs[i]::(jf.map (·.1)).map fun j=>(en[j]?).join) h' with
     | bad=>rw [ec] at q';exact q'
     | ex c h5=>rw [ec] at q';exact q'.elim
     | ok bb h5 =>
      rw [ec] at q'
      intro ι5 H5 b5 g5 S5 r5
      subst r5
      have g35:=g3.trans g5
      have hD5:H5 D=some (.lst ys):=g35.keep D _ nD' hH2
      have eι:ι5=Ix.hide ⟨ι5.refs,ι'.priv⟩ D:=by
       have:=g5.priv
       cases ι5
       simp only at this
       subst this
       rfl
      have nD5:D∉ι5.refs:=g35.outR nD' hH2
      have gG5:Grow ι1 H1 ⟨ι5.refs,ι'.priv⟩ H5:=by
       obtain ⟨n,en1,hn⟩:=g'.pre
       obtain ⟨k,ek,hk⟩:=g35.pre
       refine ⟨⟨n++k,?_,fun a ha=>?_⟩,g'.priv,fun a o na ea=>?_,fun a ha=>?_⟩
       ·show ι5.refs=_;rw [ek];show ι'.refs++k=_;rw [en1];simp
       ·rcases List.mem_append.mp ha with z | z
        ·exact hn a z
        ·have z2:=hk a z
         by_cases hr:a∈ι1.refs
         ·exact absurd z2 (g'.live a (List.mem_append_left _ hr))
         ·cases e9:H1 a with
          | none=>rfl
          | some o=>rw [g'.keep a o hr e9] at z2;cases z2
       ·exact g35.keep a o (g'.outR na ea) (g'.keep a o na ea)
       ·have:a∈(ι'.hide D).all:=by
         rcases List.mem_append.mp ha with z | z
         ·exact List.mem_append_left _ (by show a∈ι'.refs;rw [en1];exact List.mem_append_left _ z)
         ·exact List.mem_append_right _ (List.mem_cons_of_mem _ (by rw [g'.priv];exact z))
        exact g35.live a this
      have x5:Ext ι1 H1 (Ix.hide ⟨ι5.refs,ι'.priv⟩ D) H5:=eι▸x'.trans g35.ext
      have er5:=er3.mono g5
      have rv5:=(rv'.mono g35)
      cases bb with
      | false =>
       rw [if_neg Bool.false_ne_true]
       refine ⟨xs.length-(i+1),by omega,rfl,hl,hD5,⟨ι5.refs,ι'.priv⟩,h5,vs,gG5,x5,eι▸S5,eι▸er5,eι▸rv5,nD5,q'⟩
      | true =>
       rw [if_pos rfl]
       refine ⟨ι5,h5,_,S5,(ER.comp er3 r3).mono g5,?_⟩
       dsimp only at q'
       cases ee:ce (some xs[i]::(jf.map (·.1)).map fun j=>(en[j]?).join) h5 with
       | bad=>rw [ee] at q';exact q'
       | ex c h6=>rw [ee] at q';exact q'.elim
       | ok v h6 =>
        rw [ee] at q'
        intro ι6 H6 u6 g6 S6 r6
        have g56:=g6
        have hD6:H6 D=some (.lst ys):=g56.keep D _ nD5 hD5
        have eι6:ι6=Ix.hide ⟨ι6.refs,ι'.priv⟩ D:=by
         have h1:=g6.priv
         have h2:=g5.priv
         rw [h2] at h1
         cases ι6
         simp only at h1
         subst h1
         rfl
        have nD6:D∉ι6.refs:=g56.outR nD5 hD5
        have gG6:Grow ι1 H1 ⟨ι6.refs,ι'.priv⟩ (upd H6 D (.lst (ys++[u6]))):=by
         obtain ⟨n,en1,hn⟩:=gG5.pre
         obtain ⟨k,ek,hk⟩:=g56.pre
         have hD1:∀ a o,H1 a=some o->a≠D:=fun a o ea=>zav ea hD
         refine ⟨⟨n++k,?_,fun a ha=>?_⟩,g'.priv,fun a o na ea=>?_,fun a ha=>?_⟩
         ·show ι6.refs=_;rw [ek];have z:ι5.refs=ι1.refs++n:=en1;rw [z];simp
         ·rcases List.mem_append.mp ha with z | z
          ·exact hn a z
          ·have z2:=hk a z
           by_cases hr:a∈ι1.refs
           ·exact absurd z2 (gG5.live a (List.mem_append_left _ hr))
           ·cases e9:H1 a with
            | none=>rfl
            | some o=>rw [gG5.keep a o hr e9] at z2;cases z2
         ·rw [yaC (hD1 a o ea)]
          exact g56.keep a o (gG5.outR na ea) (gG5.keep a o na ea)
         ·by_cases zD:a=D
          ·subst zD;rw [zat];simp
          ·rw [yaC zD]
           have:a∈ι5.all:=by
            rcases List.mem_append.mp ha with z | z
            ·exact List.mem_append_left _ (by have z':ι5.refs=ι1.refs++n:=en1;rw [z'];exact List.mem_append_left _ z)
            ·rw [eι];exact List.mem_append_right _ (List.mem_cons_of_mem _ (by show a∈ι'.priv;rw [g'.priv];exact z))
           exact g56.live a this
        refine ⟨hD6,xs.length-(i+1),by omega,rfl,hl,zat,⟨ι6.refs,ι'.priv⟩,h6,vs++[v],gG6,?_,?_,?_,?_,nD6,q'⟩
        ·exact (eι6▸(x'.trans (g35.ext.trans g6.ext))).trans Ext.poke
        ·exact Sim.poke (eι6▸S6) nD6
        ·exact ER.ext (eι6▸er5.mono g6) Ext.poke
        ·have:RVs T ι6 H6 (vs++[v]) (ys++[u6]):=(rv5.mono g6).append (.cons r6 .nil)
         exact RVs.ext Ext.poke (eι6▸this)
    ·rw [if_neg hs] at q';exact q'.elim
   ·have ei:i=xs.length:=by omega
    subst ei
    rw [List.drop_length] at q'
    unfold yaQ at q'
    by_cases hs:ybx w xs h'=true
    ·rw [if_pos hs] at q'
     have hp:D∉ι'.priv:=fun z=>by rw [g'.priv] at z;exact S1.plive D z hD
     refine .inl ⟨IR.stop _ _ h' H2 x' S' hs (Nat.le_refl _),q' ι' H2 D ys (g1.trans g') S' rv' hH2 (fun z=>(List.mem_append.mp z).elim nD' hp) fun n en1 a ha=>?_⟩
     obtain ⟨k,ek,hk⟩:=(g1.trans g').pre
     have:n=k:=List.append_cancel_left (en1.symm.trans ek)
     subst this
     rcases List.mem_append.mp ha with z | z
     ·exact hk a z
     ·have z':a=D:=by simpa using z
      subst z'
      cases e9:H a with
      | none=>rfl
      | some o =>
       by_cases hr:a∈ι.refs
       ·have z1:a∈ι1.refs:=by
         obtain ⟨k1,ek1,_⟩:=g1.pre
         rw [ek1];exact List.mem_append_left _ hr
        exact absurd hD (S1.live a (List.mem_append_left _ z1))
       ·rw [g1.keep a o hr e9] at hD;cases hD
    ·rw [if_neg hs] at q';exact q'.elim
end
end Sm
namespace Sm
open PySem PySem.Spec L2
section
variable {T:Tb} {E:St->XK} {X:Cx} {pos px:Pos} {iter elt:Expr} {ifs:List Expr} {scope:Scope} {x₁:Str} {jf:List (Nat×Str)} {it:SI} {cc:SB} {ce:SE}
theorem zfM {σ:St} {H:Hp} {Q:VK} (q:tE T E (yby (jf.map (·.1)) it cc ce) σ H Q):yex jf (tI T it) (tT T EN cc) (tE T EN ce) σ H Q:=by
 obtain ⟨ι,h,en,S,er,q⟩:=q
 refine zjn S er ?_
 unfold yby at q
 cases e:it en h with
 | bad=>rw [e] at q;exact q
 | ex c h1=>rw [e] at q;exact q.elim
 | ok p h1 =>
  obtain ⟨xs,w⟩:=p
  rw [e] at q
  dsimp only at q ⊢
  cases e2:yaQ (jf.map (·.1)) en w xs cc ce xs [] h1 with
  | bad=>rw [e2] at q;exact q
  | ex c h1=>rw [e2] at q;exact q.elim
  | ok ys h2 =>
   rw [e2] at q
   exact fun ι' H' D vs g S' r hD nD _=>q ι' H' _ g S'.show (.fl nD (.inl hD) (r.ext Ext.show))
theorem zbh:PTs X [] (tT T E sYes):=fun pins s σ H Q I ⟨ι,h,en,S,er,q⟩=>zi6 pins s σ H Q I (q.now S rfl)
theorem zjo {c:Expr} (hc:PTA T E X c cc):PTs X [c] (tT T E cc):=zi7 hc
structure CompOk (X:Cx) (x₁:Str) (jf:List (Nat×Str)) (scope:Scope):Prop where
 hN:(x₁::jf.map (·.2)).Nodup
 hx:scope.names.lookup x₁=some .local
 hjf:∀ p∈jf,X.N[p.1]? = some p.2
 hjl:∀ p∈jf,scope.names.lookup p.2=some .free
 hkind:scope.kind = .function
 hcell:∀ y∈scope.names,y.2 ≠ .cell
 hfr:∀ y∈scope.names,y.2 = .free->X.env.kindOf y.1=some .cell\/X.env.kindOf y.1=some .free
 hnames:∀ y∈scope.names,y.2 = .local->scope.names.lookup y.1=some .local
theorem ye1 (C:CompOk X x₁ jf scope) (hcalm:X.calm=true) (hi:PIA T X (.Name x₁ px) iter it) (hc:∀ pins cl s H fp,PTs (ya5 X pins x₁ jf scope cl s H fp) ifs (tT T EN cc)) (he:∀ pins cl s H fp,PEA T EN (ya5 X pins x₁ jf scope cl s H fp) elt ce)
  (hs:∀ x,foldedSetIterable iter X.env x=pure x:=by intro _;rfl):PEA T E X (.ListComp elt [⟨.Name x₁ px,iter,ifs,0⟩] scope pos) (yby (jf.map (·.1)) it cc ce) :=
 yaV (zi8 hcalm hi hc he C.hN C.hx C.hjf C.hjl C.hkind C.hcell C.hfr C.hnames hs) fun _ _ _ q=>zfM q
theorem zjp {y:Str} {py spos:Pos} {i:Nat} (C:CompOk X x₁ jf scope) (hcalm:X.calm=true) (hi:PIA T X (.Name x₁ px) iter it) (hc:∀ pins cl s H fp,PTs (ya5 X pins x₁ jf scope cl s H fp) ifs (tT T EN cc)) (he:∀ pins cl s H fp,PEA T EN (ya5 X pins x₁ jf scope cl s H fp) elt ce)
  (hNX:X.N.Nodup) (hi':X.N[i]? = some y:=by rfl) (hy:X.env.scope.names.lookup y=some .local:=by rfl) (hsw:swapsWith (.ListComp elt [⟨.Name x₁ px,iter,ifs,0⟩] scope pos) (some (.Name y py)) spos.line X.env=pure true:=by rfl) (hs:∀ x,foldedSetIterable iter X.env x=pure x:=by intro _;rfl) :
  PSA T E X (.Assign [.Name y py] (.ListComp elt [⟨.Name x₁ px,iter,ifs,0⟩] scope pos) spos) (sSet i (yby (jf.map (·.1)) it cc ce)) :=
 yb6 (zi9 hcalm hi hc he C.hN C.hx C.hjf C.hjl C.hkind C.hcell C.hfr C.hnames hNX hi' hy hsw hs) fun D σ H q=>zfM (yfC q)
end
def spA (T:Tb) (F:Fn):Sp:=fun vs H Q E=>∃ ι h args,Sim T ι h H/\RVs T ι H args vs/\Post T ι H E (RV T) (F args h) Q
def yh1 (F:Fn) (n:Nat):Prop:=∀ args h,args.length≠n->F args h = .bad
theorem zdj (n m:Nat) (b:SS):yh1 (mkFn n m b) n:=fun args h hl=>by
 unfold mkFn
 rw [if_neg hl]
theorem okA {P:Program} {w:World} {K:PySem.W.Frag} {mg:Str->Option Value} {base:Heap} {T:Tb} {x qual:Str} {st:Stmt} {f:Addr} {fd:FuncData} {N ps:List Str} {k:Nat} {b:SS} (F:Fun K x qual st f fd) (hK:K=T.K) (S:FnScope N ps (yah st))
  (hbody:∀ (cdv:Value) (A:Around) (outer:List Env) (s:Shared) (H:Hp) (E:XK),Room k (A.deeper (PyProof.Rows.envOfC qual (yah st) s.heap.objs.size f cdv))->CA T (fun _=>E) (cxOf (CXE P w) P w K mg base N qual (yah st) f cdv A outer s H E) ->
   PSsA T (fun _=>E) (cxOf (CXE P w) P w K mg base N qual (yah st) f cdv A outer s H E) (ycb st) b):FnOk P w K mg base (CXE P w) (k+1) f fd ps (spA T (mkFn ps.length N.length b)):=by
 refine F.okE S (fun vs H Q E h=>?_) (fun cdv A outer s H vs Q E hr h=>?_)
 ·obtain ⟨ι,h,args,_,r,q⟩:=h
  by_cases hl:args.length=ps.length
  ·rw [<- hl,r.length]
  ·rw [zdj _ _ _ args h hl] at q;exact q.elim
 ·obtain ⟨ι,h,args,Si,r,q⟩:=h
  refine ⟨_,hbody cdv A outer s H E hr ⟨hK,zjb⟩,ι,h,args.map some++List.replicate (N.length-ps.length) none,Si,?_,?_⟩
  ·by_cases hl:args.length=ps.length
   ·refine ⟨by simp [L2.start,r.length,<- hl],fun i v e=>?_⟩
    unfold L2.start
    by_cases hi:i<args.length
    ·rw [List.getElem?_append_left (by simpa using hi),List.getElem?_map] at e
     rw [List.getElem?_append_left (by simpa [<- r.length] using hi),List.getElem?_map]
     obtain ⟨x,e1,e2⟩:=Option.map_eq_some_iff.mp e
     cases e2
     obtain ⟨u,e3,r3⟩:=r.get e1
     exact ⟨u,by rw [e3];rfl,r3⟩
    ·rw [List.getElem?_append_right (by simpa using hi),List.getElem?_replicate] at e
     split at e
     ·cases e
     ·cases e
   ·rw [zdj _ _ _ args h hl] at q;exact q.elim
  ·unfold mkFn at q
   split at q
   ·split at q
    ·rename_i e1 h1 he
     rw [he]
     exact fun ι' H' σ' g S' er=>q ι' H' _ g S' .non
    ·rename_i v h1 he
     rw [he]
     exact q
    ·rename_i c e1 h1 he
     rw [he]
     exact fun ι' H' σ' C g S' er ec=>q ι' H' C g S' ec
    ·exact q.elim
   ·exact q.elim
structure GF (P:Program) (w:World) (T:Tb) (mg:Str->Option Value) (base:Heap) (k:Nat) (x:Str) (F:Fn):Prop where
 ex:∃ f fd ps,mg x=some (.ref f)/\PySem.W.keepIn T.K (.ref f)=true/\Binds T.K fd ps []/\FnOk P w T.K mg base (CXE P w) k f fd ps (spA T F)
structure GM (P:Program) (w:World) (T:Tb) (mg:Str->Option Value) (base:Heap) (k:Nat) (c:Nat) (m:Str) (F:Fn):Prop where
 ex:∃ C f fd ps,T.cls c=some C/\Cls T.K C/\Meth T.K C m f/\Binds T.K fd ps []/\FnOk P w T.K mg base (CXE P w) k f fd ps (spA T F)
 no:m∉T.fields c
section
variable {T:Tb} {E:St->XK} {X:Cx} {pos p apos:Pos} {e o a:Expr} {es:List Expr} {x m:Str} {F:Fn} {k c:Nat} {as:SL} {so sa:SE}
theorem yai (hK:X.K=T.K) (C:CA T E X) (G:GF X.prog X.w T X.mg X.base k x F) (hr:Room k X.A) (hg:Gl X x) (ha:PAA T E X (e::es) as) (hdb:(x == ("__debug__" : Str))=false:=by decide)
  (he:starEach (e::es) X.env=(false,eval e X.env)::starEach es X.env:=by rfl) (hpl:(backTo pos (starEach es X.env)).any (·.1)=false:=by rfl):PEA T E X (.Call (.Name x p) (e::es) [] pos) (yae F as):=by
 obtain ⟨f,fd,ps,h1,h2,h3,h4⟩:=G.ex
 refine yaV (zh6 (Ex:=E) (dvs:=[]) (hK▸h4) hr hg h1 (hK▸h2) (hK▸h3) .nil C.pass ha hdb he hpl) fun σ H Q ⟨ι,h,en,S,er,q⟩=>⟨ι,h,en,S,er,q.bind fun xs h1 ι1 H1 us g1 S1 r1 q1=>?_⟩
 rw [List.append_nil]
 exact ⟨ι1,h1,xs,S1,r1,q1⟩
theorem zfN {C:Addr} {σ:St} {H:Hp} {Q:VK} (hc:T.cls c=some C) (no:m∉T.fields c) (q:tE T E (yam c F so as) σ H Q):yfw C m (spA T F) [] E (tE T E so) (tA T E as) σ H Q:=by
 obtain ⟨ι,h,en,S,er,q⟩:=q
 refine ⟨ι,h,en,S,er,q.bind fun x h1 ι1 H1 u g1 S1 r1 q1=>?_⟩
 split at q1
 ·rename_i n
  split at q1
  ·rename_i c' fs hn
   split at q1
   ·rename_i ec
    subst ec
    cases r1 with
    | @ref _ a hr =>
     obtain ⟨o,e1,C',dx,fus,hC,rfl,nd,hw,hl,_⟩:=S1.obj n _ a hn hr
     rw [hc] at hC;cases hC
     refine ⟨a,dx,fus,rfl,e1,?_,ι1,h1,en,S1,er.mono g1,q1.bind fun xs h2 ι2 H2 us g2 S2 r2 q2=>?_⟩
     ·cases e:fus.lookup m with
      | none=>rfl
      | some v =>
       have:=PySem.mem_of_lookup e
       exact absurd (hw _ this) no
     ·rw [List.append_nil]
      exact ⟨ι2,h2,.ref n::xs,S2,.cons (.ref (g2.at hr)) r2,q2⟩
   ·exact q1.elim
  ·exact q1.elim
 ·exact q1.elim
theorem yal {pl:Sem Bool} (hK:X.K=T.K) (CC:CA T E X) (G:GM X.prog X.w T X.mg X.base k c m F) (hr:Room k X.A) (ho:PEA T E X o so) (ha:PAA T E X (e::es) as)
  (hst:starEach (e::es) X.env=(false,eval e X.env)::starEach es X.env:=by rfl) (hpl:(backTo pos (starEach es X.env)).any (·.1)=false:=by rfl)
  (ht:eval (.Call (.Attribute o m apos) (e::es) [] pos) X.env=(do
   let ov <- eval o X.env
   standAt apos.atName
   let (f,first) <- holding [ov] (getMethod ov m pl)
   callWith pos f first (backTo pos (starEach (e::es) X.env)) (backToKw pos (keywordEach [] X.env))):=by rfl):PEA T E X (.Call (.Attribute o m apos) (e::es) [] pos) (yam c F so as):=by
 obtain ⟨C,f,fd,ps,h1,h2,h3,h4,h5⟩:=G.ex
 exact yaV (zh7 (Ex:=E) (dvs:=[]) (pl:=pl) ho (hK▸h2) (hK▸h3) (hK▸h5) hr (hK▸h4) .nil CC.pass ha hst hpl ht) fun σ H Q q=>zfN h1 G.no q
theorem zfO {pl:Sem Bool} (hK:X.K=T.K) (CC:CA T E X) (G:GM X.prog X.w T X.mg X.base k c m F) (hr:Room k X.A) (ho:PEA T E X o so)
  (ht:eval (.Call (.Attribute o m apos) [] [] pos) X.env=(do
   let ov <- eval o X.env
   standAt apos.atName
   let (f,first) <- holding [ov] (getMethod ov m pl)
   callWith pos f first (backTo pos (starEach [] X.env)) (backToKw pos (keywordEach [] X.env))):=by rfl):PEA T E X (.Call (.Attribute o m apos) [] [] pos) (yam c F so sNil):=by
 obtain ⟨C,f,fd,ps,h1,h2,h3,h4,h5⟩:=G.ex
 intro pins s σ H Q I q
 have q' := zfN (C:=C) h1 G.no q
 refine PySem.W.methodCall_KW (pl:=pl) (thn (ho pins s σ H _ I q') fun u s1 ⟨x,H1,I1,rx,a,dx,fs,ex,ea,l,q⟩=>?_) ht
 subst ex
 obtain rfl:u=Value.ref a:=rx
 refine zde I1 ea (hK▸h2) (hK▸h3) l ?_
 obtain ⟨ι,h,en,S,er,q⟩:=q
 refine PySem.W.callWith_K0 (first:=[.ref a]) I1.kIn (hK▸h3.kp) (zdx (dvs:=[]) (us:=[.ref a]) (vs:=[.ref a]) (hK▸h5) hr (hK▸h4) .nil CC.pass I1 (.cons rfl .nil) (q.now S .nil))
structure CF (T:Tb) (c:Nat):Prop where
 ex:∃ C,T.cls c=some C/\Cls T.K C/\∀ f∈T.fields c,NoAttr T.K C f
structure GK (P:Program) (w:World) (T:Tb) (mg:Str->Option Value) (base:Heap) (k:Nat) (c:Nat) (x:Str) (F:Fn):Prop where
 ex:∃ C f fd ps,T.cls c=some C/\mg x=some (.ref C)/\Mk T.K C f/\Binds T.K fd ps []/\FnOk P w T.K mg base (CXE P w) k f fd ps (spA T F)
theorem zhi {CX:CXT} {C f:Addr} {fd:FuncData} {ps:List Str} {sp:Sp} {dvs:List V} {ds:List Value} {pins:List (Addr×Obj)} {σ:St} {H:Hp} {s:Shared} {Q:VK} {us:List Value} {vs:List V} (M:Mk X.K C f) (F:FnOk X.prog X.w X.K X.mg X.base CX k f fd ps sp) (hr:Room (k+1) X.A) (hb:Binds X.K fd ps ds) (hd:Vals dvs ds)
  (hx:ydO CX X E) (I:L2.Inv X pins σ H s) (r:Vals vs us)
  (h:∀ x dx,H x=none->H dx=none->dx≠x->sp (.ref x::(vs++dvs)) (upd (upd H dx (.own x)) x (.ins C dx [])) (fun v H2=>v = .non/\Q (.ref x) H2) (E σ)) :
  wpAny (model X.prog X.w) X.A (call (.ref C) us) (EP X pins σ Q) X.xe s:=by
 have hq:=h (s.heap.objs.size+1) s.heap.objs.size (I.hok.fresh (Nat.le_succ _)) (I.hok.fresh (Nat.le_refl _)) (Nat.ne_of_lt (Nat.lt_succ_self _))
 have I2:=Inv.made (C:=C) I
 have r2:Vals (V.ref (s.heap.objs.size+1)::(vs++dvs)) (Value.ref (s.heap.objs.size+1)::(us++ds)):=.cons rfl (r.append hd)
 have hl:(Value.ref (s.heap.objs.size+1)::us++ds).length=ps.length:=by
  have e:=r2.length
  rw [F.len _ _ _ _ hq] at e
  exact e.symm
 refine wpAny_call (zhP (f:=f) I.kIn M.makes M.init (beq_iff_eq.mp M.fn) (codeAny_mono (F.run _ X.stack _ _ ⟨Value.ref (s.heap.objs.size+1)::us,[]⟩ (Value.ref (s.heap.objs.size+1)::(us++ds)) _ _ (E σ) (hr.make C us [])
  (I2.env0.make C us []) (hb _ (Value.ref (s.heap.objs.size+1)::us) I2.kIn hl) r2 hq) fun r s' hq' => ?_))
 cases r with
 | error e=>exact hx pins σ _ _ e s' I2 hq'
 | ok fl =>
  cases fl with
  | ret u =>
   obtain ⟨v,H',I3,rv,ev,q3⟩:=I2.after hq'
   subst ev
   exact ⟨rv,⟨V.ref (s.heap.objs.size+1),H',I3,rfl,q3⟩⟩
  | next=>exact False.elim hq'
  | brk=>exact False.elim hq'
  | cont=>exact False.elim hq'
theorem zjq {C:Addr} {xs:List AV} {us:List V} {H:Hp} {Q:VK} {ι:Ix} {h:AH} {E:XK} {n:Nat} (hc:T.cls c=some C) (hn:(T.fields c).length=n) (S:Sim T ι h H) (r:RVs T ι H xs us)
  (q:Post T ι H E (RV T) (match F (.ref h.length::xs) (h++[.ins c (List.replicate n none)]) with | .ok .non h2=>Out.ok (AV.ref h.length) h2 | .ex c h2=>.ex c h2 | _=>.bad) Q) :
  ∀ x dx,H x=none->H dx=none->dx≠x->spA T F (.ref x::us) (upd (upd H dx (.own x)) x (.ins C dx [])) (fun v H2=>v = .non/\Q (.ref x) H2) E:=by
 intro x dx nx ndx ne
 have nx':(upd H dx (.own x)) x=none:=by rw [yaC (Ne.symm ne)];exact nx
 have S1:=S.new (o:=.own x) ndx
 have g1:=S.growNew (o:=.own x) ndx
 have g2:=S1.growAdd (u:=.ins C dx []) nx'
 have S2:Sim T (ι.add x) (h++[.ins c (List.replicate n none)]) (upd (upd H dx (.own x)) x (.ins C dx [])):=S1.add nx' ⟨C,dx,[],hc,rfl,by simp,by simp,by simp [hn],fun i v e=>by
  rw [List.getElem?_replicate] at e
  split at e
  ·cases e
  ·cases e⟩
 refine ⟨ι.add x,_,.ref h.length::xs,S2,.cons (.ref S.addAt) (r.mono (g1.trans g2)),?_⟩
 have q2:=q.shift (g1.trans g2)
 cases e:F (.ref h.length::xs) (h++[.ins c (List.replicate n none)]) with
 | bad=>rw [e] at q2;exact q2
 | ex c' h2=>rw [e] at q2;exact q2
 | ok v h2 =>
  rw [e] at q2
  cases v with
  | non=>exact fun ι' H' u g S' r' => ⟨ye0 r',q2 ι' H' _ g S' (.ref (g.at S.addAt))⟩
  | _=>exact (show False from q2).elim
theorem zjr {n:Nat} (hK:X.K=T.K) (CC:CA T E X) (G:GK X.prog X.w T X.mg X.base k c x F) (hr:Room (k+1) X.A) (hg:Gl X x) (hn:(T.fields c).length=n:=by rfl) (hdb:(x == ("__debug__" : Str))=false:=by decide):PEA T E X (.Call (.Name x p) [] [] pos) (yeR c n F sNil):=by
 obtain ⟨C,f,fd,ps,h1,h2,h3,h4,h5⟩:=G.ex
 intro pins s σ H Q I ⟨ι,h,en,S,er,q⟩
 refine wpAny_Call_Name_kw (zcj I hg h2 ?_ hdb)
 have M:Mk X.K C f:=hK▸h3
 exact PySem.W.callWith_K0 I.kIn M.kp (zhi (us:=[]) (vs:=[]) (dvs:=[]) M (hK▸h5) hr (hK▸h4) .nil CC.pass I .nil (zjq h1 hn S .nil q))
theorem yaM {i:Nat} {f:Str} (hK:X.K=T.K) (CFc:CF T c) (ho:PEA T E X o so) (hf:(T.fields c)[i]? = some f:=by rfl) (hb:attributeBase o f X.env (eval o X.env)=eval o X.env:=by rfl):PEA T E X (.Attribute o f pos) (Sm.sFld c i so):=by
 obtain ⟨C,hC,hcl,hna⟩:=CFc.ex
 refine yaV (ygA ho hb) fun σ H Q ⟨ι,h,en,S,er,q⟩=>⟨ι,h,en,S,er,q.bind fun x h1 ι1 H1 u g1 S1 r1 q1=>?_⟩
 split at q1
 ·rename_i n
  split at q1
  ·rename_i c' fs hn
   split at q1
   ·rename_i ec
    subst ec
    split at q1
    ·rename_i v hv
     cases r1 with
     | @ref _ a hr =>
      obtain ⟨o,e1,C',dx,fus,hC',rfl,nd,hw,hl,hr2⟩:=S1.obj n _ a hn hr
      rw [hC] at hC';cases hC'
      obtain ⟨f',u,e2,e3,r3⟩:=hr2 i v hv
      rw [hf] at e2;cases e2
      exact ⟨a,_,dx,fus,u,rfl,e1,hK▸hcl,hK▸hna f (List.mem_of_getElem? hf),e3,q1.now S1 r3⟩
    ·exact q1.elim
   ·exact q1.elim
  ·exact q1.elim
 ·exact q1.elim
theorem zd0 (f:Str) (v:V):∀ {fs:List (Str×V)},(fs.map (·.1)).Nodup->((putF f v fs).map (·.1)).Nodup/\∀ g,g∈(putF f v fs).map (·.1)->g=f\/g∈fs.map (·.1)
 | [],_=>by simp [putF]
 | (g,x)::r,n=>by
  obtain ⟨n1,n2⟩:=List.nodup_cons.mp (show (g::r.map (·.1)).Nodup from n)
  unfold putF
  split
  ·rename_i e
   subst e
   exact ⟨n,fun k hk=>.inr hk⟩
  ·rename_i e
   obtain ⟨h1,h2⟩:=zd0 f v (fs:=r) n2
   refine ⟨List.nodup_cons.mpr ⟨fun z=>?_,h1⟩,fun k hk=>?_⟩
   ·rcases h2 g z with z | z
    ·exact e z
    ·exact n1 z
   ·rcases List.mem_cons.mp hk with z | z
    ·exact .inr (by rw [z];simp)
    ·rcases h2 k z with z | z
     ·exact .inl z
     ·exact .inr (List.mem_cons_of_mem _ z)
theorem zeH:∀ {l m:List Str},l.Nodup->(∀ x∈l,x∈m)->l.length<=m.length
 | [],m,_,_=>Nat.zero_le _
 | x::l,m,n,h=>by
  obtain ⟨n1,n2⟩:=List.nodup_cons.mp n
  have hx:=h x (by simp)
  have:=zeH (l:=l) (m:=m.erase x) n2 fun y hy=>by
   have ne:y≠x:=fun z=>n1 (z▸hy)
   exact (List.mem_erase_of_ne ne).mpr (h y (by simp [hy]))
  rw [List.length_erase_of_mem hx] at this
  have:0<m.length:=List.length_pos_of_mem hx
  simp only [List.length_cons]
  lia
theorem zaN {i:Nat} {f:Str} {p':Pos} (hK:X.K=T.K) (CFc:CF T c) (ho:PEA T E X o so) (ha:PEA T E X a sa) (hf:(T.fields c)[i]? = some f:=by rfl) (hs:swapsWith a (some (.Attribute o f p')) pos.line X.env=pure false:=by rfl) :
  PSA T E X (.Assign [.Attribute o f p'] a pos) (ycp c i so sa):=by
 obtain ⟨C,hC,hcl,hna⟩:=CFc.ex
 refine yb6 (ygB ho ha hs) fun D σ H ⟨ι,h,en,S,er,q⟩=>⟨ι,h,en,S,er,q.go er fun y h1 ι1 H1 v g1 S1 r1 q1=>⟨ι1,h1,en,S1,er.mono g1,q1.go (er.mono g1) fun x h2 ι2 H2 u g2 S2 r2 q2=>?_⟩⟩
 split at q2
 ·rename_i n
  split at q2
  ·rename_i c' fs hn
   split at q2
   ·rename_i ec
    subst ec
    cases r2 with
    | @ref _ a hr =>
     obtain ⟨o,e1,C',dx,fus,hC',rfl,nd,hw,hl,hr2⟩:=S2.obj n _ a hn hr
     rw [hC] at hC';cases hC'
     have hmem:f∈T.fields c' := List.mem_of_getElem? hf
     have hlen:fus.length<1000:=by
      have:=zeH nd (m:=T.fields c') (fun x hx=>by
       obtain ⟨p,hp,rfl⟩:=List.mem_map.mp hx
       exact hw p hp)
      have:=T.few c'
      rw [List.length_map] at *
      lia
     obtain ⟨k1,k2⟩:=zd0 f v nd
     have g3:=S2.growSet (u:=.ins C dx (putF f v fus)) hr
     refine ⟨a,C,dx,fus,rfl,e1,hK▸hcl,hK▸hna f hmem,hlen,q2 ι2 _ σ g3 (S2.set hr ⟨C,dx,putF f v fus,hC,rfl,k1,fun p hp=>?_,by simp [hl],fun j w hj=>?_⟩) (er.mono (g1.trans (g2.trans g3)))⟩
     ·rcases k2 p.1 (List.mem_map.mpr ⟨p,hp,rfl⟩) with z | z
      ·rw [z];exact hmem
      ·obtain ⟨p',hp',e⟩:=List.mem_map.mp z
       rw [<- e];exact hw p' hp'
     ·by_cases hji:j=i
      ·subst hji
       have hjl:j<fs.length:=by
        have:=(List.getElem?_eq_some_iff.mp hj).1
        simpa using this
       rw [List.getElem?_set_self hjl] at hj
       cases hj
       exact ⟨f,v,hf,by rw [za8,if_pos rfl],r1.mono (g2.trans g3)⟩
      ·rw [List.getElem?_set_ne (Ne.symm hji)] at hj
       obtain ⟨f',u,e2,e3,r3⟩:=hr2 j w hj
       have ne:f'≠f:=fun z=>hji (zcP (T.nd c') e2 (z▸hf))
       exact ⟨f',u,e2,by rw [za8,if_neg ne];exact e3,r3.mono g3⟩
   ·exact (show False from q2).elim
  ·exact (show False from q2).elim
 ·exact (show False from q2).elim
end
end Sm
namespace Sm
open PySem PySem.Spec L2
theorem yff {T:Tb} {ι:Ix} {H:Hp} {k:Key} {u:V} (r:RV T ι H (kA k) u):u=kV k:=by
 cases k with
 | inl i=>exact yaG r
 | inr x=>exact (ya8 r).1
theorem ye2 {k j:Key} (e:kA k=kA j):k=j:=by
 cases k<;>cases j<;>simp [kA] at e<;>simp [e]
theorem zdA:∀ {ks js:List Key},ks.map kA=js.map kA->ks=js
 | [],[],_=>rfl
 | [],_::_,e=>by simp at e
 | _::_,[],e=>by simp at e
 | k::ks,j::js,e=>by
  simp only [List.map_cons,List.cons.injEq] at e
  rw [ye2 e.1,zdA e.2]
theorem yfE {T:Tb} {ι:Ix} {H:Hp}:∀ {ks:List Key} {us:List V},RVs T ι H (ks.map kA) us->us=ks.map kV
 | [],_,.nil=>rfl
 | k::ks,_,.cons r rs=>by rw [yff r,yfE rs];rfl
theorem zbD {v:AV} {k:Key} (e:keyOf? v=some k):v=kA k:=by
 unfold keyOf? at e
 split at e<;>cases e<;>rfl
theorem za9:∀ {vs:List AV} {ks:List Key},keysOf? vs=some ks->vs=ks.map kA
 | [],_,e=>by cases e;rfl
 | v::vs,ks,e=>by
  unfold keysOf? at e
  split at e
  ·rename_i k ks' e1 e2
   cases e
   rw [zbD e1,za9 e2];rfl
  ·cases e
theorem yeC {κ:Type} [DecidableEq κ] {T:Tb} {ι:Ix} {H:Hp} {f:κ->AV} (hf:∀ {a b},f a=f b->a=b) {k:κ}:∀ {kvs:List (AV×AV)} {kus:List (κ×V)},Paired (fun (p:AV×AV) (q:κ×V)=>p.1=f q.1/\RV T ι H p.2 q.2) kvs kus ->
  (valA kvs (f k)=none/\valV kus k=none)\/∃ v u,valA kvs (f k)=some v/\valV kus k=some u/\RV T ι H v u
 | _,_,.nil=>.inl ⟨rfl,rfl⟩
 | (a,v)::kvs,(j,u)::kus,.cons ⟨e,r⟩ rs=>by
  by_cases h:j=k
  ·subst h
   replace e:a=f j:=e
   subst e
   exact .inr ⟨v,u,by simp [valA],zbB rfl,r⟩
  ·have h' : ¬ a=f k:=fun z=>h (hf (e.symm.trans z))
   rcases yeC hf rs (k:=k) with ⟨h1,h2⟩ | ⟨v',u',h1,h2,h3⟩
   ·refine .inl ⟨?_,by rw [zbk h];exact h2⟩
    unfold valA at h1 ⊢
    rw [List.find?_cons,decide_eq_false h']
    exact h1
   ·refine .inr ⟨v',u',?_,by rw [zbk h];exact h2,h3⟩
    unfold valA at h1 ⊢
    rw [List.find?_cons,decide_eq_false h']
    exact h1
theorem zfP {kvs:List (AV×AV)} {k:AV}:(kvs.any fun p=>decide (p.1=k))=(valA kvs k).isSome:=by
 induction kvs with
 | nil=>rfl
 | cons p r ih =>
  unfold valA at ih ⊢
  rw [List.any_cons,List.find?_cons,ih]
  cases h:decide (p.1=k)<;>simp
theorem yfF {κ:Type} [DecidableEq κ] {T:Tb} {ι:Ix} {H:Hp} {f:κ->AV} (hf:∀ {a b},f a=f b->a=b) {k:κ} {v:AV} {u:V} (rv:RV T ι H v u) {kvs:List (AV×AV)} {kus:List (κ×V)} (r:Paired (fun (p:AV×AV) (q:κ×V)=>p.1=f q.1/\RV T ι H p.2 q.2) kvs kus) :
  Paired (fun (p:AV×AV) (q:κ×V)=>p.1=f q.1/\RV T ι H p.2 q.2) (putA kvs (f k) v) (putK kus k u):=by
 have e:(kvs.any fun p=>decide (p.1=f k))=kus.any fun kv=>decide (kv.1=k):=by
  rw [zfP,zcT]
  rcases yeC hf r (k:=k) with ⟨h1,h2⟩ | ⟨v',u',h1,h2,h3⟩
  ·rw [h1,h2];rfl
  ·rw [h1,h2];rfl
 unfold putA putK
 rw [e]
 by_cases h:(kus.any fun kv=>decide (kv.1=k))=true
 ·rw [if_pos h,if_pos h]
  clear e h
  induction r with
  | nil=>exact .nil
  | cons p rs ih =>
   rename_i a b l1 l2
   refine .cons ?_ ih
   obtain ⟨e1,r1⟩:=p
   dsimp only
   by_cases hk:b.1=k
   ·rw [if_pos hk,if_pos (by rw [e1,hk])]
    exact ⟨e1,rv⟩
   ·rw [if_neg hk,if_neg (fun z=>hk (hf (e1.symm.trans z)))]
    exact ⟨e1,r1⟩
 ·rw [if_neg h,if_neg h]
  have app:∀ {l1:List (AV×AV)} {l2:List (κ×V)},Paired (fun (p:AV×AV) (q:κ×V)=>p.1=f q.1/\RV T ι H p.2 q.2) l1 l2->Paired (fun (p:AV×AV) (q:κ×V)=>p.1=f q.1/\RV T ι H p.2 q.2) (l1++[(f k,v)]) (l2++[(k,u)]):=fun z=>by
   induction z with
   | nil=>exact .cons ⟨rfl,rv⟩ .nil
   | cons p _ ih=>exact .cons p ih
  exact app r
section
variable {T:Tb} {ι:Ix} {h:AH} {H:Hp}
theorem keyT {xs:List AV} {u:V} {ks:List Key} (r:RV T ι H (.tup xs) u) (e:keysOf? xs=some ks):∃ b,u = .ref b/\KTup H b ks:=by
 have:=za9 e
 subst this
 cases r with
 | tup n q r=>exact ⟨_,rfl,.of (by rw [<- yfE r];exact q)⟩
theorem zfQ {n:Nat} {t:Bool} {kvs:List (AV×AV)} {y:AV} {a:Addr} {w:V} (S:Sim T ι h H) (hn:h[n]? = some (.dct t kvs)) (hr:ι.refs[n]? = some a) (ry:RV T ι H y w) (hk:ydd t y=true) :
  ∃ o,DGet H a w o/\((valA kvs y=none/\o=none)\/∃ v u,valA kvs y=some v/\o=some u/\RV T ι H v u):=by
 obtain ⟨ob,e1,r⟩:=S.obj n _ a hn hr
 cases t with
 | false =>
  obtain ⟨kus,rfl,r⟩:=r
  have hk':(keyOf? y).isSome=true:=hk
  obtain ⟨k,ek⟩:=Option.isSome_iff_exists.mp hk'
  have:=zbD ek
  subst this
  rw [yff ry]
  refine ⟨valV kus k,.k e1,?_⟩
  rcases yeC ye2 r (k:=k) with ⟨h1,h2⟩ | ⟨v',u',h1,h2,h3⟩
  ·exact .inl ⟨h1,h2⟩
  ·exact .inr ⟨v',u',h1,h2,h3⟩
 | true =>
  obtain ⟨kus,rfl,r⟩:=r
  unfold ydd at hk
  split at hk
  ·rename_i hh;cases hh
  ·rename_i xs hh
   obtain ⟨ks,ek⟩:=Option.isSome_iff_exists.mp hk
   obtain ⟨b,rfl,hb⟩:=keyT ry ek
   have:=za9 ek
   subst this
   refine ⟨valV kus ks,.t e1 hb,?_⟩
   rcases yeC (f:=fun ks:List Key=>AV.tup (ks.map kA)) (fun e=>zdA (by injection e)) r (k:=ks) with ⟨h1,h2⟩ | ⟨v',u',h1,h2,h3⟩
   ·exact .inl ⟨h1,h2⟩
   ·exact .inr ⟨v',u',h1,h2,h3⟩
  ·cases hk
theorem zjs {n:Nat} {t:Bool} {kvs:List (AV×AV)} {y z:AV} {a:Addr} {w u:V} (S:Sim T ι h H) (hn:h[n]? = some (.dct t kvs)) (hr:ι.refs[n]? = some a) (ry:RV T ι H y w) (rz:RV T ι H z u) (hk:ydd t y=true) (hl:kvs.length<sizeLine) :
  ∃ H',DPut H a w u H'/\Grow ι H ι H'/\Sim T ι (h.set n (.dct t (putA kvs y z))) H' := by
 obtain ⟨ob,e1,r⟩:=S.obj n _ a hn hr
 cases t with
 | false =>
  obtain ⟨kus,rfl,r⟩:=r
  have hk':(keyOf? y).isSome=true:=hk
  obtain ⟨k,ek⟩:=Option.isSome_iff_exists.mp hk'
  have:=zbD ek
  subst this
  rw [yff ry]
  have g:=S.growSet (u:=.dK (putK kus k u)) hr
  exact ⟨_,.k e1 (by rw [<- Paired.length r];exact hl),g,S.set hr ⟨_,rfl,yfF ye2 (rz.mono g) (Paired.mapP r fun _ _ ⟨p,q⟩=>⟨p,q.mono g⟩)⟩⟩
 | true =>
  obtain ⟨kus,rfl,r⟩:=r
  unfold ydd at hk
  split at hk
  ·rename_i hh;cases hh
  ·rename_i xs hh
   obtain ⟨ks,ek⟩:=Option.isSome_iff_exists.mp hk
   obtain ⟨b,rfl,hb⟩:=keyT ry ek
   have:=za9 ek
   subst this
   have g:=S.growSet (u:=.dT (putK kus ks u)) hr
   exact ⟨_,.t e1 hb (by rw [<- Paired.length r];exact hl),g,S.set hr ⟨_,rfl,yfF (f:=fun ks:List Key=>AV.tup (ks.map kA)) (fun e=>zdA (by injection e)) (rz.mono g) (Paired.mapP r fun _ _ ⟨p,q⟩=>⟨p,q.mono g⟩)⟩⟩
  ·cases hk
theorem RVs.atI {xs:List AV} {us:List V} {i:Int} {v:AV} (r:RVs T ι H xs us) (e:atI xs i=some v):∃ u,L2.atI us i=some u/\RV T ι H v u:=by
 unfold L2.atI at e ⊢
 rw [<- r.length]
 obtain ⟨j,e1,e2⟩:=Option.bind_eq_some_iff.mp e
 obtain ⟨u,e3,r3⟩:=r.get e2
 exact ⟨u,by rw [e1];exact e3,r3⟩
end
section
variable {T:Tb} {E:St->XK} {X:Cx} {pos:Pos} {a b c:Expr} {sa sb sc:SE}
theorem yh2 {e:Expr} {t t':TE} (h:PE X e t) (h':PE X e t'):PE X e (fun σ H Q=>t σ H Q\/t' σ H Q):=fun pins s σ H Q I q=>q.elim (h pins s σ H Q I) (h' pins s σ H Q I)
theorem yh3 {e:Stmt} {t t':TS} (h:PS X e t) (h':PS X e t'):PS X e (fun D σ H=>t D σ H\/t' D σ H):=fun pins s σ H Q I q=>q.elim (h pins s σ H Q I) (h' pins s σ H Q I)
theorem r_ix (hK:X.K=T.K) (hu:X.A.units+64<cLine) (ha:PEA T E X a sa) (hb:PEA T E X b sb) (hs:yfa b:=by exact fun _ _=>rfl):PEA T E X (.Subscript a b pos) (sOp2 fIx sa sb):=by
 refine yaV (yh2 (yhM ygF ha hb hs) (zi3 (Nat.lt_of_le_of_lt (Nat.add_le_add_left (by decide:1<=64) _) hu) ha hb hs)) fun σ H Q q=>?_
 obtain ⟨ι,h,en,S,er,q⟩:=q
 have left:(∀ x h1 y h2,sa en h = .ok x h1->sb en h1 = .ok y h2->∀ n t kvs,x = .ref n->h2[n]? = some (.dct t kvs)->False)->tOp (rIx X.K) (tE T E sa) (tE T E sb) σ H Q:=fun no=>by
  refine ⟨ι,h,en,S,er,?_⟩
  unfold sOp2 at q
  cases e1:sa en h with
  | bad=>rw [e1] at q;exact q
  | ex c h1=>rw [e1] at q;exact q
  | ok x h1 =>
   rw [e1] at q
   intro ι1 H1 u g1 S1 r1
   refine ⟨ι1,h1,en,S1,er.mono g1,?_⟩
   dsimp only [Out.bind] at q
   cases e2:sb en h1 with
   | bad=>rw [e2] at q;exact q
   | ex c h2=>rw [e2] at q;exact Post.shift (R:=RV T) (o:=.ex c h2) q g1
   | ok y h2 =>
    rw [e2] at q
    intro ι2 H2 w g2 S2 r2
    have q2:=Post.shift q (g1.trans g2)
    have r1' := r1.mono g2
    dsimp only at q2
    unfold fIx at q2
    split at q2
    ·rename_i z i
     split at q2
     ·rename_i cc hc
      obtain ⟨rfl,zl,zo⟩:=ya8 r1'
      rw [yaG r2]
      refine .inr (.inr ⟨z,i,cc,rfl,rfl,zl,hc,q2.now S2 (.str (show 1<=sizeLine by decide) ?_)⟩)
      obtain ⟨j,_,e3,_⟩:=zcm hc
      have m:cc∈z.cps:=by
       have:=List.mem_of_getElem? e3
       simpa using this
      have:=Array.all_eq_true_iff_forall_mem.mp zo _ m
      simpa using this
     ·exact q2.elim
    ·rename_i xs i
     split at q2
     ·rename_i v hv
      obtain ⟨b,us,rfl,sq,rs⟩:=yc9 r1'
      obtain ⟨u2,e3,r3⟩:=rs.atI hv
      rw [yaG r2]
      exact .inr (.inl ⟨b,us,i,u2,rfl,rfl,hK▸sq,e3,q2.now S2 r3⟩)
     ·exact q2.elim
    ·rename_i xs i
     split at q2
     ·rename_i v hv
      obtain ⟨b,us,rfl,sq,rs⟩:=ybN S2 r1' rfl
      obtain ⟨u2,e3,r3⟩:=rs.atI hv
      rw [yaG r2]
      exact .inl ⟨b,us,i,u2,rfl,rfl,hK▸sq,e3,q2.now S2 r3⟩
     ·exact q2.elim
    ·rename_i n
     split at q2
     ·rename_i xs hn
      split at q2
      ·rename_i i
       split at q2
       ·rename_i v hv
        obtain ⟨b,us,rfl,sq,rs⟩:=ybN (xs:=xs) S2 r1' (by simp [ybw,hn])
        obtain ⟨u2,e3,r3⟩:=rs.atI hv
        rw [yaG r2]
        exact .inl ⟨b,us,i,u2,rfl,rfl,hK▸sq,e3,q2.now S2 r3⟩
       ·exact q2.elim
      ·exact q2.elim
     ·rename_i t kvs hn
      exact (no _ h1 _ h2 e1 e2 n t kvs rfl hn).elim
     ·exact q2.elim
    ·exact q2.elim
 by_cases dd:∃ x h1 y h2,sa en h = .ok x h1/\sb en h1 = .ok y h2/\∃ n t kvs,x = .ref n/\h2[n]? = some (.dct t kvs)
 ·obtain ⟨x,h1,y,h2,e1,e2,n,t,kvs,rfl,hn⟩:=dd
  refine .inr ⟨ι,h,en,S,er,?_⟩
  unfold sOp2 at q
  rw [e1] at q ⊢
  intro ι1 H1 u g1 S1 r1
  refine ⟨ι1,h1,en,S1,er.mono g1,?_⟩
  dsimp only [Out.bind] at q
  rw [e2] at q ⊢
  intro ι2 H2 w g2 S2 r2
  have q2:=Post.shift q (g1.trans g2)
  have r1' := r1.mono g2
  dsimp only at q2
  unfold fIx at q2
  simp only [hn] at q2
  split at q2
  ·rename_i hk
   cases r1' with
   | @ref _ ad hr =>
    obtain ⟨o,dg,alt⟩:=zfQ S2 hn hr r2 hk
    rcases alt with ⟨v1,rfl⟩ | ⟨v,u,v1,rfl,r3⟩
    ·rw [v1] at q2;exact q2.elim
    ·rw [v1] at q2
     exact ⟨ad,u,rfl,dg,q2.now S2 r3⟩
  ·exact q2.elim
 ·exact .inl (left fun x h1 y h2 e1 e2 n t kvs e3 e4=>dd ⟨x,h1,y,h2,e1,e2,n,t,kvs,e3,e4⟩)
theorem zfR {p':Pos} (hu:X.A.units+64<cLine) (ho:PEA T E X a sa) (hi:PEA T E X b sb) (hv:PEA T E X c sc) (hs:swapsWith c (some (.Subscript a b p')) pos.line X.env=pure false:=by rfl) (hs':swapsWithSole [.Subscript a b p'] c pos.line X.env=pure false:=by rfl) (hw:swappedStores [.Subscript a b p'] c X.env=pure none:=by rfl)
  (h1:(assignEach [.Subscript a b p'] X.env).map (·.2)=[assign (.Subscript a b p') X.env]:=by rfl)
  (has:∀ v,assign (.Subscript a b p') X.env v=(do
   let ov <- holding [v] (eval a X.env)
   let iv <- holding [v,ov] (eval b X.env)
   standAt p'
   holding [v,ov,iv] (setItem ov iv v)
   release [v,ov,iv] []):=by intro _;rfl):PSA T E X (.Assign [.Subscript a b p'] c pos) (yez sa sb sc):=by
 refine yb6 (yh3 (yfp hv (ygr ho hi zhT has) hs' hw h1) (zi4 (Nat.lt_of_le_of_lt (Nat.add_le_add_left (by decide:1<=64) _) hu) ho hi hv hs)) fun D σ H q=>?_
 obtain ⟨ι,h,en,S,er,q⟩:=q
 unfold yez at q
 by_cases dd:∃ z h1 x h2 y h3,sc en h = .ok z h1/\sa en h1 = .ok x h2/\sb en h2 = .ok y h3/\∃ n t kvs,x = .ref n/\h3[n]? = some (.dct t kvs)
 ·obtain ⟨z,h1,x,h2,y,h3,e1,e2,e3,n,t,kvs,rfl,hn⟩:=dd
  refine .inr ⟨ι,h,en,S,er,?_⟩
  rw [e1] at q ⊢
  intro ι1 H1 u g1 S1 r1
  refine ⟨ι1,h1,en,S1,er.mono g1,?_⟩
  dsimp only [Out.go] at q
  rw [e2] at q ⊢
  intro ι2 H2 w g2 S2 r2
  refine ⟨ι2,h2,en,S2,er.mono (g1.trans g2),?_⟩
  dsimp only at q
  rw [e3] at q ⊢
  intro ι3 H3 j g3 S3 r3
  have q2:=PostS.shift q (g1.trans (g2.trans g3))
  simp only [hn] at q2
  split at q2
  ·rename_i hk
   cases (r2.mono g3) with
   | @ref _ ad hr =>
    obtain ⟨H4,dp,g4,S4⟩:=zjs S3 hn hr r3 (r1.mono (g2.trans g3)) hk.1 hk.2
    exact ⟨ad,H4,rfl,dp,q2 ι3 H4 σ g4 S4 (er.mono (g1.trans (g2.trans (g3.trans g4))))⟩
  ·exact q2.elim
 ·refine .inl ⟨ι,h,en,S,er,?_⟩
  cases e1:sc en h with
  | bad=>rw [e1] at q;exact q
  | ex cc h1=>rw [e1] at q;exact fun i2 H2 C g S e=>q i2 H2 σ C g S (er.mono g) e
  | ok z h1 =>
   rw [e1] at q
   intro ι1 H1 u g1 S1 r1
   refine ⟨ι1,h1,en,S1,er.mono g1,?_⟩
   dsimp only [Out.go] at q
   cases e2:sa en h1 with
   | bad=>rw [e2] at q;exact q
   | ex cc h2=>rw [e2] at q;exact fun i2 H2 C g S e=>q i2 H2 σ C (g1.trans g) S (er.mono (g1.trans g)) e
   | ok x h2 =>
    rw [e2] at q
    intro ι2 H2 w g2 S2 r2
    refine ⟨ι2,h2,en,S2,er.mono (g1.trans g2),?_⟩
    dsimp only at q
    cases e3:sb en h2 with
    | bad=>rw [e3] at q;exact q
    | ex cc h3=>rw [e3] at q;exact fun i2 H2 C g S e=>q i2 H2 σ C (g1.trans (g2.trans g)) S (er.mono (g1.trans (g2.trans g))) e
    | ok y h3 =>
     rw [e3] at q
     intro ι3 H3 j g3 S3 r3
     have q2:=PostS.shift q (g1.trans (g2.trans g3))
     dsimp only at q2
     split at q2
     ·rename_i n
      split at q2
      ·rename_i xs hn
       split at q2
       ·rename_i k
        split at q2
        ·rename_i jj hj
         cases (r2.mono g3) with
         | @ref _ ad hr =>
          obtain ⟨o,e4,us,rfl,rs⟩:=S3.obj n _ ad hn hr
          have g4:=S3.growSet (u:=.lst (us.set jj u)) hr
          rw [yaG r3]
          exact ⟨ad,us,k,jj,rfl,rfl,e4,by rw [<- rs.length];exact hj,q2 ι3 _ σ g4 (S3.set hr ⟨_,rfl,RVs.set (r1.mono (g2.trans (g3.trans g4))) jj (rs.mono g4)⟩) (er.mono (g1.trans (g2.trans (g3.trans g4))))⟩
        ·exact q2.elim
       ·exact q2.elim
      ·rename_i t kvs hn
       exact (dd ⟨_,h1,_,h2,_,h3,e1,e2,e3,n,t,kvs,rfl,hn⟩).elim
      ·exact q2.elim
     ·exact q2.elim
theorem zjt {g:Value->Value->Sem Value} {r:R2} {neg:Bool} (hK:X.K=T.K)
  (h1:∀ (i j:Str) H Q,Q (V.bl (if neg then !(!(Builtin.Str.occurrences j i 0 j.length 1).isEmpty) else !(Builtin.Str.occurrences j i 0 j.length 1).isEmpty)) H->r (.str i) (.str j) H Q)
  (h2:∀ x y H Q p xs d ds,y=V.ref p->SqL T.K H p xs->DaV T.K H x d->DaVs T.K H xs ds->d.canLay0=true->(∀ e∈ds,e.canLay0=true/\e.depth<=30)->Q (V.bl (if neg then !(ds.any fun e=>PyData.eqv e d) else ds.any fun e=>PyData.eqv e d)) H->r x y H Q)
  (h2t:∀ x y H Q p xs d ds,y=V.ref p->SqT T.K H p xs->DaV T.K H x d->DaVs T.K H xs ds->d.canLay0=true->(∀ e∈ds,e.canLay0=true/\e.depth<=30)->Q (V.bl (if neg then !(ds.any fun e=>PyData.eqv e d) else ds.any fun e=>PyData.eqv e d)) H->r x y H Q)
  (h3:∀ (y:V) (a:Addr) o H Q,DGet H a y o->Q (V.bl (if neg then !o.isSome else o.isSome)) H->r y (.ref a) H Q) :
  OpS T (fun x y h=>match inA x y h with | some b=>.ok (.bl (if neg then !b else b)) h | none=>.bad) r:=by
 intro ι h H x y u w E Q S rx ry p
 dsimp only at p
 cases hb:inA x y h with
 | none=>rw [hb] at p;exact p.elim
 | some b =>
  rw [hb] at p
  dsimp only at p
  unfold inA at hb
  split at hb
  ·cases hb
   obtain ⟨rfl,_⟩:=ya8 rx
   obtain ⟨rfl,_⟩:=ya8 ry
   exact h1 _ _ _ _ (p.now S (.bl _))
  ·rename_i n
   split at hb
   ·rename_i t kvs hn
    split at hb
    ·rename_i hk
     cases hb
     cases ry with
     | @ref _ ad hr =>
      obtain ⟨o,dg,alt⟩:=zfQ S hn hr rx hk
      refine h3 u ad o H Q dg ?_
      rcases alt with ⟨v1,rfl⟩ | ⟨v,u',v1,rfl,r3⟩
      ·rw [v1] at p;exact p.now S (.bl _)
      ·rw [v1] at p;exact p.now S (.bl _)
    ·cases hb
   ·rename_i xs hn
    split at hb
    ·rename_i d ds e1 e2
     cases hb
     obtain ⟨a,us,rfl,sq,rs⟩:=ybN (xs:=xs) S ry (by simp [ybw,hn])
     obtain ⟨q1,q2,q3⟩:=ycO S 8 rx e1
     obtain ⟨q4,q5⟩:=zbw (n:=8) (fun r e=>ycO S 8 r e) rs e2
     exact h2 _ _ _ _ a us d ds rfl sq q1 q4 q2 (fun e he=>⟨(q5 e he).1,by have:=(q5 e he).2;lia⟩) (p.now S (.bl _))
    ·cases hb
   ·cases hb
  ·rename_i xs
   split at hb
   ·rename_i d ds e1 e2
    cases hb
    obtain ⟨a,us,rfl,sq,rs⟩:=ybN S ry rfl
    obtain ⟨q1,q2,q3⟩:=ycO S 8 rx e1
    obtain ⟨q4,q5⟩:=zbw (n:=8) (fun r e=>ycO S 8 r e) rs e2
    exact h2 _ _ _ _ a us d ds rfl sq q1 q4 q2 (fun e he=>⟨(q5 e he).1,by have:=(q5 e he).2;lia⟩) (p.now S (.bl _))
   ·cases hb
  ·rename_i xs
   split at hb
   ·rename_i d ds e1 e2
    cases hb
    obtain ⟨a,us,rfl,sq,rs⟩:=yc9 ry
    obtain ⟨q1,q2,q3⟩:=ycO S 8 rx e1
    obtain ⟨q4,q5⟩:=zbw (n:=8) (fun r e=>ycO S 8 r e) rs e2
    exact h2t _ _ _ _ a us d ds rfl sq q1 q4 q2 (fun e he=>⟨(q5 e he).1,by have:=(q5 e he).2;lia⟩) (p.now S (.bl _))
   ·cases hb
  ·cases hb
end
end Sm
namespace L2
open PySem PySem.Spec PyProof.Rows
section
variable {X:Cx} {pins:List (Addr×Obj)} {σ:St} {H:Hp} {s:Shared}
theorem zd1 (I:Inv X pins σ H s) (hu:X.A.units+64<cLine) {xs:List V} {ds:List PyData} {its:List Value} {d:PyData} {v:Value} {as:List Addr} (ra:Reads s.heap v d as) (hds:DaVs X.K H xs ds) (r:Vals xs its) (cd:d.canLay0=true) (cds:∀ e∈ds,e.canLay0=true/\e.depth<=30) :
  (∀ y,y∈its.toArray->SeqAt.EqAt X.A.in1 s y v (isD s.heap d y))/\its.toArray.any (isD s.heap d)=ds.any fun e=>PyData.eqv e d:=by
 obtain ⟨hl,hat⟩:=zfE I hds r
 constructor
 ·intro y hy
  have hy':y∈its:=by simpa using hy
  obtain ⟨j,hj⟩:=List.getElem?_of_mem hy'
  have hlt:=(List.getElem?_eq_some_iff.mp hj).1
  have hdj:ds[j]? = some (ds[j]'(by lia)):=List.getElem?_eq_getElem (by lia)
  obtain ⟨bs,rb⟩:=hat j _ _ hj hdj
  have cj:=cds _ (List.mem_of_getElem? hdj)
  rw [yfz cj.1 rb]
  exact SeqAt.eqAt_reads _ _ _ _ _ _ _ _ rb ra cj.1 cd (by
   have:=Nat.min_le_left (ds[j]'(by lia)).depth d.depth
   show X.A.units+1+_<cLine
   lia)
 ·rw [<- Array.any_toList]
  refine zfF hl fun j u e h1 h2=>?_
  obtain ⟨bs,rb⟩:=hat j _ _ h1 h2
  exact yfz (cds _ (List.mem_of_getElem? h2)).1 rb
def yge (K:PySem.W.Frag):R2:=fun x y H Q=>∃ p xs d ds,y = .ref p/\SqL K H p xs/\DaV K H x d/\DaVs K H xs ds/\d.canLay0=true/\(∀ e∈ds,e.canLay0=true/\e.depth<=30)/\Q (.bl (!(ds.any fun e=>PyData.eqv e d))) H
def yfT (K:PySem.W.Frag):R2:=fun x y H Q=>∃ p xs d ds,y = .ref p/\SqT K H p xs/\DaV K H x d/\DaVs K H xs ds/\d.canLay0=true/\(∀ e∈ds,e.canLay0=true/\e.depth<=30)/\Q (.bl (!(ds.any fun e=>PyData.eqv e d))) H
theorem zhj (hu:X.A.units+64<cLine):OpR X (compareOp .NotIn) (yge X.K):=by
 intro pins s σ H x y v u Q I rx ry h
 obtain ⟨p,xs,d,ds,rfl,hq,hd,hds,cd,cds,q⟩:=h
 cases ry
 obtain ⟨its,r,pl,hz⟩:=I.list hq
 obtain ⟨as,ra⟩:=hd.reads I rx
 obtain ⟨h1,h2⟩:=zd1 I hu ra hds r cd cds
 exact SeqAt.notIn_listAt (isD s.heap d) pl.isList h1 ⟨.bl _,H,I,rfl,by rw [h2];exact q⟩
theorem zgy (hu:X.A.units+64<cLine):OpR X (compareOp .NotIn) (yfT X.K):=by
 intro pins s σ H x y v u Q I rx ry h
 obtain ⟨p,xs,d,ds,rfl,hq,hd,hds,cd,cds,q⟩:=h
 cases ry
 obtain ⟨its,r,pl,hz⟩:=I.tuple hq
 obtain ⟨as,ra⟩:=hd.reads I rx
 obtain ⟨h1,h2⟩:=zd1 I hu ra hds r cd cds
 exact SeqAt.notIn_tupleAt (isD s.heap d) pl h1 ⟨.bl _,H,I,rfl,by rw [h2];exact q⟩
theorem zeI (hu:X.A.units+64<cLine):OpR X (compareOp .NotIn) (fun x y H Q=>∃ a o,y = .ref a/\DGet H a x o/\Q (.bl (!o.isSome)) H):=by
 intro pins s σ H x y v u Q I rx ry h
 obtain ⟨a,o,rfl,g,q⟩:=h
 cases ry
 exact zi1 (Nat.lt_of_le_of_lt (Nat.add_le_add_left (by decide:1<=64) _) hu) I g rx fun s' I' => ⟨.bl _,H,I',rfl,q⟩
end
end L2
namespace Sm
open PySem PySem.Spec L2
section
variable {T:Tb} {E:St->XK} {X:Cx}
theorem zfS (hK:X.K=T.K) (hu:X.A.units+64<cLine):Op T X (compareOp .NotIn) yeZ:=by
 refine ⟨_,zez.or ((zhj hu).or ((zgy hu).or (zeI hu))),zjt (neg:=true) (g:=compareOp .NotIn) hK ?_ ?_ ?_ ?_⟩
 ·exact fun i j H Q q=>.inl ⟨i,j,rfl,rfl,q⟩
 ·exact fun x y H Q p xs d ds e1 e2 e3 e4 e5 e6 q=>.inr (.inl ⟨p,xs,d,ds,e1,hK▸e2,hK▸e3,hK▸e4,e5,e6,q⟩)
 ·exact fun x y H Q p xs d ds e1 e2 e3 e4 e5 e6 q=>.inr (.inr (.inl ⟨p,xs,d,ds,e1,hK▸e2,hK▸e3,hK▸e4,e5,e6,q⟩))
 ·exact fun y a o H Q g q=>.inr (.inr (.inr ⟨a,o,rfl,g,q⟩))
end
end Sm
namespace Sm
open PySem PySem.Spec L2
abbrev ErrC (x:Str) (C:Addr) (mg:Str->Option Value) (base:Heap):Prop:=PyProof.Rows.OwnCls x C [.type "ValueError",.type "Exception",.type "BaseException",.type "object"] "ValueError.__new__" mg base
structure GX (T:Tb) (mg:Str->Option Value) (base:Heap) (c:Nat) (x:Str):Prop where
 ex:∃ C,T.exc c=some C/\ErrC x C mg base
section
variable {T:Tb} {E:St->XK} {X:Cx} {pos np cpos:Pos} {e:Expr} {es:List Expr} {x:Str} {c:Nat} {as:SL}
theorem zaE (G:GX T X.mg X.base c x) (hr:yeJ X E) (hg:Gl X x) (ha:PAA T E X (e::es) as) (hc:X.calm=true:=by rfl) (hex:X.ex=[]:=by rfl)
  (hdb:(x == ("__debug__" : Str))=false:=by decide) (he:starEach (e::es) X.env=(false,eval e X.env)::starEach es X.env:=by rfl) (hpl:(backTo cpos (starEach es X.env)).any (·.1)=false:=by rfl) :
  PSA T E X (.Raise (some (.Call (.Name x np) (e::es) [] cpos)) none pos) (yb0 c as):=by
 obtain ⟨C,h1,O⟩:=G.ex
 refine yb6 (zh5 O PySem.F.excBase_ValueError hc hex hr hg ha hdb he hpl) fun D σ H ⟨ι,h,en,S,er,q⟩=>⟨ι,h,en,S,er,q.go er fun xs h1' ι1 H1 us g1 S1 r1 q1=>?_⟩
 split at q1
 ·rename_i hl
  exact ⟨by rw [<- r1.length];exact hl,q1 ι1 H1 σ C S1.refl S1 (er.mono g1) h1⟩
 ·exact q1.elim
end
def ydg (T:Tb) (f:Fn) (r:List V->Hp->VK->Prop):Prop:=∀ (ι:Ix) (h:AH) (H:Hp) (xs:List AV) (us:List V) (E:XK) (Q:VK),Sim T ι h H->RVs T ι H xs us->Post T ι H E (RV T) (f xs h) Q->r us H Q
section
variable {T:Tb} {E:St->XK} {X:Cx} {pos p:Pos} {e a:Expr} {es:List Expr} {x:Str} {as:SL} {sa:SE}
theorem yh4 {f:Fn} {r:List V->Hp->VK->Prop} (hs:ydg T f r) {σ:St} {H:Hp} {Q:VK} (q:tE T E (yae f as) σ H Q):tCB r (tA T E as) σ H Q:=by
 obtain ⟨ι,h,en,S,er,q⟩:=q
 exact ⟨ι,h,en,S,er,q.bind fun xs h1 ι1 H1 us g1 S1 r1 q1=>hs ι1 h1 H1 xs us _ Q S1 r1 q1⟩
theorem r_bi {id:String} {f:Fn} (hc:∃ r,CallR X (.builtin id) r/\ydg T f r) (hg:Gl X x) (hm:X.mg x=none) (hv:bootBuiltins x=some (.builtin id)) (ha:PAA T E X (e::es) as) (hn:x ≠ "__name__" := by decide) (hdb:(x == ("__debug__" : Str))=false:=by decide)
  (he:starEach (e::es) X.env=(false,eval e X.env)::starEach es X.env:=by rfl) (hpl:(backTo pos (starEach es X.env)).any (·.1)=false:=by rfl):PEA T E X (.Call (.Name x p) (e::es) [] pos) (yae f as):=by
 obtain ⟨r,h1,h2⟩:=hc
 exact yaV (zex h1 hg hm hv ha hn hdb he hpl) fun σ H Q q=>yh4 h2 q
theorem b_len (hK:X.K=T.K):∃ r,CallR X (.builtin "len") r/\ydg T fLen r:=by
 refine ⟨_,zeB.or (zeA.or zg5),fun ι h H xs us E Q S r q=>?_⟩
 unfold fLen at q
 split at q
 ·cases r with
  | cons r r' =>
   cases r'
   obtain ⟨rfl,n,_⟩:=ya8 r
   exact .inl ⟨_,rfl,n,q.now S (.int _)⟩
 ·cases r with
  | cons r r' =>
   cases r'
   obtain ⟨a,us,rfl,sq,rs⟩:=yc9 r
   exact .inr (.inl ⟨a,us,rfl,.inr (hK▸sq),by rw [<- rs.length];exact q.now S (.int _)⟩)
 ·cases r with
  | cons r r' =>
   cases r'
   obtain ⟨a,us,rfl,sq,rs⟩:=ybN S r rfl
   exact .inr (.inl ⟨a,us,rfl,.inl (hK▸sq),by rw [<- rs.length];exact q.now S (.int _)⟩)
 ·rename_i n
  cases r with
  | cons r r' =>
   cases r'
   split at q
   ·rename_i xs hn
    obtain ⟨a,us,rfl,sq,rs⟩:=ybN (xs:=xs) S r (by simp [ybw,hn])
    exact .inr (.inl ⟨a,us,rfl,.inl (hK▸sq),by rw [<- rs.length];exact q.now S (.int _)⟩)
   ·rename_i kvs hn
    cases r with
    | @ref _ ad hr =>
     obtain ⟨o,e1,kus,rfl,rs⟩:=S.obj n _ ad hn hr
     exact .inr (.inr ⟨ad,kus,rfl,e1,by rw [<- Paired.length rs];exact q.now S (.int _)⟩)
   ·exact q.elim
 ·exact q.elim
theorem b_abs:∃ r,CallR X (.builtin "abs") r/\ydg T fAbs r:=by
 refine ⟨_,zhN,fun ι h H xs us E Q S r q=>?_⟩
 unfold fAbs at q
 split at q
 ·cases r with
  | cons r r' => cases r';rw [yaG r];exact ⟨_,rfl,q.now S (.int _)⟩
 ·exact q.elim
theorem yeD (hc:X.calm=true:=by rfl):∃ r,CallR X (.builtin "max") r/\ydg T ybG r:=by
 refine ⟨_,zgU hc,fun ι h H xs us E Q S r q=>?_⟩
 unfold ybG at q
 split at q
 ·cases r with
  | cons r r' => cases r' with
   | cons r1 r2=>cases r2;rw [yaG r,yaG r1];exact ⟨_,_,rfl,q.now S (.int _)⟩
 ·exact q.elim
theorem ye3 (hc:X.calm=true:=by rfl):∃ r,CallR X (.builtin "min") r/\ydg T yb3 r:=by
 refine ⟨_,zgV hc,fun ι h H xs us E Q S r q=>?_⟩
 unfold yb3 at q
 split at q
 ·cases r with
  | cons r r' => cases r' with
   | cons r1 r2=>cases r2;rw [yaG r,yaG r1];exact ⟨_,_,rfl,q.now S (.int _)⟩
 ·exact q.elim
theorem zeJ {ι:Ix} {H:Hp}:∀ {xs:List AV} {us:List V} {bs:List Bool},RVs T ι H xs us->ycL xs=some bs->us=bs.map V.bl
 | _,_,_,.nil,e=>by cases e;rfl
 | _,_,bs,.cons (x:=x) r rs,e=>by
  unfold ycL at e
  split at e
  ·rename_i hh;cases hh
  ·rename_i b r' hh
   cases hh
   obtain ⟨bs',e1,rfl⟩:=Option.map_eq_some_iff.mp e
   rw [ycq r,zeJ rs e1];rfl
  ·cases e
theorem b_all (hK:X.K=T.K) (hc:X.calm=true:=by rfl):∃ r,CallR X (.builtin "all") r/\ydg T fAll r:=by
 refine ⟨_,zh0 hc,fun ι h H xs us E Q S r q=>?_⟩
 unfold fAll at q
 split at q
 ·split at q
  ·rename_i bs hb
   cases r with
   | cons r r' =>
    cases r'
    obtain ⟨a,us,rfl,sq,rs⟩:=ybN S r rfl
    rw [zeJ rs hb] at sq
    exact ⟨a,bs,rfl,hK▸sq,q.now S (.bl _)⟩
  ·exact q.elim
 ·exact q.elim
abbrev tys:List String:=["NoneType", "bool", "int", "str", "list", "tuple", "dict"]
theorem yfG (K:PySem.W.Frag):∀ n∈tys,∀ t∈tys,PySem.W.kitOne K (.type n) (.type t)=some (n == t || (t == "int" && n == "bool")):=by
 intro n hn t ht
 simp only [tys,List.mem_cons,List.not_mem_nil,or_false] at hn ht
 rcases hn with rfl | rfl | rfl | rfl | rfl | rfl | rfl<;>rcases ht with rfl | rfl | rfl | rfl | rfl | rfl | rfl<;>rfl
theorem zhk {c:V} {cv:Value} (rc:∀ u,RelV c u->u=cv) :
  CallR X (.builtin "isinstance") (fun xs H Q=>∃ a us r,xs=[.ref a,c]/\SqL X.K H a us/\PySem.W.kitOne X.K (.type "list") cv=some r/\Q (.bl r) H):=by
 intro pins s σ H xs us Q I r h
 obtain ⟨a,ws,k,rfl,sq,hk,q⟩:=h
 obtain ⟨u,w',rfl,rx,ry⟩:=yeO r
 obtain rfl:=rc _ ry
 obtain rfl:u=Value.ref a:=rx
 obtain ⟨its,_,⟨o,n,e1,e2,_⟩,_⟩:=I.list sq
 exact PySem.W.kia_one PySem.W.kitx_list I.kIn ⟨_,e1,e2⟩ hk (fun z=>nomatch z) fun tk=>⟨.bl k,H,I.tok _,rfl,q⟩
theorem yh5 {ι:Ix} {h:AH} {H:Hp} {v:AV} {u:V} {n:String} (S:Sim T ι h H) (r:RV T ι H v u) (e:tyN v h=some n):(TyOf T.K H u (.type n)\/(n = "list" /\ ∃ a us,u = .ref a/\SqL T.K H a us))/\n∈tys:=by
 unfold tyN at e
 cases r with
 | non=>cases e;exact ⟨.inl .non,by decide⟩
 | bl b=>cases e;exact ⟨.inl (.bl b),by decide⟩
 | int b=>cases e;exact ⟨.inl (.int b),by decide⟩
 | str n o=>cases e;exact ⟨.inl (.str _),by decide⟩
 | tup n q r=>cases e;exact ⟨.inl (.tup q),by decide⟩
 | fl n q r=>cases e;exact ⟨.inr ⟨rfl,_,_,rfl,.inl q⟩,by decide⟩
 | kfl q r=>cases e;exact ⟨.inr ⟨rfl,_,_,rfl,.inr q⟩,by decide⟩
 | @ref k a q =>
  dsimp only at e
  split at e
  ·rename_i xs hn
   cases e
   obtain ⟨o,e1,us,rfl,rs⟩:=S.obj k _ a hn q
   exact ⟨.inl (.lst e1),by decide⟩
  ·rename_i t kvs hn
   cases e
   obtain ⟨o,e1,r⟩:=S.obj k _ a hn q
   cases t with
   | false=>obtain ⟨kus,rfl,rs⟩:=r;exact ⟨.inl (.dK e1),by decide⟩
   | true=>obtain ⟨kus,rfl,rs⟩:=r;exact ⟨.inl (.dT e1),by decide⟩
  ·cases e
 | exc _ _ _=>cases e
theorem yfg {t:Str} {id:String} {p2:Pos} (hK:X.K=T.K) (hg:Gl X "isinstance") (hm:X.mg "isinstance" = none) (ha:PEA T E X a sa) (hgt:Gl X t) (hmt:X.mg t=none) (hvt:bootBuiltins t=some (.type id)) (hid:id∈tys) (hnt:t ≠ "__name__" := by decide) (hdt:(t == ("__debug__" : Str))=false:=by decide)
  (he:starEach [a,.Name t p2] X.env=(false,eval a X.env)::starEach [.Name t p2] X.env:=by rfl):PEA T E X (.Call (.Name "isinstance" p) [a,.Name t p2] [] pos) (sIsB id sa):=by
 refine yaV (zex ((zhZ (X:=X) (yfY id)).or (zhk (X:=X) (yfY id))) hg hm PyProof.Rows.boot_isinstance (zdv ha (zdv (ziN (v:=.ty id) hgt hmt hvt rfl hnt hdt) yfs) he) (he:=he)) fun σ H Q ⟨ι,h,en,S,er,q⟩=>⟨ι,h,en,S,er,q.bind fun v h1 ι1 H1 u g1 S1 r1 q1=>?_⟩
 split at q1
 ·rename_i n hn
  obtain ⟨ty,hmem⟩:=yh5 S1 r1 hn
  rcases ty with ty | ⟨rfl,ad,us,rfl,sq⟩
  ·exact .inl ⟨u,.type n,_,rfl,hK▸ty,yfG _ n hmem id hid,q1.now S1 (.bl _)⟩
  ·exact .inr ⟨ad,us,_,rfl,hK▸sq,yfG _ _ hmem id hid,q1.now S1 (.bl _)⟩
 ·exact q1.elim
def MtS (T:Tb) (f:FM) (r:V->List V->Hp->VK->Prop):Prop:=∀ (ι:Ix) (h:AH) (H:Hp) (x:AV) (xs:List AV) (u:V) (us:List V) (E:XK) (Q:VK),Sim T ι h H->RV T ι H x u->RVs T ι H xs us->Post T ι H E (RV T) (f x xs h) Q->r u us H Q
def ChkS (T:Tb) (chk:AV->AH->Bool) (n:String):Prop:=∀ (ι:Ix) (h:AH) (H:Hp) (x:AV) (u:V),Sim T ι h H->RV T ι H x u->chk x h=true->tyV T.K n u H
theorem zan:ChkS T yax "list" := fun ι h H x u S r e=>by
 obtain ⟨xs,e1⟩:=Option.isSome_iff_exists.mp e
 obtain ⟨a,us,rfl,sq,rs⟩:=ybN S r e1
 exact .inl ⟨rfl,us,sq⟩
theorem zcn:ChkS T yek "str" := fun ι h H x u S r e=>by
 unfold yek at e
 split at e
 ·obtain ⟨rfl,_⟩:=ya8 r;rfl
 ·cases e
variable {o:Expr} {so:SE} {name:Str} {apos:Pos} {chk:AV->AH->Bool} {f:FM} {tn id:String}
theorem r_bm (hK:X.K=T.K) (pa:PlainAttrs tn) (slot:Slot tn name id) (hty:typeOf (.builtin id)=pure (.type "method_descriptor")) (hm:∃ r,MtR X id r/\MtS T f r) (hc:ChkS T chk tn) (ho:PEA T E X o so) (ha:PAA T E X (e::es) as)
  (hbase:attributeBase o name X.env (eval o X.env)=eval o X.env:=by rfl)
  (hfew:((backTo pos (starEach (e::es) X.env)).all (fun x=>!x.1) && (backToKw pos (keywordEach [] X.env)).all (fun x=>x.1.isSome)
   && decide ((e::es).length+([]:List Keyword).length+(if ([]:List Keyword).isEmpty then 0 else 1)<30))=true:=by rfl)
  (hline:(apos.endLine == pos.line)=true:=by rfl) (hs:starEach (e::es) X.env=(false,eval e X.env)::starEach es X.env:=by rfl) (hplain:(backTo pos (starEach es X.env)).any (·.1)=false:=by rfl) :
  PEA T E X (.Call (.Attribute o name apos) (e::es) [] pos) (sBM chk f so as):=by
 obtain ⟨r,h1,h2⟩:=hm
 refine yaV (yhO pa slot hty h1 ho ha hbase hfew hline hs hplain) fun σ H Q ⟨ι,h,en,S,er,q⟩=>⟨ι,h,en,S,er,q.bind fun x h1 ι1 H1 u g1 S1 r1 q1=>?_⟩
 by_cases hx:chk x h1=true
 ·rw [if_pos hx] at q1
  exact ⟨hK▸hc ι1 h1 H1 x u S1 r1 hx,ι1,h1,en,S1,er.mono g1,q1.bind fun xs h2' ι2 H2 us g2 S2 r2 q2=>h2 ι2 h2' H2 x xs u us _ Q S2 (r1.mono g2) r2 q2⟩
 ·rw [if_neg hx] at q1;exact q1.elim
theorem yf7 (hK:X.K=T.K) (pa:PlainAttrs tn) (slot:Slot tn name id) (hty:typeOf (.builtin id)=pure (.type "method_descriptor")) (hm:∃ r,MtR X id r/\MtS T f r) (hc:ChkS T chk tn) (ho:PEA T E X o so)
  (hbase:attributeBase o name X.env (eval o X.env)=eval o X.env:=by rfl) (hline:(apos.endLine == pos.line)=true:=by rfl):PEA T E X (.Call (.Attribute o name apos) [] [] pos) (sBM0 chk f so):=by
 obtain ⟨r,h1,h2⟩:=hm
 refine yaV (ygG pa slot hty h1 ho hbase hline) fun σ H Q ⟨ι,h,en,S,er,q⟩=>⟨ι,h,en,S,er,q.bind fun x h1 ι1 H1 u g1 S1 r1 q1=>?_⟩
 by_cases hx:chk x h1=true
 ·rw [if_pos hx] at q1
  exact ⟨hK▸hc ι1 h1 H1 x u S1 r1 hx,h2 ι1 h1 H1 x [] u [] _ Q S1 r1 .nil q1⟩
 ·rw [if_neg hx] at q1;exact q1.elim
theorem zak:∃ r,MtR X "list.append" r/\MtS T yaA r:=by
 refine ⟨_,zbY,fun ι h H x xs u us E Q S rx rs q=>?_⟩
 unfold yaA at q
 split at q
 ·rename_i n y
  split at q
  ·rename_i ys hn
   split at q
   ·rename_i hl
    cases rx with
    | @ref _ ad hr =>
     cases rs with
     | @cons _ uu _ _ r r' =>
      cases r'
      obtain ⟨o,e1,ws,rfl,rw_⟩:=S.obj n _ ad hn hr
      have g:=S.growSet (u:=.lst (ws++[uu])) hr
      exact ⟨ad,ws,_,rfl,rfl,e1,by rw [<- rw_.length];exact hl,q ι _ _ g (S.set hr ⟨_,rfl,(rw_.mono g).append (.cons (r.mono g) .nil)⟩) .non⟩
   ·exact q.elim
  ·exact q.elim
 ·exact q.elim
theorem yh6:∃ r,MtR X "list.pop" r/\MtS T mPop r:=by
 refine ⟨_,ygH,fun ι h H x xs u us E Q S rx rs q=>?_⟩
 unfold mPop at q
 split at q
 ·rename_i n
  split at q
  ·rename_i ys hn
   split at q
   ·rename_i y hy
    cases rx with
    | @ref _ ad hr =>
     cases rs
     obtain ⟨o,e1,ws,rfl,rw_⟩:=S.obj n _ ad hn hr
     have g:=S.growSet (u:=.lst ws.dropLast) hr
     obtain ⟨v,e2,r2⟩:=rw_.get hy
     refine ⟨ad,ws,v,rfl,rfl,e1,by rw [<- rw_.length];exact e2,q ι _ _ g (S.set hr ⟨_,rfl,?_⟩) (r2.mono g)⟩
     have z:=(rw_.mono g).take (ys.length-1)
     have e3:ys.take (ys.length-1)=ys.dropLast:=List.dropLast_eq_take.symm
     have e4:ws.take (ys.length-1)=ws.dropLast:=by rw [rw_.length];exact List.dropLast_eq_take.symm
     rw [e3,e4] at z
     exact z
   ·exact q.elim
  ·exact q.elim
 ·exact q.elim
theorem zif:∃ r,MtR X "str.count" r/\MtS T yeK r:=by
 refine ⟨_,zeD,fun ι h H x xs u us E Q S rx rs q=>?_⟩
 unfold yeK at q
 split at q
 ·cases rs with
  | cons r r' =>
   cases r'
   obtain ⟨rfl,_⟩:=ya8 rx
   obtain ⟨rfl,_⟩:=ya8 r
   exact ⟨_,_,rfl,rfl,q.now S (.int _)⟩
 ·exact q.elim
theorem zfT {ι:Ix} {H:Hp}:∀ {xs:List AV} {us:List V} {zs:List Str},RVs T ι H xs us->ydP xs=some zs->us=zs.map V.str/\∀ z∈zs,z.cps.all (· < 0x110000)=true
 | _,_,_,.nil,e=>by cases e;exact ⟨rfl,by simp⟩
 | _,_,zs,.cons (x:=x) r rs,e=>by
  unfold ydP at e
  split at e
  ·rename_i hh;cases hh
  ·rename_i b r' hh
   cases hh
   obtain ⟨zs',e1,rfl⟩:=Option.map_eq_some_iff.mp e
   obtain ⟨rfl,_,o⟩:=ya8 r
   obtain ⟨h1,h2⟩:=zfT rs e1
   refine ⟨by rw [h1];rfl,fun z hz=>?_⟩
   rcases List.mem_cons.mp hz with rfl | hz
   ·exact o
   ·exact h2 z hz
  ·cases e
theorem yfH (hK:X.K=T.K):∃ r,MtR X "str.join" r/\MtS T yc6 r:=by
 refine ⟨_,zjd,fun ι h H x xs u us E Q S rx rs q=>?_⟩
 unfold yc6 at q
 split at q
 ·rename_i z y
  split at q
  ·rename_i hz
   subst hz
   split at q
   ·rename_i ys hy
    split at q
    ·rename_i zs hzs
     split at q
     ·rename_i hl
      cases rs with
      | cons r r' =>
       cases r'
       obtain ⟨rfl,_⟩:=ya8 rx
       obtain ⟨a,ws,rfl,sq,rw_⟩:=ybN S r hy
       obtain ⟨h1,h2⟩:=zfT rw_ hzs
       subst h1
       refine ⟨a,zs,rfl,rfl,hK▸sq,hl,fun rr hrr=>?_⟩
       have e:rr=⟨((zs.map fun x:Str=>x.cps.toList).flatten).toArray⟩:=by
        cases rr
        simp only [Str.mk.injEq]
        rw [<- hrr]
       rw [e]
       refine q.now S (.str ?_ ?_)
       ·show ((zs.map fun x:Str=>x.cps.toList).flatten).toArray.size<=sizeLine
        rw [List.size_toArray]
        exact Nat.le_trans hl (by decide)
       ·rw [Array.all_eq_true_iff_forall_mem]
        intro c hc
        simp only [List.mem_toArray,List.mem_flatten,List.mem_map] at hc
        obtain ⟨l,⟨zz,hz1,rfl⟩,hc2⟩:=hc
        exact Array.all_eq_true_iff_forall_mem.mp (h2 zz hz1) c (by simpa using hc2)
     ·exact q.elim
    ·exact q.elim
   ·exact q.elim
  ·exact q.elim
 ·exact q.elim
end
end Sm
namespace Sm
open PySem PySem.Spec L2
theorem Out.bind_assoc {α β γ:Type} (o:Out α) (f:α->AH->Out β) (g:β->AH->Out γ):(o.bind f).bind g=o.bind fun a h=>(f a h).bind g:=by cases o<;>rfl
section
variable {T:Tb} {E:St->XK} {X:Cx} {pos p2:Pos} {a b:Expr} {sa sb:SE}
def tO (T:Tb) (E:St->XK):Option SE->TO
 | none=>ye9
 | some s=>yfW (tE T E s)
abbrev POA (T:Tb) (E:St->XK) (X:Cx) (e:Option Expr) (s:Option SE):Prop:=PO X e (tO T E s)
theorem za4:POA T E X none none:=ziW
theorem zaB (h:PEA T E X a sa):POA T E X (some a) (some sa):=ziX h
@[simp] def yeU (s:Option SE):En->AH->Out (Option Int):=fun en h=>match s with
 | none=>.ok none h
 | some l=>(l en h).bind fun v h2=>match v with | .int i=>.ok (some i) h2 | _=>.bad
theorem zfU {s:Option SE} {σ:St} {H:Hp} {ι:Ix} {h:AH} {en:En} {γ δ:Type} {R':Ix->Hp->γ->δ->Prop} {Q0:δ->Hp->Prop} {f:Option Int->AH->Out γ} {Q:Option Int->Hp->Prop} (S:Sim T ι h H) (er:ER T ι H en σ) (q:Post T ι H (E σ) R' ((yeU s en h).bind f) Q0)
  (k:∀ l h' ι' H',Grow ι H ι' H'->Sim T ι' h' H'->Post T ι' H' (E σ) R' (f l h') Q0->Q l H'):tO T E s σ H Q:=by
 cases s with
 | none=>exact k none h ι H S.refl S q
 | some l =>
  refine ⟨ι,h,en,S,er,?_⟩
  unfold yeU at q
  dsimp only at q
  rw [Out.bind_assoc] at q
  refine q.bind fun v h1 ι1 H1 u g1 S1 r1 q1=>?_
  split at q1
  ·rw [yaG r1]
   exact ⟨_,rfl,k _ _ ι1 H1 g1 S1 q1⟩
  ·exact q1.elim
@[simp] def ybb (x:AV) (l u:Option Int) (h:AH):Out AV:=match x with
 | .fl xs=>.ok (.fl (cutA xs l u)) h
 | .str z=>.ok (.str (cutS z l u)) h
 | .tup xs=>if ¬ (HT.sIx xs.length 0 l=0/\HT.sIx xs.length xs.length u=xs.length) then .ok (.tup (cutA xs l u)) h else .bad
 | .ref n=>match h[n]? with
  | some (.lst xs)=>.ok (.fl (cutA xs l u)) h
  | _=>.bad
 | _=>.bad
@[simp] def sCut (a:SE) (lo hi:Option SE):SE:=fun en h=>(a en h).bind fun x h1=>(yeU lo en h1).bind fun l h2=>(yeU hi en h2).bind fun u h3=>ybb x l u h3
theorem RVs.cut {ι:Ix} {H:Hp} {xs:List AV} {us:List V} {lo hi:Option Int} (r:RVs T ι H xs us):RVs T ι H (cutA xs lo hi) (cutV us lo hi):=by
 unfold cutA cutV
 rw [<- r.length]
 exact (r.drop _).take _
theorem ygY {ι:Ix} {H:Hp} {z:Str} {l u:Option Int} (hz:z.length<=sizeLine) (hc:z.cps.all (· < 0x110000)=true):RV T ι H (.str (cutS z l u)) (.str (cutS z l u)):=by
 refine .str ?_ ?_
 ·refine Nat.le_trans ?_ hz
  simp [cutS,Str.length];lia
 ·simp only [cutS,List.all_toArray,List.all_eq_true]
  intro c h
  have hm:c∈z.cps.toList:=List.mem_of_mem_drop (List.mem_of_mem_take h)
  exact (Array.all_eq_true_iff_forall_mem.mp hc) c (by simpa using hm)
theorem zaM {lo hi:Option Expr} {sl sh:Option SE} (hK:X.K=T.K) (ha:PEA T E X a sa) (hl:POA T E X lo sl) (hh:POA T E X hi sh):PEA T E X (.Subscript a (.Slice lo hi none p2) pos) (sCut sa sl sh):=by
 refine yaV (zhR (zi0.or (sl_tup.or ygQ)) ha hl hh) fun σ H Q ⟨ι,h,en,S,er,q⟩=>⟨ι,h,en,S,er,q.bind fun x h1 ι1 H1 u g1 S1 r1 q1=>?_⟩
 refine zfU (E:=E) S1 (er.mono g1) q1 fun l h2 ι2 H2 g2 S2 q2=>zfU (E:=E) S2 (er.mono (g1.trans g2)) q2 fun w h3 ι3 H3 g3 S3 q3=>?_
 have r3:=r1.mono (g2.trans g3)
 unfold ybb at q3
 split at q3
 ·obtain ⟨ad,us,rfl,sq,rs⟩:=ybN S3 r3 rfl
  exact .inl ⟨ad,us,rfl,hK▸sq,fun p n=>yd9 S3 rs.cut n q3⟩
 ·obtain ⟨rfl,hz,hc⟩:=ya8 r3
  exact .inr (.inr ⟨_,rfl,hz,q3.now S3 (ygY hz hc)⟩)
 ·rename_i xs
  split at q3
  ·rename_i hz
   obtain ⟨ad,us,rfl,sq,rs⟩:=yc9 r3
   exact .inr (.inl ⟨ad,us,rfl,hK▸sq,by rw [<- rs.length];exact hz,fun p n=>zdy S3 rs.cut n q3⟩)
  ·exact q3.elim
 ·split at q3
  ·rename_i xs hn
   obtain ⟨ad,us,rfl,sq,rs⟩:=ybN (xs:=xs) S3 r3 (by simp [ybw,hn])
   exact .inl ⟨ad,us,rfl,hK▸sq,fun p n=>yd9 S3 rs.cut n q3⟩
  ·exact q3.elim
 ·exact q3.elim
theorem r_gI {x:Str} {i:Int} {p:Pos} (hg:Gl X x) (hm:∃ t,X.mg x=some (.int i t)) (hd:(x == ("__debug__" : Str))=false:=by decide):PEA T E X (.Name x p) (sLit (.int i)):=by
 obtain ⟨t,hm⟩:=hm
 exact zjg hg hm hd
end
def DG (K:PySem.W.Frag) (mg:Str->Option Value) (x:Str) (st:Stmt) (ps:List Str):Prop:=∃ f fd,mg x=some (.ref f)/\PySem.W.keepIn K (.ref f)=true/\Binds K fd ps []/\Fun K x x st f fd
end Sm
namespace Sm
open PySem PySem.Spec L2
def yeL (N:List Str) (sc:Scope) (x₁:Str) (jf:List (Nat×Str)) (scope:Scope):Bool :=
 decide (x₁::jf.map (·.2)).Nodup && (scope.names.lookup x₁ == some .local) && jf.all (fun p=>N[p.1]? == some p.2) && jf.all (fun p=>scope.names.lookup p.2 == some .free) && (scope.kind == .function) &&
 scope.names.all (fun y=>y.2 != .cell) && scope.names.all (fun y=>y.2 != .free || sc.names.lookup y.1 == some .cell || sc.names.lookup y.1 == some .free) && scope.names.all (fun y=>y.2 != .local || scope.names.lookup y.1 == some .local)
theorem zbb {X:Cx} {N:List Str} {sc scope:Scope} {x₁:Str} {jf:List (Nat×Str)} (hN:X.N=N) (hk:∀ x,X.env.kindOf x=sc.names.lookup x) (h:yeL N sc x₁ jf scope=true):CompOk X x₁ jf scope:=by
 unfold yeL at h
 simp only [Bool.and_eq_true,decide_eq_true_eq,List.all_eq_true,beq_iff_eq,bne_iff_ne,Bool.or_eq_true] at h
 obtain ⟨⟨⟨⟨⟨⟨⟨h1,h2⟩,h3⟩,h4⟩,h5⟩,h6⟩,h7⟩,h8⟩:=h
 refine ⟨h1,h2,fun p hp=>by rw [hN];exact h3 p hp,h4,h5,fun y hy=>h6 y hy,fun y hy e=>?_,fun y hy e=>?_⟩
 ·rw [hk]
  rcases h7 y hy with (z | z) | z
  ·exact absurd e z
  ·exact .inl z
  ·exact .inr z
 ·rcases h8 y hy with z | z
  ·exact absurd e z
  ·exact z
end Sm
namespace Sm
open PySem PySem.Spec L2
theorem zdB {T:Tb} {ι:Ix} {H:Hp}:∀ ns:List Int,RVs T ι H (ns.map AV.int) (ns.map V.int)
 | []=>.nil
 | n::ns=>.cons (.int n) (zdB ns)
theorem sim0 {T:Tb} {H:Hp}:Sim T ⟨[],[]⟩ [] H:=⟨rfl,List.nodup_nil,(fun _ z=>nomatch z),(fun i o a e=>by simp at e)⟩
def spL (K:PySem.W.Frag):Sp:=fun vs H Q _=>∃ (a:Addr) (ns:List Int),vs=[.ref a]/\SqL K H a (ns.map V.int)/\ns.length<=63/\∀ H',Q (.bl true) H'
theorem zju {T:Tb} {F:Fn} (ht:∀ ns:List Int,ns.length<=63->∃ h',F [.fl (ns.map AV.int)] [] = .ok (.bl true) h'):∀ vs H Q E,spL T.K vs H Q E->spA T F vs H Q E:=by
 rintro vs H Q E ⟨a,ns,rfl,hs,hl,q⟩
 obtain ⟨h',e⟩:=ht ns hl
 refine ⟨⟨[],[]⟩,[],[.fl (ns.map AV.int)],sim0,.cons ?_ .nil,?_⟩
 ·rcases hs with hs | hs
  ·exact .fl (by simp [Ix.all]) hs (zdB ns)
  ·exact .kfl hs (zdB ns)
 ·rw [e]
  intro ι' H' u g S r
  rw [ycq r]
  exact q H'
theorem zhl {P:Program} {w:World} {outer:List Env} {H:Hp} {s s':Shared} {e:Value} (h:CXE P w outer H s (fun _ _ _=>False) e s'):False:=by
 obtain ⟨_,_,_,_,_,_,_,_,_,_,_,_,_,_,q⟩:=h
 exact q
end Sm
namespace Sm
open PySem PySem.Spec L2
@[simp] def yed:List AV->Option (List Int)
 | []=>some []
 | .int i::r=>(yed r).map (i :: ·)
 | _=>none
@[simp] def fSum:Fn:=fun args h=>match args with
 | [.fl xs]=>match yed xs with
  | some ns=>.ok (.int ns.sum) h
  | none=>.bad
 | _=>.bad
@[simp] def yct (a b c:SE):SI:=fun en h=>(a en h).bind fun v h1=>(b en h1).bind fun w h2=>(c en h2).bind fun z h3=>match v,w,z with
 | .int i,.int j,.int k=>if i.natAbs<2 ^ 40/\j.natAbs<2 ^ 40/\0<k/\k<2 ^ 20 then .ok ((List.range (if i<j then (j-i-1) / k+1 else 0:Int).toNat).map (fun m:Nat=>.int (i+m*k)),none) h3 else .bad
 | _,_,_=>.bad
@[simp] def fIsB:F2:=fun x y h=>match x,y with
 | .bl a,.bl b=>.ok (.bl (a == b)) h
 | _,_=>.bad
@[simp] def yeM (f f' f'':F2) (a b c d:SE):SE:=fun en h=>(a en h).bind fun x h1=>(b en h1).bind fun y h2=>(f x y h2).bind fun z h3=>match z with
 | .bl k=>if k=true then (c en h3).bind fun w h4=>(f' y w h4).bind fun z2 h5=>(match z2 with
  | .bl k2=>if k2=true then (d en h5).bind fun v h6=>f'' w v h6 else .ok (.bl false) h5
  | _=>.bad) else .ok (.bl false) h3
 | _=>.bad
section
variable {T:Tb} {E:St->XK} {X:Cx} {pos p:Pos} {e a b c:Expr} {sa sb sc:SE}
theorem zfV {ι:Ix} {H:Hp}:∀ {xs:List AV} {us:List V} {bs:List Int},RVs T ι H xs us->yed xs=some bs->us=bs.map V.int
 | _,_,_,.nil,e=>by cases e;rfl
 | _,_,bs,.cons (x:=x) r rs,e=>by
  unfold yed at e
  split at e
  ·rename_i hh;cases hh
  ·rename_i b r' hh
   cases hh
   obtain ⟨bs',e1,rfl⟩:=Option.map_eq_some_iff.mp e
   rw [yaG r,zfV rs e1];rfl
  ·cases e
theorem b_sum (hK:X.K=T.K) (hc:X.calm=true:=by rfl):∃ r,CallR X (.builtin "sum") r/\ydg T fSum r:=by
 refine ⟨_,zh9 hc,fun ι h H xs us E Q S r q=>?_⟩
 unfold fSum at q
 split at q
 ·split at q
  ·rename_i bs hb
   cases r with
   | cons r r' =>
    cases r'
    obtain ⟨a,us,rfl,sq,rs⟩:=ybN S r rfl
    rw [zfV rs hb] at sq
    exact ⟨a,bs,rfl,hK▸sq,q.now S (.int _)⟩
  ·exact q.elim
 ·exact q.elim
theorem zgz {ι:Ix} {H:Hp} {lo c:Int} {n:Nat}:ItR T (Itr3 lo c n) ι H ((List.range n).map (fun m:Nat=>AV.int (lo+m*c))) none:=by
 constructor
 ·intro i ι' h' H' y g S _ e
  rw [List.getElem?_map] at e
  obtain ⟨m,e1,rfl⟩:=Option.map_eq_some_iff.mp e
  have hi:i<n:=by
   have:=(List.getElem?_eq_some_iff.mp e1).1
   simpa using this
  rw [List.getElem?_range hi] at e1
  cases e1
  refine ⟨hi,?_⟩
  rintro u H2 ⟨rfl,rfl⟩
  exact ⟨S.refl,S,.int _⟩
 ·intro i ι' h' H' g S _ hl
  have hl':n<=i:=by simpa using hl
  exact hl'
theorem zd2 {tg:Expr} {p:Pos} (hg:Gl X "range") (hm:X.mg "range" = none) (ha:PEA T E X a sa) (hb:PEA T E X b sb) (hc:PEA T E X c sc) (hs:starEach [a,b,c] X.env=[(false,eval a X.env),(false,eval b X.env),(false,eval c X.env)]:=by rfl) (hs2:starEach [b,c] X.env=[(false,eval b X.env),(false,eval c X.env)]:=by rfl) (hs3:starEach [c] X.env=[(false,eval c X.env)]:=by rfl) :
  PIA T X tg (.Call (.Name "range" p) [a,b,c] [] pos) (yct sa sb sc) :=
 yeb (zhd hg hm (zaa ha (zaa hb (zaa hc yac hs3) (by rw [hs2,hs3])) (by rw [hs,hs2])) hs hs2) fun σ H R ⟨ι,h,en,S,er,q⟩=>by
  unfold yct at q
  refine ⟨ι,h,en,S,er,?_⟩
  unfold yab
  cases e:sa en h with
  | bad=>rw [e] at q;exact q
  | ex c h1=>rw [e] at q;exact q.elim
  | ok v h1 =>
   rw [e] at q
   dsimp only [Out.bind] at q ⊢
   cases e':sb en h1 with
   | bad=>rw [e'] at q;exact q
   | ex c h1=>rw [e'] at q;exact q.elim
   | ok v' h2 =>
    rw [e'] at q
    dsimp only at q ⊢
    cases e'':sc en h2 with
    | bad=>rw [e''] at q;exact q
    | ex c h1=>rw [e''] at q;exact q.elim
    | ok v'' h3 =>
     rw [e''] at q
     dsimp only at q
     intro ι1 H1 u g1 S1 r1
     split at q
     ·rename_i hx
      split at hx
      ·split at hx
       ·rename_i hb
        cases hx
        cases r1 with
        | cons r r' =>
         cases r' with
         | cons r2 r3 =>
          cases r3 with
          | cons r4 r5 =>
           cases r5
           rw [yaG r,yaG r2,yaG r4]
           exact ⟨_,_,_,rfl,hb,q ι1 H1 _ g1 S1 zgz⟩
       ·cases hx
      ·cases hx
     ·exact q.elim
theorem ydn {sts:List Stmt} {E:St->XK}:PSsA T E X sts (fun _ _=>.bad):=fun pins s σ H D I ⟨ι,h,en,S,er,q⟩=>q.elim
theorem yit {ι:Ix} {H:Hp} {z:Str} (hz:z.length<=sizeLine) (hc:z.cps.all (· < 0x110000)=true):RV T ι H (.str (revS z)) (.str (revS z)):=by
 refine .str ?_ ?_
 ·refine Nat.le_trans ?_ hz
  simp [revS,Str.length]
 ·simp only [revS,List.all_toArray,List.all_eq_true,List.mem_reverse]
  intro c h
  exact (Array.all_eq_true_iff_forall_mem.mp hc) c (by simpa using h)
theorem zhm {d:Expr} {sd:SE} {op op' op'':CmpOp} {f f' f'':F2} (ho:Op T X (compareOp op) f) (ho':Op T X (compareOp op') f') (ho'':Op T X (compareOp op'') f'') (ha:PEA T E X a sa) (hb:PEA T E X b sb) (hc:PEA T E X c sc) (hd:PEA T E X d sd) (hm:lastMarks [op,op',op''] [b,c,d]=false:=by with_unfolding_all rfl) :
  PTA T E X (.Compare a [op,op',op''] [b,c,d] pos) (yao (yeM f f' f'' sa sb sc sd)):=by
 obtain ⟨r,h1,hs⟩:=ho
 obtain ⟨r',h1',hs'⟩:=ho'
 obtain ⟨r'',h1'',hs''⟩:=ho''
 refine yd8 (zhe h1 h1' h1'' ha hb hc hd hm) fun σ H Q q=>?_
 obtain ⟨ι,h,en,S,er,q⟩:=q
 unfold yao yeM at q
 rw [Out.bind_assoc] at q
 refine ⟨ι,h,en,S,er,q.bind fun x h1 ι1 H1 u g1 S1 r1 q1=>?_⟩
 rw [Out.bind_assoc] at q1
 refine ⟨ι1,h1,en,S1,er.mono g1,q1.bind fun y h2 ι2 H2 w g2 S2 r2 q2=>?_⟩
 rw [Out.bind_assoc] at q2
 refine hs ι2 h2 H2 x y u w (E σ) _ S2 (r1.mono g2) r2 (q2.bind fun z h3 ι3 H3 k g3 S3 r3 q3=>?_)
 split at q3
 ·rename_i kk
  rw [ycq r3]
  refine ⟨kk,rfl,?_⟩
  by_cases hkk:kk=true
  ·rw [if_pos hkk] at q3 ⊢
   rw [Out.bind_assoc] at q3
   refine ⟨ι3,h3,en,S3,er.mono (g1.trans (g2.trans g3)),q3.bind fun v h4 ι4 H4 j g4 S4 r4 q4=>?_⟩
   rw [Out.bind_assoc] at q4
   refine hs' ι4 h4 H4 y v w j (E σ) _ S4 (r2.mono (g3.trans g4)) r4 (q4.bind fun z2 h5 ι5 H5 k5 g5 S5 r5 q5=>?_)
   split at q5
   ·rename_i k2
    rw [ycq r5]
    refine ⟨k2,rfl,?_⟩
    by_cases hk2:k2=true
    ·rw [if_pos hk2] at q5 ⊢
     rw [Out.bind_assoc] at q5
     refine ⟨ι5,h5,en,S5,er.mono (g1.trans (g2.trans (g3.trans (g4.trans g5)))),q5.bind fun v6 h6 ι6 H6 j6 g6 S6 r6 q6=>?_⟩
     refine hs'' ι6 h6 H6 v v6 j j6 (E σ) _ S6 (r4.mono (g5.trans g6)) r6 (q6.bind fun z7 h7 ι7 H7 k7 g7 S7 r7 q7=>?_)
     split at q7
     ·rw [ycq r7];exact ⟨_,rfl,q7.now S7 rfl⟩
     ·exact q7.elim
    ·rw [if_neg hk2] at q5 ⊢
     exact ⟨false,rfl,q5.now S5 rfl⟩
   ·exact q5.elim
  ·rw [if_neg hkk] at q3 ⊢
   exact ⟨false,rfl,q3.now S3 rfl⟩
 ·exact q3.elim
end
theorem el1:∀ {us:List Value},us.length=1->∃ a:Value,us=[a]
 | [a],_=>⟨a,rfl⟩
theorem el2:∀ {us:List Value},us.length=2->∃ a b:Value,us=[a,b]
 | [a,b],_=>⟨a,b,rfl⟩
theorem el3:∀ {us:List Value},us.length=3->∃ a b c:Value,us=[a,b,c]
 | [a,b,c],_=>⟨a,b,c,rfl⟩
theorem el4:∀ {us:List Value},us.length=4->∃ a b c d:Value,us=[a,b,c,d]
 | [a,b,c,d],_=>⟨a,b,c,d,rfl⟩
@[simp] def yel:FM:=fun x vs h=>match x,vs with
 | .ref n,[.ref k]=>match h[n]?,h[k]? with
  | some (.lst xs),some (.lst ys)=>if xs.length+ys.length<=sizeLine then .ok .non (h.set n (.lst (xs++ys))) else .bad
  | _,_=>.bad
 | _,_=>.bad
theorem ygZ {T:Tb} {X:Cx}:∃ r,MtR X "list.extend" r/\MtS T yel r:=by
 refine ⟨_,zg0,fun ι h H x xs u us E Q S rx rs q=>?_⟩
 unfold yel at q
 split at q
 ·rename_i n k
  split at q
  ·rename_i ys zs hn hk
   split at q
   ·rename_i hl
    cases rx with
    | @ref _ ad hr =>
     cases rs with
     | @cons _ uu _ _ r r' =>
      cases r'
      cases r with
      | @ref _ bd hb =>
       obtain ⟨o,e1,ws,rfl,rw_⟩:=S.obj n _ ad hn hr
       obtain ⟨o2,e2,ws2,rfl,rw2⟩:=S.obj k _ bd hk hb
       have g:=S.growSet (u:=.lst (ws++ws2)) hr
       exact ⟨ad,bd,ws,ws2,rfl,rfl,e1,e2,by rw [<- rw_.length,<- rw2.length];exact hl,q ι _ _ g (S.set hr ⟨_,rfl,(rw_.mono g).append (rw2.mono g)⟩) .non⟩
   ·exact q.elim
  ·exact q.elim
 ·exact q.elim
theorem yg0 {T:Tb} {ι:Ix} {H:Hp} {z:Str} {n:Nat} (hl:z.length*n<=1000000) (hc:z.cps.all (· < 0x110000)=true):RV T ι H (.str (repS z n)) (.str (repS z n)):=by
 refine .str ?_ ?_
 ·refine Nat.le_trans ?_ (Nat.le_trans hl (by decide))
  simp [repS,Str.length,Nat.mul_comm]
 ·simp only [repS,List.all_toArray,List.all_eq_true,List.mem_flatten,List.mem_replicate]
  rintro c ⟨l,⟨_,rfl⟩,hm⟩
  exact (Array.all_eq_true_iff_forall_mem.mp hc) c (by simpa using hm)
def yeE:Nat:=100000000
end Sm
namespace Sm
open PySem PySem.Spec L2
def un2 {α:Type} (c:En->AH->Out α):En->AH->Out α:=fun en h=>match en with
 | some (.tup [y,z])::r=>c (some y::some z::r) h
 | _=>.bad
theorem yg1 {α:Type} (c:En->AH->Out α) (x:AV):(∃ y z,x = .tup [y,z])\/∀ r h,un2 c (some x::r) h = .bad:=by
 match x with
 | .tup [y,z]=>exact .inl ⟨y,z,rfl⟩
 | .tup []=>exact .inr fun _ _=>rfl
 | .tup [_]=>exact .inr fun _ _=>rfl
 | .tup (_::_::_::_)=>exact .inr fun _ _=>rfl
 | .non=>exact .inr fun _ _=>rfl
 | .exc _=>exact .inr fun _ _=>rfl
 | .bl _=>exact .inr fun _ _=>rfl
 | .int _=>exact .inr fun _ _=>rfl
 | .str _=>exact .inr fun _ _=>rfl
 | .fl _=>exact .inr fun _ _=>rfl
 | .ref _=>exact .inr fun _ _=>rfl
@[simp] theorem yiu {α:Type} (c:En->AH->Out α) (y z:AV) (r:En) (h:AH):un2 c (some (.tup [y,z])::r) h=c (some y::some z::r) h:=rfl
@[simp] def yb1 (js:List Nat) (it:SI) (c:SB) (e:SE):SE:=yby js it (un2 c) (un2 e)
section
variable {T:Tb} {E:St->XK} {X:Cx} {pos px p1 p2:Pos} {kk:Nat} {iter elt:Expr} {ifs:List Expr} {scope:Scope} {x₁ x₂:Str} {jf:List (Nat×Str)} {it:SI} {cc:SB} {ce:SE}
theorem ER.comp2 {ι:Ix} {H:Hp} {en:En} {σ:St} {x y:AV} {u v:V} {jf:List (Nat×Str)} (er:ER T ι H en σ) (r:RV T ι H x u) (r2:RV T ι H y v):ER T ι H (some x::some y::(jf.map (·.1)).map fun j=>(en[j]?).join) (ybc (some u) (some v) jf σ):=by
 obtain ⟨h1,h2⟩:=ER.comp (jf:=jf) er r2
 refine ⟨by simp [ybc],fun i v e=>?_⟩
 cases i with
 | zero=>simp at e;subst e;exact ⟨u,rfl,r⟩
 | succ i=>exact h2 i v (by simpa using e)
theorem zig {jf:List (Nat×Str)} {it:SI} {cc:SB} {ce:SE} {σ:St} {H:Hp} {Q:VK} {ι:Ix} {h:AH} {en:En} (S:Sim T ι h H) (er:ER T ι H en σ)
  (q:match it en h with | .ok (xs,w) h1=>(match yaQ (jf.map (·.1)) en w xs (un2 cc) (un2 ce) xs [] h1 with | .ok ys h2=>∀ ι' H' D vs,Grow ι H ι' H'->Sim T (ι'.hide D) h2 H'->RVs T (ι'.hide D) H' ys vs->H' D=some (.lst vs)->D∉ι'.all->(∀ n,ι'.refs=ι.refs++n->∀ a∈n++[D],H a=none)->Q (.ref D) H' | _=>False) | _=>False) :
  yey T.K jf (tI T it) (tT T EN cc) (tE T EN ce) σ H Q:=by
 refine ⟨ι,h,en,S,er,?_⟩
 cases e:it en h with
 | bad=>rw [e] at q;exact q
 | ex c h1=>rw [e] at q;exact q
 | ok p h1 =>
  obtain ⟨xs,w⟩:=p
  rw [e] at q
  dsimp only at q
  intro ι1 H1 J g1 S1 IR D hD
  refine ⟨fun i m ys H2=>m=xs.length-i/\i<=xs.length/\H2 D=some (.lst ys)/\∃ ι' h' vs,Grow ι1 H1 ι' H2/\Ext ι1 H1 (ι'.hide D) H2/\Sim T (ι'.hide D) h' H2/\ER T (ι'.hide D) H2 en σ/\RVs T (ι'.hide D) H2 vs ys/\D∉ι'.refs /\
   (match yaQ (jf.map (·.1)) en w xs (un2 cc) (un2 ce) (xs.drop i) vs h' with | .ok ys h2=>∀ ι' H' D vs,Grow ι H ι' H'->Sim T (ι'.hide D) h2 H'->RVs T (ι'.hide D) H' ys vs->H' D=some (.lst vs)->D∉ι'.all->(∀ n,ι'.refs=ι.refs++n->∀ a∈n++[D],H a=none)->Q (.ref D) H' | _=>False),?_,?_⟩
  ·exact ⟨xs.length,by simp,Nat.zero_le _,zat,ι1,h1,[],S1.growNew hD,Ext.hide hD,S1.hide hD,(er.mono g1).ext (Ext.hide hD),.nil,fun z=>S1.fresh hD (List.mem_append_left _ z),q⟩
  ·rintro i m ys H2 ⟨rfl,hi,hH2,ι',h',vs,g',x',S',er',rv',nD',q'⟩
   refine ⟨hH2,?_⟩
   by_cases hl:i<xs.length
   ·rw [zb2 hl] at q'
    unfold yaQ at q'
    by_cases hs:ybx w xs h'=true/\vs.length<sizeLine
    ·rw [if_pos hs] at q'
     obtain ⟨hs1,hs2⟩:=hs
     obtain ⟨go,yld⟩:=IR.go i _ h' H2 xs[i] x' S' hs1 (by simp [hl])
     refine .inr ⟨go,by rw [<- rv'.length];exact hs2,fun x H3 y=>?_⟩
     obtain ⟨g3,S3,r3⟩:=yld x H3 y
     have er3:=er'.mono g3
     obtain ⟨y1,y2,exi⟩:∃ y1 y2,xs[i] = .tup [y1,y2]:=by
      rcases yg1 cc xs[i] with z | z
      ·exact z
      ·rw [z] at q';exact q'.elim
     rw [exi] at r3
     simp only [exi,un2] at q'
     obtain ⟨aa,us,rfl,sq,rss⟩:=yc9 r3
     cases rss with
     | cons rA rB' => cases rB' with
       | cons rB rN =>
     cases rN
     refine ⟨aa,_,_,rfl,sq,ι'.hide D,h',_,S3,ER.comp2 er3 rA rB,?_⟩
     cases ec:cc (some y1::some y2::(jf.map (·.1)).map fun j=>(en[j]?).join) h' with
     | bad=>rw [ec] at q';exact q'
     | ex c h5=>rw [ec] at q';exact q'.elim
     | ok bb h5 =>
      rw [ec] at q'
      intro ι5 H5 b5 g5 S5 r5
      subst r5
      have g35:=g3.trans g5
      have hD5:H5 D=some (.lst ys):=g35.keep D _ nD' hH2
      have eι:ι5=Ix.hide ⟨ι5.refs,ι'.priv⟩ D:=by
       have:=g5.priv
       cases ι5
       simp only at this
       subst this
       rfl
      have nD5:D∉ι5.refs:=g35.outR nD' hH2
      have gG5:Grow ι1 H1 ⟨ι5.refs,ι'.priv⟩ H5:=by
       obtain ⟨n,en1,hn⟩:=g'.pre
       obtain ⟨k,ek,hk⟩:=g35.pre
       refine ⟨⟨n++k,?_,fun a ha=>?_⟩,g'.priv,fun a o na ea=>?_,fun a ha=>?_⟩
       ·show ι5.refs=_;rw [ek];show ι'.refs++k=_;rw [en1];simp
       ·rcases List.mem_append.mp ha with z | z
        ·exact hn a z
        ·have z2:=hk a z
         by_cases hr:a∈ι1.refs
         ·exact absurd z2 (g'.live a (List.mem_append_left _ hr))
         ·cases e9:H1 a with
          | none=>rfl
          | some o=>rw [g'.keep a o hr e9] at z2;cases z2
       ·exact g35.keep a o (g'.outR na ea) (g'.keep a o na ea)
       ·have:a∈(ι'.hide D).all:=by
         rcases List.mem_append.mp ha with z | z
         ·exact List.mem_append_left _ (by show a∈ι'.refs;rw [en1];exact List.mem_append_left _ z)
         ·exact List.mem_append_right _ (List.mem_cons_of_mem _ (by rw [g'.priv];exact z))
        exact g35.live a this
      have x5:Ext ι1 H1 (Ix.hide ⟨ι5.refs,ι'.priv⟩ D) H5:=eι▸x'.trans g35.ext
      have er5:=er3.mono g5
      have rv5:=(rv'.mono g35)
      cases bb with
      | false =>
       rw [if_neg Bool.false_ne_true]
       refine ⟨xs.length-(i+1),by lia,rfl,hl,hD5,⟨ι5.refs,ι'.priv⟩,h5,vs,gG5,x5,eι▸S5,eι▸er5,eι▸rv5,nD5,q'⟩
      | true =>
       rw [if_pos rfl]
       refine ⟨ι5,h5,_,S5,(ER.comp2 er3 rA rB).mono g5,?_⟩
       dsimp only at q'
       cases ee:ce (some y1::some y2::(jf.map (·.1)).map fun j=>(en[j]?).join) h5 with
       | bad=>rw [ee] at q';exact q'
       | ex c h6=>rw [ee] at q';exact q'.elim
       | ok v h6 =>
        rw [ee] at q'
        intro ι6 H6 u6 g6 S6 r6
        have g56:=g6
        have hD6:H6 D=some (.lst ys):=g56.keep D _ nD5 hD5
        have eι6:ι6=Ix.hide ⟨ι6.refs,ι'.priv⟩ D:=by
         have h1:=g6.priv
         have h2:=g5.priv
         rw [h2] at h1
         cases ι6
         simp only at h1
         subst h1
         rfl
        have nD6:D∉ι6.refs:=g56.outR nD5 hD5
        have gG6:Grow ι1 H1 ⟨ι6.refs,ι'.priv⟩ (upd H6 D (.lst (ys++[u6]))):=by
         obtain ⟨n,en1,hn⟩:=gG5.pre
         obtain ⟨k,ek,hk⟩:=g56.pre
         have hD1:∀ a o,H1 a=some o->a≠D:=fun a o ea=>zav ea hD
         refine ⟨⟨n++k,?_,fun a ha=>?_⟩,g'.priv,fun a o na ea=>?_,fun a ha=>?_⟩
         ·show ι6.refs=_;rw [ek];have z:ι5.refs=ι1.refs++n:=en1;rw [z];simp
         ·rcases List.mem_append.mp ha with z | z
          ·exact hn a z
          ·have z2:=hk a z
           by_cases hr:a∈ι1.refs
           ·exact absurd z2 (gG5.live a (List.mem_append_left _ hr))
           ·cases e9:H1 a with
            | none=>rfl
            | some o=>rw [gG5.keep a o hr e9] at z2;cases z2
         ·rw [yaC (hD1 a o ea)]
          exact g56.keep a o (gG5.outR na ea) (gG5.keep a o na ea)
         ·by_cases zD:a=D
          ·subst zD;rw [zat];simp
          ·rw [yaC zD]
           have:a∈ι5.all:=by
            rcases List.mem_append.mp ha with z | z
            ·exact List.mem_append_left _ (by have z':ι5.refs=ι1.refs++n:=en1;rw [z'];exact List.mem_append_left _ z)
            ·rw [eι];exact List.mem_append_right _ (List.mem_cons_of_mem _ (by show a∈ι'.priv;rw [g'.priv];exact z))
           exact g56.live a this
        refine ⟨hD6,xs.length-(i+1),by lia,rfl,hl,zat,⟨ι6.refs,ι'.priv⟩,h6,vs++[v],gG6,?_,?_,?_,?_,nD6,q'⟩
        ·exact (eι6▸(x'.trans (g35.ext.trans g6.ext))).trans Ext.poke
        ·exact Sim.poke (eι6▸S6) nD6
        ·exact ER.ext (eι6▸er5.mono g6) Ext.poke
        ·have:RVs T ι6 H6 (vs++[v]) (ys++[u6]):=(rv5.mono g6).append (.cons r6 .nil)
         exact RVs.ext Ext.poke (eι6▸this)
    ·rw [if_neg hs] at q';exact q'.elim
   ·have ei:i=xs.length:=by lia
    subst ei
    rw [List.drop_length] at q'
    unfold yaQ at q'
    by_cases hs:ybx w xs h'=true
    ·rw [if_pos hs] at q'
     have hp:D∉ι'.priv:=fun z=>by rw [g'.priv] at z;exact S1.plive D z hD
     refine .inl ⟨IR.stop _ _ h' H2 x' S' hs (Nat.le_refl _),q' ι' H2 D ys (g1.trans g') S' rv' hH2 (fun z=>(List.mem_append.mp z).elim nD' hp) fun n en1 a ha=>?_⟩
     obtain ⟨k,ek,hk⟩:=(g1.trans g').pre
     have:n=k:=List.append_cancel_left (en1.symm.trans ek)
     subst this
     rcases List.mem_append.mp ha with z | z
     ·exact hk a z
     ·have z':a=D:=by simpa using z
      subst z'
      cases e9:H a with
      | none=>rfl
      | some o =>
       by_cases hr:a∈ι.refs
       ·have z1:a∈ι1.refs:=by
         obtain ⟨k1,ek1,_⟩:=g1.pre
         rw [ek1];exact List.mem_append_left _ hr
        exact absurd hD (S1.live a (List.mem_append_left _ z1))
       ·rw [g1.keep a o hr e9] at hD;cases hD
    ·rw [if_neg hs] at q';exact q'.elim
theorem zih {σ:St} {H:Hp} {Q:VK} (q:tE T E (yby (jf.map (·.1)) it (un2 cc) (un2 ce)) σ H Q):yey T.K jf (tI T it) (tT T EN cc) (tE T EN ce) σ H Q:=by
 obtain ⟨ι,h,en,S,er,q⟩:=q
 refine zig S er ?_
 unfold yby at q
 cases e:it en h with
 | bad=>rw [e] at q;exact q
 | ex c h1=>rw [e] at q;exact q.elim
 | ok p h1 =>
  obtain ⟨xs,w⟩:=p
  rw [e] at q
  dsimp only at q ⊢
  cases e2:yaQ (jf.map (·.1)) en w xs (un2 cc) (un2 ce) xs [] h1 with
  | bad=>rw [e2] at q;exact q
  | ex c h1=>rw [e2] at q;exact q.elim
  | ok ys h2 =>
   rw [e2] at q
   exact fun ι' H' D vs g S' r hD nD _=>q ι' H' _ g S'.show (.fl nD (.inl hD) (r.ext Ext.show))
structure CompOk2 (X:Cx) (x₁ x₂:Str) (jf:List (Nat×Str)) (scope:Scope):Prop where
 hN:(x₁::x₂::jf.map (·.2)).Nodup
 hx:scope.names.lookup x₁=some .local
 hx2:scope.names.lookup x₂=some .local
 hjf:∀ p∈jf,X.N[p.1]? = some p.2
 hjl:∀ p∈jf,scope.names.lookup p.2=some .free
 hkind:scope.kind = .function
 hcell:∀ y∈scope.names,y.2 ≠ .cell
 hfr:∀ y∈scope.names,y.2 = .free->X.env.kindOf y.1=some .cell\/X.env.kindOf y.1=some .free
 hnames:∀ y∈scope.names,y.2 = .local->scope.names.lookup y.1=some .local
theorem zdC (hK:X.K=T.K) (C:CompOk2 X x₁ x₂ jf scope) (hcalm:X.calm=true) (hi:PIA T X (.Tuple [.Name x₁ p1,.Name x₂ p2] kk px) iter it) (hc:∀ pins cl s H fp,PTs (ya1 X pins x₁ x₂ jf scope cl s H fp) ifs (tT T EN cc)) (he:∀ pins cl s H fp,PEA T EN (ya1 X pins x₁ x₂ jf scope cl s H fp) elt ce)
  (hs:∀ x,foldedSetIterable iter X.env x=pure x:=by intro _;rfl):PEA T E X (.ListComp elt [⟨.Tuple [.Name x₁ p1,.Name x₂ p2] kk px,iter,ifs,0⟩] scope pos) (yb1 (jf.map (·.1)) it cc ce) :=
 yaV (zic hcalm hi hc he C.hN C.hx C.hx2 C.hjf C.hjl C.hkind C.hcell C.hfr C.hnames hs) fun _ _ _ q=>hK▸zih q
end
def ye4 (N:List Str) (sc:Scope) (x₁ x₂:Str) (jf:List (Nat×Str)) (scope:Scope):Bool :=
 yeL N sc x₁ jf scope && decide (x₁::x₂::jf.map (·.2)).Nodup && (scope.names.lookup x₂ == some .local)
theorem zbE {X:Cx} {N:List Str} {sc scope:Scope} {x₁ x₂:Str} {jf:List (Nat×Str)} (hN:X.N=N) (hk:∀ x,X.env.kindOf x=sc.names.lookup x) (h:ye4 N sc x₁ x₂ jf scope=true):CompOk2 X x₁ x₂ jf scope:=by
 unfold ye4 at h
 simp only [Bool.and_eq_true,decide_eq_true_eq,beq_iff_eq] at h
 obtain ⟨⟨h1,h2⟩,h3⟩:=h
 have C:=zbb hN hk h1
 exact ⟨h2,C.hx,h3,C.hjf,C.hjl,C.hkind,C.hcell,C.hfr,C.hnames⟩
section
variable {T:Tb} {E:St->XK} {X:Cx} {pos p pos' p':Pos} {a:Expr} {sa:SE}
end
end Sm
namespace Sm
open PySem PySem.Spec L2
@[simp] def ydy:F2:=fun x y h=>match x,y with
 | .str z,.int n=>if n.natAbs<2 ^ 40/\z.length*n.toNat<=1000000 then .ok (.str (repS z n.toNat)) h else .bad
 | _,_=>.bad
theorem yg2 {T:Tb} {X:Cx}:Op T X (binaryOp .Mult) ydy:=by
 refine ⟨_,zgv,fun ι h H x y u w E Q S rx ry p=>?_⟩
 unfold ydy at p
 split at p
 ·split at p
  ·rename_i hz
   obtain ⟨rfl,_,hc⟩:=ya8 rx
   rw [yaG ry]
   exact ⟨_,_,rfl,rfl,hz.1,hz.2,p.now S (yg0 hz.2 hc)⟩
  ·exact p.elim
 ·exact p.elim
end Sm
namespace Sm
open PySem PySem.Spec L2
def yeF:FM:=fun x vs h=>match x,vs with
 | .str z,[]=>if (Txt.upper z).length<=sizeLine/\(Txt.upper z).cps.all (· < 0x110000)=true then .ok (.str (Txt.upper z)) h else .bad
 | _,_=>.bad
theorem zjv {T:Tb} {X:Cx}:∃ r,MtR X "str.upper" r/\MtS T yeF r:=by
 refine ⟨_,zie,fun ι h H x xs u us E Q S rx rs q=>?_⟩
 unfold yeF at q
 split at q
 ·split at q
  ·rename_i hz
   cases rs
   obtain ⟨rfl,_⟩:=ya8 rx
   exact ⟨_,rfl,rfl,hz.1,q.now S (.str hz.1 hz.2)⟩
  ·exact q.elim
 ·exact q.elim
section
variable {T:Tb} {E:St->XK} {X:Cx} {pos:Pos} {a:Expr} {sa:SE} {sts:List Stmt} {s1:SS}
end
end Sm
namespace L2
open PySem PySem.Spec
theorem Room.m {j k:Nat} {A:Around} (hr:Room k A) (h:Nat.ble j k=true:=by rfl):Room j A:=hr.mono (Nat.le_of_ble_eq_true h)
end L2
namespace Sm
open PySem PySem.Spec L2
def DK (K:PySem.W.Frag) (x:Str) (st:Stmt):Prop:=∃ f fd,PySem.W.nsIn K mainGlobals x=some (some (.ref f))/\Fun K x x st f fd
def DN (K:PySem.W.Frag) (C:Addr) (m q:Str) (st:Stmt):Prop:=∃ f fd,Meth K C m f/\Fun K m q st f fd
def DMm (K:PySem.W.Frag) (cls:Nat->Option Addr) (c:Nat) (m q:Str) (st:Stmt) (ps:List Str):Prop:=∃ C f fd,cls c=some C/\Cls K C/\Meth K C m f/\Binds K fd ps []/\Fun K m q st f fd
def DI (K:PySem.W.Frag) (cls:Nat->Option Addr) (mg:Str->Option Value) (c:Nat) (x q:Str) (st:Stmt) (ps:List Str):Prop:=∃ C f fd,cls c=some C/\mg x=some (.ref C)/\Mk K C f/\Binds K fd ps []/\Fun K "__init__" q st f fd
section
variable {P:Program} {w:World} {K:PySem.W.Frag} {mg:Str->Option Value} {base h:Heap} {T:Tb} {x m q:Str} {st:Stmt} {f C:Addr} {N ps:List Str} {k c:Nat} {b:SS} {cls:Nat->Option Addr}
section
variable {oc:Value} {od an:Option Addr} {osl:Array (Option Value)} {kV doc pm cdv ct:Value}
theorem dk (a:PySem.W.nsIn K mainGlobals x=some (some (.ref f))) (l:K.lookup f=some ⟨oc,od,.func (PySem.W.fnOf x x (yc1 st) (ycb st) (yah st) .none kV doc pm an cdv ct),osl⟩)
  (c:PySem.W.codeIn K cdv x=true) (k:PySem.W.keepIn K (.ref f)=true):DK K x st:=⟨f,_,a,yfv l c k⟩
theorem dn (a:PySem.W.findIn K (.ref C) m=some (some (.ref f))) (i:PySem.W.isFn K (.ref f)=true) (l:K.lookup f=some ⟨oc,od,.func (PySem.W.fnOf m q (yc1 st) (ycb st) (yah st) .none kV doc pm an cdv ct),osl⟩)
  (c:PySem.W.codeIn K cdv q=true) (k:PySem.W.keepIn K (.ref f)=true):DN K C m q st:=⟨f,_,⟨a,i,k⟩,yfv l c k⟩
end
abbrev BA (x q:Str) (st:Stmt) (us:List Value) (r:List (Str×Value)):Prop:=∀ (kV doc pm:Value) (an:Option Addr) (cdv ct:Value),bindArgs (PySem.W.fnOf x q (yc1 st) (ycb st) (yah st) .none kV doc pm an cdv ct) ⟨us,[]⟩=pure r
def BL (x q:Str) (st:Stmt) (ps:List Str):Prop:=∀ (us:List Value),us.length=ps.length->BA x q st us (ps.zip us)
theorem bl1 {p1:Str} (h:∀ a,BA x q st [a] [(p1,a)]:=by exact fun _ _ _ _ _ _ _=>rfl):BL x q st [p1]:=fun us e=>by obtain ⟨_,rfl⟩:=el1 e;exact h _
theorem bl2 {p1 p2:Str} (h:∀ a b,BA x q st [a,b] [(p1,a),(p2,b)]:=by exact fun _ _ _ _ _ _ _ _=>rfl):BL x q st [p1,p2]:=fun us e=>by obtain ⟨_,_,rfl⟩:=el2 e;exact h _ _
theorem bl3 {p1 p2 p3:Str} (h:∀ a b c,BA x q st [a,b,c] [(p1,a),(p2,b),(p3,c)]:=by exact fun _ _ _ _ _ _ _ _ _=>rfl):BL x q st [p1,p2,p3]:=fun us e=>by obtain ⟨_,_,_,rfl⟩:=el3 e;exact h _ _ _
theorem bl4 {p1 p2 p3 p4:Str} (h:∀ a b c d,BA x q st [a,b,c,d] [(p1,a),(p2,b),(p3,c),(p4,d)]:=by exact fun _ _ _ _ _ _ _ _ _ _=>rfl):BL x q st [p1,p2,p3,p4]:=fun us e=>by obtain ⟨_,_,_,_,rfl⟩:=el4 e;exact h _ _ _ _
theorem dg (X:K.In h) (G:h.Ns mainGlobals mg) (d:DK K x st) (hb:BL x x st ps):DG K mg x st ps:=by
 obtain ⟨f,fd,a,F⟩:=d
 exact ⟨f,fd,PySem.W.mg_of X G a,F.kp,F.binds fun _ _ _ _ _ _ us hl=>hb us hl _ _ _ _ _ _,F⟩
theorem dm (hc:cls c=some C) (k:Cls K C) (d:DN K C m q st) (hb:BL m q st ps):DMm K cls c m q st ps:=by
 obtain ⟨f,fd,M,F⟩:=d
 exact ⟨C,f,fd,hc,k,M,F.binds fun _ _ _ _ _ _ us hl=>hb us hl _ _ _ _ _ _,F⟩
theorem di (hc:cls c=some C) (hx:mg x=some (.ref C)) (mk:PySem.W.makesIn K C=true) (kc:PySem.W.keepIn K (.ref C)=true) (d:DN K C "__init__" q st) (hb:BL "__init__" q st ps):DI K cls mg c x q st ps:=by
 obtain ⟨f,fd,M,F⟩:=d
 exact ⟨C,f,fd,hc,hx,⟨mk,M.at_,M.fn,kc⟩,F.binds fun _ _ _ _ _ _ us hl=>hb us hl _ _ _ _ _ _,F⟩
theorem dlaw {fa:Addr} {p:Str} (X:K.In h) (G:h.Ns mainGlobals mg) (hfa:mg x=some (.ref fa)) (d:DK K x st) (hb:BL x x st [p]):∃ fd:FuncData,(∀ (s:Shared) (v:Value),BindsTo s fd ⟨[v],[]⟩ [(p,v)])/\Fun K x x st fa fd:=by
 obtain ⟨f,fd,a,F⟩:=d
 have e:=hfa.symm.trans (PySem.W.mg_of X G a)
 cases e
 refine ⟨fd,fun s v=>?_,F⟩
 obtain ⟨oc,od,kV,doc,pm,an,cdv,ct,osl,rfl,lk,hcd⟩:=F.ex
 exact .of_eq (hb [v] rfl _ _ _ _ _ _)
theorem fsk {sc:Scope} (h1:sc.kind = .function:=by rfl) (h2:sc.isCoroutine=false:=by rfl) (h3:sc.isGenerator=false:=by rfl) (h4:N.Nodup:=by decide +kernel) (h5:N.take ps.length=ps:=by rfl)
  (h6:∀ x∈ps,sc.names.lookup x=some .local\/sc.names.lookup x=some .cell:=by decide +kernel) (h7:∀ y∈sc.names,y.2 ≠ .free:=by decide +kernel):FnScope N ps sc:=⟨h1,h2,h3,h4,h5,h6,h7⟩
abbrev yeV (P:Program) (w:World) (mg:Str->Option Value) (base:Heap) (T:Tb) (q:Str) (st:Stmt) (f:Addr) (N:List Str) (k:Nat) (b:SS):Prop :=
 ∀ {cdv:Value} {A:Around} {outer:List Env} {s:Shared} {H:Hp} {E:XK},Room k (A.deeper (PyProof.Rows.envOfC q (yah st) s.heap.objs.size f cdv))->CA T (fun _=>E) (cxOf (CXE P w) P w T.K mg base N q (yah st) f cdv A outer s H E) ->
  (A.deeper (PyProof.Rows.envOfC q (yah st) s.heap.objs.size f cdv)).units+64<cLine->N.Nodup->PSsA T (fun _=>E) (cxOf (CXE P w) P w T.K mg base N q (yah st) f cdv A outer s H E) (ycb st) b
theorem gf (d:DG T.K mg x st ps) (S:FnScope N ps (yah st)) (hb:∀ {f},yeV P w mg base T x st f N k b):GF P w T mg base (k+1) x (mkFn ps.length N.length b):=by
 obtain ⟨f,fd,h1,h2,h3,h4⟩:=d
 exact ⟨f,fd,_,h1,h2,h3,okA h4 rfl S fun cdv A outer s H E hr C=>hb hr C (hu64 hr) S.nd⟩
theorem gm (d:DMm T.K T.cls c m q st ps) (S:FnScope N ps (yah st)) (no:m∉T.fields c) (hb:∀ {f},yeV P w mg base T q st f N k b):GM P w T mg base (k+1) c m (mkFn ps.length N.length b):=by
 obtain ⟨C,f,fd,h0,hc,h1,h3,h4⟩:=d
 exact ⟨⟨C,f,fd,_,h0,hc,h1,h3,okA h4 rfl S fun cdv A outer s H E hr C=>hb hr C (hu64 hr) S.nd⟩,no⟩
theorem gk (d:DI T.K T.cls mg c x q st ps) (S:FnScope N ps (yah st)) (hb:∀ {f},yeV P w mg base T q st f N k b):GK P w T mg base (k+1) c x (mkFn ps.length N.length b):=by
 obtain ⟨C,f,fd,h0,h1,h2,h3,h4⟩:=d
 exact ⟨C,f,fd,_,h0,h1,h2,h3,okA h4 rfl S fun cdv A outer s H E hr C=>hb hr C (hu64 hr) S.nd⟩
theorem gl {f:Addr} {fd:FuncData} (h4:Fun T.K x x st f fd) (S:FnScope N ps (yah st)) (hb:yeV P w mg base T x st f N k b):FnOk P w T.K mg base (CXE P w) (k+1) f fd ps (spA T (mkFn ps.length N.length b)) :=
 okA h4 rfl S fun cdv A outer s H E hr C=>hb hr C (hu64 hr) S.nd
def XI (K:PySem.W.Frag) (X:Addr):Prop:=PySem.W.excIn K X [.type "ValueError",.type "Exception",.type "BaseException",.type "object"] "ValueError.__new__" = true
theorem xi {X:Addr} (h:PySem.W.excIn K X [.type "ValueError",.type "Exception",.type "BaseException",.type "object"] "ValueError.__new__" = true):XI K X:=h
theorem gx {X:Addr} {n:Nat} {g:Heap} (KB:K.In g) (KX:K.In h) (G:h.Ns mainGlobals mg) (hc:T.exc n=some X) (e:PySem.W.nsIn K mainGlobals x=some (some (.ref X))) (hx:XI K X):GX T mg g n x:=⟨X,hc,zh8 KB (PySem.W.mg_of KX G e) hx⟩
def NA (K:PySem.W.Frag) (x:Str) (v:Option Value):Prop:=PySem.W.nsIn K mainGlobals x=some v
theorem na {v:Option Value} (h:PySem.W.nsIn K mainGlobals x=some v):NA K x v:=h
def FA (K:PySem.W.Frag) (C:Addr) (x:Str):Prop:=PySem.W.findIn K (.ref C) x=some none
theorem fatt (h:PySem.W.findIn K (.ref C) x=some none):FA K C x:=h
end
end Sm
namespace L2
open PySem PySem.Spec PyProof.Rows
theorem zeK:∀ {ns:List Int} {us:List Value},Vals (ns.map V.int) us->IntsAre us ns
 | [],_,.nil=>.nil
 | n::ns,_,.cons r rs=>by obtain ⟨t,rfl⟩:=r;exact .cons _ _ (zeK rs)
theorem zfg {X:Cx}:CallR X (.builtin "sorted") (fun xs H Q=>∃ (a:Addr) (ns:List Int),xs=[.ref a]/\SqL X.K H a (ns.map V.int)/\ns.length<64/\∀ (p:Addr) (ns':List Int),H p=none->ns'.Perm ns->ns'.Pairwise (· <= ·)->Q (.ref p) (upd H p (.lst (ns'.map V.int)))):=by
 intro pins s σ H xs us Q I rv h
 obtain ⟨a,ns,rfl,sq,hl,q⟩:=h
 obtain ⟨u,rfl,ru⟩:=Vals.one rv
 obtain rfl:u=Value.ref a:=ru
 obtain ⟨its,r,p,_⟩:=I.list sq
 have hI:=zeK r
 have hlen:=IntsAre.length hI
 refine sorted_ints p.isList hI (by lia) fun out ns' o1 o2 o3=>?_
 obtain ⟨e,he⟩:=sortedAll_at s.heap its out
 have l2:ns'.length=ns.length:=o2.length_eq
 refine ⟨.ref (s.heap.objs.size+1),_,I.laid (t' := s.toks) (o:=.lst (ns'.map V.int)) (fun b o hb=>sortedAll_old hb) (Nat.le_succ _) ⟨?_,out.toList,e,zbZ o1,?_⟩,rfl,q _ ns' (I.hok.fresh (Nat.le_succ _)) o2 o3⟩
 ·rw [List.length_map,l2];exact Nat.le_trans (Nat.le_of_lt hl) (by decide)
 ·rw [he]
end L2
namespace Sm
open PySem PySem.Spec L2
@[simp] def ydQ:Fn:=fun xs h=>match xs with
 | [v]=>match ybw v h with
  | some [.int a,.int b]=>.ok (.fl [.int (min a b),.int (max a b)]) h
  | _=>.bad
 | _=>.bad
theorem yh7 {a b:Int} {ns:List Int} (h:ns.Perm [a,b]) (s:ns.Pairwise (· <= ·)):ns=[min a b,max a b]:=by
 have l:=h.length_eq
 obtain ⟨x,y,rfl⟩:∃ x y,ns=[x,y]:=by
  match ns,l with
  | [x,y],_=>exact ⟨x,y,rfl⟩
 have hxy:x<=y:=by simpa using s
 have m1:x∈[a,b]:=h.mem_iff.mp (by simp)
 have m2:y∈[a,b]:=h.mem_iff.mp (by simp)
 have m3:a∈[x,y]:=h.mem_iff.mpr (by simp)
 have m4:b∈[x,y]:=h.mem_iff.mpr (by simp)
 simp only [List.mem_cons,List.not_mem_nil,or_false] at m1 m2 m3 m4
 have:x=min a b/\y=max a b:=by lia
 rw [this.1,this.2]
theorem zjw {T:Tb} {X:Cx} (hK:X.K=T.K):∃ r,CallR X (.builtin "sorted") r/\ydg T ydQ r:=by
 refine ⟨_,zfg,fun ι h H xs us E Q S r q=>?_⟩
 unfold ydQ at q
 split at q
 ·split at q
  ·rename_i v _ a b hv
   cases r with
   | cons r r' =>
    cases r'
    obtain ⟨ad,us,rfl,sq,rs⟩:=ybN S r hv
    cases rs with
    | cons r1 rs =>
     cases rs with
     | cons r2 rs =>
      cases rs
      rw [yaG r1,yaG r2] at sq
      refine ⟨ad,[a,b],rfl,hK▸sq,(by show 2<64;decide),fun p ns' n pm so=>?_⟩
      rw [yh7 pm so]
      exact yd9 S (.cons (.int _) (.cons (.int _) .nil)) n q
  ·exact q.elim
 ·exact q.elim
end Sm
namespace Sk
open PySem PySem.Spec L2 Sm
abbrev ygf:Nat:=0
abbrev yir:Nat:=1
abbrev yh8:Nat:=2
abbrev yfU:Nat:=3
abbrev yfh:Nat:=4
abbrev yfi:Nat:=5
abbrev yh9:Nat:=6
def ych:Fn:=mkFn 1 1
  (sSeq (ycp 0 0 (sVar 0) (ybv sNil))
  (sSeq (ycp 0 1 (sVar 0) (yfZ true))
  (sSeq (ycp 0 2 (sVar 0) (ybv (yab (sLit (.int 0)) sNil)))
  (sSeq (ycp 0 3 (sVar 0) (ybv (yab (sLit (.int 0)) sNil)))
  (sSeq (ycp 0 4 (sVar 0) (ybv (yab (sLit (.int 0)) sNil)))
  (sSeq (ycp 0 5 (sVar 0) (ybv (yab (sOp1 fNeg (sLit (.int 1))) sNil)))
  (sSeq (ycp 0 6 (sVar 0) (ybv (yab (sLit (.int 0)) sNil)))
  (ycp 0 7 (sVar 0) (ybv (yab (sLit (.int 0)) sNil))))))))))
def yau:Fn:=mkFn 2 3
  (sSeq (sSet 2 (sOp2 fMod (sOp2 fIx (sVar 0) (sLit (.int 0))) (sVar 1)))
  (sSeq (yez (sVar 0) (sLit (.int 0)) (sOp2 fDiv (sOp2 fIx (sVar 0) (sLit (.int 0))) (sVar 1)))
  (sRet (sVar 2))))
def ybB:SS :=
  (sSet 5 (sOp2 fAdd (sVar 5) (sOp2 fIx (sVar 4) (yae yau (yab (sVar 0) (yab (yae fLen (yab (sVar 4) sNil)) sNil))))))
def ycA:Fn:=mkFn 2 7
  (sSeq (sSet 2 (sLit (.str "abcdefghijklmnopqrstuvwxyz")))
  (sSeq (sSet 3 (sOp2 fAdd (sOp2 fAdd (sVar 2) (sBM0 yek yeF (sVar 2))) (sLit (.str " !#$&'()*+,-./0123456789:;<=>?\x40[]^_{|}~\n\\"))))
  (sSeq (sSet 4 (sOp2 fIx (sLst (yab (sLit (.str "a")) (yab (sLit (.str "ab")) (yab (sLit (.str "ab\n")) (yab (sLit (.str "a \n~")) (yab (sVar 3) sNil)))))) (yae yau (yab (sVar 0) (yab (sLit (.int 5)) sNil)))))
  (sSeq (sSet 5 (sLit (.str "")))
  (sSeq (sFor (ybT (yae yau (yab (sVar 0) (yab (sOp2 fAdd (sVar 1) (sLit (.int 1))) sNil)))) (.nm 6) ybB)
  (sRet (sVar 5)))))))
def ybd:SS :=
  (sSeq (sSet 4 (sOp2 fAdd (yae ycA (yab (sVar 0) (yab (sLit (.int 19)) sNil))) (sLit (.str "z"))))
  (sSeq (sSet 5 (sOp2 fDiv (sVar 2) (yae fLen (yab (sVar 4) sNil))))
  (sSeq (sSet 6 (yae yau (yab (sVar 0) (yab (sOp2 fAdd (yae yb3 (yab (sVar 5) (yab (sOp2 fIx (sLst (yab (sLit (.int 3)) (yab (sLit (.int 40)) (yab (sLit (.int 400)) (yab (sOp2 fPow (sLit (.int 10)) (sLit (.int 6))) (yab (sOp2 fPow (sLit (.int 10)) (sLit (.int 18))) sNil)))))) (yae yau (yab (sVar 0) (yab (sLit (.int 5)) sNil)))) sNil))) (sLit (.int 1))) sNil))))
  (sSeq (sIf (yao (sOp2 fGt (sVar 6) (sLit (.int 0)))) (yaK (sBM yax yaA (sVar 1) (yab (sTup (yab (sVar 4) (yab (sVar 6) sNil))) sNil))) yay)
  (sSet 2 (sOp2 fSub (sVar 2) (sOp2 fMul (sVar 6) (yae fLen (yab (sVar 4) sNil)))))))))
def ycP:Fn:=mkFn 1 7
  (sSeq (sSet 1 (ybv sNil))
  (sSeq (sSet 2 (sOp2 fPow (sLit (.int 10)) (sLit (.int 18))))
  (sSeq (sFor (ybT (sOp2 fAdd (sLit (.int 1)) (yae yau (yab (sVar 0) (yab (sLit (.int 3)) sNil))))) (.nm 3) ybd)
  (sRet (sVar 1)))))
def ybW:Fn:=mkFn 2 3
  (sSeq (sSet 2 (sOp2 fMod (sOp2 fMul (sOp2 fAdd (sOp2 fAdd (sOp2 fMod (sVar 0) (sLit (.int 1000000007))) (sOp2 fMul (sLit (.int 7919)) (sVar 1))) (sLit (.int 101))) (sLit (.int 48271))) (sLit (.int 2147483647))))
  (sRet (sOp2 fMod (sOp2 fMul (sOp2 fMod (sOp2 fMul (sVar 2) (sVar 2)) (sLit (.int 2147483629))) (sLit (.int 69621))) (sLit (.int 2147483647)))))
def ybJ:SS :=
  (sSet 2 (sOp2 fAdd (sOp2 fMul (sVar 2) (sOp2 fMul (sOp2 fPow (sLit (.int 10)) (sLit (.int 60))) (sOp2 fPow (sLit (.int 10)) (sLit (.int 60))))) (sOp2 fMod (sOp2 fIx (sVar 0) (sVar 3)) (sOp2 fMul (sOp2 fPow (sLit (.int 10)) (sLit (.int 60))) (sOp2 fPow (sLit (.int 10)) (sLit (.int 60)))))))
def ybK:SS :=
  (sSet 4 (sOp2 fAdd (sOp2 fMul (sVar 4) (sLit (.int 2147483647))) (yae ybW (yab (sOp2 fAdd (sOp2 fAdd (sVar 2) (sOp2 fMul (sLit (.int 1009)) (sVar 1))) (yae fLen (yab (sVar 0) sNil))) (yab (sVar 3) sNil)))))
def ybr:Fn:=mkFn 2 5
  (sSeq (sSet 2 (sLit (.int 0)))
  (sSeq (sFor (yct (sVar 1) (yae fLen (yab (sVar 0) sNil)) (sLit (.int 12))) (.nm 3) ybJ)
  (sSeq (sIf (yao (sOp2 fGe (sVar 2) (sOp2 fPow (sLit (.int 10)) (sLit (.int 18))))) (sRet (ybv (yab (sVar 2) sNil))) yay)
  (sSeq (sSet 2 (sOp2 fAdd (sVar 2) (yae fSum (yab (yby [] (iVal (sVar 0)) sYes (sOp2 fMod (sVar 0) (sOp2 fPow (sLit (.int 10)) (sLit (.int 18))))) sNil))))
  (sSeq (sSet 4 (sLit (.int 0)))
  (sSeq (sFor (ybT (sLit (.int 12))) (.nm 3) ybK)
  (sRet (ybv (yab (sVar 4) sNil)))))))))
def ya9:SS :=
  (sSet 2 (sOp2 fAdd (sOp2 fMul (sVar 2) (sLit (.int 2147483647))) (yae ybW (yab (sOp2 fAdd (sVar 0) (sOp2 fMul (sLit (.int 1009)) (sVar 1))) (yab (sVar 3) sNil)))))
def ybk:Fn:=mkFn 2 4
  (sSeq (sSet 0 (sOp2 fMod (sVar 0) (sOp2 fMul (sOp2 fPow (sLit (.int 10)) (sLit (.int 60))) (sOp2 fPow (sLit (.int 10)) (sLit (.int 60))))))
  (sSeq (sIf (yao (sOp2 fGe (sVar 0) (sOp2 fPow (sLit (.int 10)) (sLit (.int 18))))) (sRet (ybv (yab (sVar 0) sNil))) yay)
  (sSeq (sSet 2 (sLit (.int 0)))
  (sSeq (sFor (ybT (sLit (.int 8))) (.nm 3) ya9)
  (sRet (ybv (yab (sVar 2) sNil)))))))
def ybH:Fn:=mkFn 2 2
  (sRet (sOp2 fIx (sVar 0) (yae yau (yab (sVar 1) (yab (yae fLen (yab (sVar 0) sNil)) sNil)))))
def ybe:Fn:=mkFn 1 1
  (sRet (yae fSum (yab (yb1 [] (ya4 (sVar 0)) sYes (sOp2 fMul (yae fLen (yab (sVar 0) sNil)) (sVar 1))) sNil)))
def yba:SS :=
  (sSeq (sSet 7 (sOp2 fMul (yae fLen (yab (sVar 5) sNil)) (sVar 6)))
  (sSeq (sSet 8 (sOp2 fSub (yae ybG (yab (sVar 1) (yab (sVar 4) sNil))) (sVar 4)))
  (sSeq (sSet 9 (sOp2 fSub (yae yb3 (yab (sVar 2) (yab (sOp2 fAdd (sVar 4) (sVar 7)) sNil))) (sVar 4)))
  (sSeq (sSet 4 (sOp2 fAdd (sVar 4) (sVar 7)))
  (sIf (yao (sOp2 fLt (sVar 8) (sVar 9))) (sSeq (sSet 10 (sOp2 fDiv (sVar 8) (yae fLen (yab (sVar 5) sNil))))
  (sSeq (sSet 11 (sOp2 fDiv (sOp2 fSub (sVar 9) (sLit (.int 1))) (yae fLen (yab (sVar 5) sNil))))
  (sSeq (sSet 12 (sOp2 fMul (sVar 10) (yae fLen (yab (sVar 5) sNil))))
  (sIf (yao (sOp2 fEq (sVar 10) (sVar 11))) (yaK (sBM yax yaA (sVar 3) (yab (sTup (yab (sCut (sVar 5) (some (sOp2 fSub (sVar 8) (sVar 12))) (some (sOp2 fSub (sVar 9) (sVar 12)))) (yab (sLit (.int 1)) sNil))) sNil))) (sSeq (yaK (sBM yax yaA (sVar 3) (yab (sTup (yab (sCut (sVar 5) (some (sOp2 fSub (sVar 8) (sVar 12))) none) (yab (sLit (.int 1)) sNil))) sNil)))
  (sSeq (sIf (yao (sOp2 fGt (sVar 11) (sOp2 fAdd (sVar 10) (sLit (.int 1))))) (yaK (sBM yax yaA (sVar 3) (yab (sTup (yab (sVar 5) (yab (sOp2 fSub (sOp2 fSub (sVar 11) (sVar 10)) (sLit (.int 1))) sNil))) sNil))) yay)
  (yaK (sBM yax yaA (sVar 3) (yab (sTup (yab (sCut (sVar 5) none (some (sOp2 fSub (sVar 9) (sOp2 fMul (sVar 11) (yae fLen (yab (sVar 5) sNil)))))) (yab (sLit (.int 1)) sNil))) sNil))))))))) yay)))))
def yaF:Fn:=mkFn 3 13
  (sSeq (sSet 3 (ybv sNil))
  (sSeq (sSet 4 (sLit (.int 0)))
  (sSeq (sFor (ya4 (sVar 0)) (.tup [5,6]) yba)
  (sRet (sVar 3)))))
def ybs:Fn:=mkFn 1 1
  (sRet (yae fLen (yab (Sm.sFld 0 0 (sVar 0)) sNil)))
def ydh:Fn:=mkFn 1 1
  (sRet (yeQ (sIsB "int" (sVar 0)) (yf0 (sIsB "bool" (sVar 0)))))
def ybY:Fn:=mkFn 2 2
  (sRet (yeQ (yae ydh (yab (sVar 1) sNil)) (ycg fLe fLe (sLit (.int 1)) (sVar 1) (yae fLen (yab (Sm.sFld 0 0 (sVar 0)) sNil)))))
def ya3:Fn:=mkFn 2 2
  (sIf (sNot (ydV (yam 0 ybY (sVar 0) (yab (sVar 1) sNil)))) (yb0 2 (yab (sLit (.str "no piece of the shelf has this number")) sNil)) yay)
def yaY:Fn:=mkFn 2 2
  (sIf (yao (sOp2 fNe (sVar 1) (sLit (.int 0)))) (yaK (yam 0 ya3 (sVar 0) (yab (sVar 1) sNil))) yay)
def yaz:Fn:=mkFn 2 2
  (sSeq (yaK (yam 0 yaY (sVar 0) (yab (sVar 1) sNil)))
  (sRet (sOp2 fIx (Sm.sFld 0 2 (sVar 0)) (sVar 1))))
def ybA:Fn:=mkFn 4 5
  (sSeq (sSet 4 (yam 0 yaz (sVar 0) (yab (sVar 1) sNil)))
  (sIf (sNot (yao (yeM fLe fLe fLe (sLit (.int 0)) (sVar 2) (sVar 3) (sVar 4)))) (yb0 6 (yab (sLit (.str "the text has no such stretch")) sNil)) yay))
def yaH:Fn:=mkFn 2 2
  (sSeq (yaK (yam 0 ya3 (sVar 0) (yab (sVar 1) sNil)))
  (sRet (sOp2 fIx (Sm.sFld 0 0 (sVar 0)) (sOp2 fSub (sVar 1) (sLit (.int 1))))))
def ybL:Fn:=mkFn 1 1
  (sIf (yao (sOp2 fGt (sVar 0) (sLit (.int 1000000000000000000)))) (yb0 5 (yab (sLit (.str "the text would have more than 10 ** 18 signs")) sNil)) yay)
def ybE:Fn:=mkFn 2 2
  (sSeq (yaK (yam 0 yaY (sVar 0) (yab (sVar 1) sNil)))
  (sRet (sOp2 fIx (Sm.sFld 0 7 (sVar 0)) (sVar 1))))
def ybt:Fn:=mkFn 2 2
  (sSeq (yaK (yam 0 yaY (sVar 0) (yab (sVar 1) sNil)))
  (sRet (sOp2 fIx (Sm.sFld 0 6 (sVar 0)) (sVar 1))))
def yc7:Fn:=mkFn 3 3
  (sRet (sOp2 fGt (sOp2 fAdd (yam 0 yaz (sVar 0) (yab (yam 0 ybE (sVar 0) (yab (sVar 1) sNil)) sNil)) (yam 0 yaz (sVar 0) (yab (yam 0 ybt (sVar 0) (yab (sVar 2) sNil)) sNil))) (sLit (.int 8))))
def yaZ:Fn:=mkFn 3 4
  (sSeq (yaK (yam 0 ya3 (sVar 0) (yab (sVar 1) sNil)))
  (sSeq (yaK (yam 0 ya3 (sVar 0) (yab (sVar 2) sNil)))
  (sSeq (sSet 3 (sOp2 fAdd (sOp2 fIx (Sm.sFld 0 2 (sVar 0)) (sOp2 fIx (Sm.sFld 0 7 (sVar 0)) (sVar 1))) (sOp2 fIx (Sm.sFld 0 2 (sVar 0)) (sOp2 fIx (Sm.sFld 0 6 (sVar 0)) (sVar 2)))))
  (sSeq (sIf (yao (sOp2 fLe (sVar 3) (sLit (.int 8)))) (yb0 3 (yab (sLit (.str "the leaves where the parts meet have no more than eight signs together")) sNil)) yay)
  (sSeq (sIf (yao (sOp2 fGt (yae fAbs (yab (sOp2 fSub (sOp2 fIx (Sm.sFld 0 5 (sVar 0)) (sVar 1)) (sOp2 fIx (Sm.sFld 0 5 (sVar 0)) (sVar 2))) sNil)) (sLit (.int 1)))) (yb0 4 (yab (sLit (.str "the heights of the parts differ by more than one")) sNil)) yay)
  (sIf (yao (sOp2 fGt (sOp2 fAdd (sOp2 fIx (Sm.sFld 0 2 (sVar 0)) (sVar 1)) (sOp2 fIx (Sm.sFld 0 2 (sVar 0)) (sVar 2))) (sLit (.int 1000000000000000000)))) (yb0 5 (yab (sLit (.str "the fork would have more than 10 ** 18 signs")) sNil)) yay))))))
def ycB:Fn:=mkFn 2 3
  (sSeq (yaK (sBM yax yaA (Sm.sFld 0 0 (sVar 0)) (yab (sVar 1) sNil)))
  (sSeq (sSet 2 (yae fLen (yab (Sm.sFld 0 0 (sVar 0)) sNil)))
  (sSeq (yez (Sm.sFld 0 1 (sVar 0)) (sVar 1) (sVar 2))
  (sRet (sVar 2)))))
def ybO:Fn:=mkFn 2 4
  (sSeq (yaK (yam 0 ycB (sVar 0) (yab (sVar 1) sNil)))
  (sSeq (sSet 2 (sOp2 fIx (sVar 1) (sLit (.int 1))))
  (sSeq (sSet 3 (sOp2 fIx (sVar 1) (sLit (.int 2))))
  (sSeq (yaK (sBM yax yaA (Sm.sFld 0 2 (sVar 0)) (yab (sOp2 fAdd (sOp2 fIx (Sm.sFld 0 2 (sVar 0)) (sVar 2)) (sOp2 fIx (Sm.sFld 0 2 (sVar 0)) (sVar 3))) sNil)))
  (sSeq (yaK (sBM yax yaA (Sm.sFld 0 3 (sVar 0)) (yab (sOp2 fAdd (sOp2 fIx (Sm.sFld 0 3 (sVar 0)) (sVar 2)) (sOp2 fIx (Sm.sFld 0 3 (sVar 0)) (sVar 3))) sNil)))
  (sSeq (yaK (sBM yax yaA (Sm.sFld 0 4 (sVar 0)) (yab (sOp2 fAdd (sOp2 fIx (Sm.sFld 0 4 (sVar 0)) (sVar 2)) (sOp2 fIx (Sm.sFld 0 4 (sVar 0)) (sVar 3))) sNil)))
  (sSeq (yaK (sBM yax yaA (Sm.sFld 0 5 (sVar 0)) (yab (sOp2 fAdd (yae ybG (yab (sOp2 fIx (Sm.sFld 0 5 (sVar 0)) (sVar 2)) (yab (sOp2 fIx (Sm.sFld 0 5 (sVar 0)) (sVar 3)) sNil))) (sLit (.int 1))) sNil)))
  (sSeq (yaK (sBM yax yaA (Sm.sFld 0 6 (sVar 0)) (yab (sOp2 fIx (Sm.sFld 0 6 (sVar 0)) (sVar 2)) sNil)))
  (yaK (sBM yax yaA (Sm.sFld 0 7 (sVar 0)) (yab (sOp2 fIx (Sm.sFld 0 7 (sVar 0)) (sVar 3)) sNil)))))))))))
def yag:Fn:=mkFn 3 4
  (sSeq (yaK (yam 0 yaZ (sVar 0) (yab (sVar 1) (yab (sVar 2) sNil))))
  (sSeq (sSet 3 (sTup (yab (sLit (.str "fork")) (yab (sVar 1) (yab (sVar 2) sNil)))))
  (sSeq (sIf (yao (sOp2 yeZ (sVar 3) (Sm.sFld 0 1 (sVar 0)))) (yaK (yam 0 ybO (sVar 0) (yab (sVar 3) sNil))) yay)
  (sRet (sOp2 fIx (Sm.sFld 0 1 (sVar 0)) (sVar 3))))))
def ydC (G:Fn):Fn:=mkFn 3 4
  (sSeq (sSet 3 (yam 0 yaH (sVar 0) (yab (sVar 1) sNil)))
  (sSeq (sIf (yao (sOp2 fEq (sOp2 fIx (sVar 3) (sLit (.int 0))) (sLit (.str "leaf")))) (sRet (sVar 2)) yay)
  (sRet (yam 0 yag (sVar 0) (yab (sOp2 fIx (sVar 3) (sLit (.int 1))) (yab (yae G (yab (sVar 0) (yab (sOp2 fIx (sVar 3) (sLit (.int 2))) (yab (sVar 2) sNil)))) sNil))))))
def ya7:Nat->Fn
 | 0=>mkFn 3 4 (fun _ _=>.bad)
 | d+1=>ydC (ya7 d)
def yaB:Fn:=mkFn 2 2
  (sSeq (yaK (yam 0 yaY (sVar 0) (yab (sVar 1) sNil)))
  (sRet (sOp2 fIx (Sm.sFld 0 5 (sVar 0)) (sVar 1))))
def yaT:Fn:=mkFn 3 7
  (sSeq (sIf (yao (sOp2 fLt (sOp2 fSub (yam 0 yaB (sVar 0) (yab (sVar 2) sNil)) (yam 0 yaB (sVar 0) (yab (sVar 1) sNil))) (sLit (.int 2)))) (sRet (yam 0 yag (sVar 0) (yab (sVar 1) (yab (sVar 2) sNil)))) yay)
  (sSeq (sSet 3 (yam 0 yaH (sVar 0) (yab (sVar 2) sNil)))
  (sSeq (sSet 4 (sOp2 fIx (sVar 3) (sLit (.int 1))))
  (sSeq (sSet 5 (sOp2 fIx (sVar 3) (sLit (.int 2))))
  (sSeq (sIf (yao (sOp2 fLe (yam 0 yaB (sVar 0) (yab (sVar 4) sNil)) (yam 0 yaB (sVar 0) (yab (sVar 5) sNil)))) (sRet (yam 0 yag (sVar 0) (yab (yam 0 yag (sVar 0) (yab (sVar 1) (yab (sVar 4) sNil))) (yab (sVar 5) sNil)))) yay)
  (sSeq (sSet 6 (yam 0 yaH (sVar 0) (yab (sVar 4) sNil)))
  (sRet (yam 0 yag (sVar 0) (yab (yam 0 yag (sVar 0) (yab (sVar 1) (yab (sOp2 fIx (sVar 6) (sLit (.int 1))) sNil))) (yab (yam 0 yag (sVar 0) (yab (sOp2 fIx (sVar 6) (sLit (.int 2))) (yab (sVar 5) sNil))) sNil))))))))))
def ycd (G:Fn):Fn:=mkFn 2 4
  (sSeq (sSet 2 (yam 0 yaH (sVar 0) (yab (sVar 1) sNil)))
  (sSeq (sIf (yao (sOp2 fEq (sOp2 fIx (sVar 2) (sLit (.int 0))) (sLit (.str "leaf")))) (sRet (sLit (.int 0))) yay)
  (sSeq (sSet 3 (yae G (yab (sVar 0) (yab (sOp2 fIx (sVar 2) (sLit (.int 1))) sNil))))
  (sSeq (sIf (yao (sOp2 fEq (sVar 3) (sLit (.int 0)))) (sRet (sOp2 fIx (sVar 2) (sLit (.int 2)))) yay)
  (sRet (yae yaT (yab (sVar 0) (yab (sVar 3) (yab (sOp2 fIx (sVar 2) (sLit (.int 2))) sNil)))))))))
def yaI:Nat->Fn
 | 0=>mkFn 2 4 (fun _ _=>.bad)
 | d+1=>ycd (yaI d)
def yaW:Fn:=mkFn 3 7
  (sSeq (sIf (yao (sOp2 fLt (sOp2 fSub (yam 0 yaB (sVar 0) (yab (sVar 1) sNil)) (yam 0 yaB (sVar 0) (yab (sVar 2) sNil))) (sLit (.int 2)))) (sRet (yam 0 yag (sVar 0) (yab (sVar 1) (yab (sVar 2) sNil)))) yay)
  (sSeq (sSet 3 (yam 0 yaH (sVar 0) (yab (sVar 1) sNil)))
  (sSeq (sSet 4 (sOp2 fIx (sVar 3) (sLit (.int 1))))
  (sSeq (sSet 5 (sOp2 fIx (sVar 3) (sLit (.int 2))))
  (sSeq (sIf (yao (sOp2 fLe (yam 0 yaB (sVar 0) (yab (sVar 5) sNil)) (yam 0 yaB (sVar 0) (yab (sVar 4) sNil)))) (sRet (yam 0 yag (sVar 0) (yab (sVar 4) (yab (yam 0 yag (sVar 0) (yab (sVar 5) (yab (sVar 2) sNil))) sNil)))) yay)
  (sSeq (sSet 6 (yam 0 yaH (sVar 0) (yab (sVar 5) sNil)))
  (sRet (yam 0 yag (sVar 0) (yab (yam 0 yag (sVar 0) (yab (sVar 4) (yab (sOp2 fIx (sVar 6) (sLit (.int 1))) sNil))) (yab (yam 0 yag (sVar 0) (yab (sOp2 fIx (sVar 6) (sLit (.int 2))) (yab (sVar 2) sNil))) sNil))))))))))
def ydW (G:Fn):Fn:=mkFn 3 5
  (sSeq (sSet 3 (sOp2 fSub (yam 0 yaB (sVar 0) (yab (sVar 1) sNil)) (yam 0 yaB (sVar 0) (yab (sVar 2) sNil))))
  (sSeq (sIf (yao (sOp2 fGt (sVar 3) (sLit (.int 1)))) (sSeq (sSet 4 (yam 0 yaH (sVar 0) (yab (sVar 1) sNil)))
  (sRet (yae yaT (yab (sVar 0) (yab (sOp2 fIx (sVar 4) (sLit (.int 1))) (yab (yae G (yab (sVar 0) (yab (sOp2 fIx (sVar 4) (sLit (.int 2))) (yab (sVar 2) sNil)))) sNil)))))) yay)
  (sSeq (sIf (yao (sOp2 fLt (sVar 3) (sOp1 fNeg (sLit (.int 1))))) (sSeq (sSet 4 (yam 0 yaH (sVar 0) (yab (sVar 2) sNil)))
  (sRet (yae yaW (yab (sVar 0) (yab (yae G (yab (sVar 0) (yab (sVar 1) (yab (sOp2 fIx (sVar 4) (sLit (.int 1))) sNil)))) (yab (sOp2 fIx (sVar 4) (sLit (.int 2))) sNil)))))) yay)
  (sRet (yam 0 yag (sVar 0) (yab (sVar 1) (yab (sVar 2) sNil)))))))
def ya6:Nat->Fn
 | 0=>mkFn 3 5 (fun _ _=>.bad)
 | d+1=>ydW (ya6 d)
def ybU:Fn:=mkFn 1 1
  (sRet (sOrV (sOp2 fEq (sVar 0) (sLit (.str "\n"))) (ycg fLe fLe (sLit (.str " ")) (sVar 0) (sLit (.str "~")))))
def ycQ:Fn:=mkFn 1 1
  (sSeq (sIf (sNot (ydV (sIsB "str" (sVar 0)))) (sRet (sLit (.bl false))) yay)
  (sRet (yae fAll (yab (yby [] (iVal (sVar 0)) sYes (yae ybU (yab (sVar 0) sNil))) sNil))))
def ydi:Fn:=mkFn 1 1
  (sRet (yeQ (yae ycQ (yab (sVar 0) sNil)) (ycg fLe fLe (sLit (.int 1)) (yae fLen (yab (sVar 0) sNil)) (sLit (.int 8)))))
def ydz:Fn:=mkFn 1 1
  (sRet (sBM yek yeK (sVar 0) (yab (sLit (.str "\n")) sNil)))
def ybP:Fn:=mkFn 2 4
  (sSeq (sSet 2 (yam 0 ycB (sVar 0) (yab (sVar 1) sNil)))
  (sSeq (sSet 3 (sOp2 fIx (sVar 1) (sLit (.int 1))))
  (sSeq (yaK (sBM yax yaA (Sm.sFld 0 2 (sVar 0)) (yab (yae fLen (yab (sVar 3) sNil)) sNil)))
  (sSeq (yaK (sBM yax yaA (Sm.sFld 0 3 (sVar 0)) (yab (yae ydz (yab (sVar 3) sNil)) sNil)))
  (sSeq (yaK (sBM yax yaA (Sm.sFld 0 4 (sVar 0)) (yab (sLit (.int 1)) sNil)))
  (sSeq (yaK (sBM yax yaA (Sm.sFld 0 5 (sVar 0)) (yab (sLit (.int 0)) sNil)))
  (sSeq (yaK (sBM yax yaA (Sm.sFld 0 6 (sVar 0)) (yab (sVar 2) sNil)))
  (yaK (sBM yax yaA (Sm.sFld 0 7 (sVar 0)) (yab (sVar 2) sNil))))))))))
def yaJ:Fn:=mkFn 2 3
  (sSeq (sIf (sNot (ydV (yae ydi (yab (sVar 1) sNil)))) (yb0 1 (yab (sLit (.str "a leaf is a plain text of one to eight signs")) sNil)) yay)
  (sSeq (sSet 2 (sTup (yab (sLit (.str "leaf")) (yab (sVar 1) sNil))))
  (sSeq (sIf (yao (sOp2 yeZ (sVar 2) (Sm.sFld 0 1 (sVar 0)))) (yaK (yam 0 ybP (sVar 0) (yab (sVar 2) sNil))) yay)
  (sRet (sOp2 fIx (Sm.sFld 0 1 (sVar 0)) (sVar 2))))))
def yci:Fn:=mkFn 3 6
  (sSeq (sSet 3 (sOp2 fAdd (sOp2 fIx (yam 0 yaH (sVar 0) (yab (yam 0 ybE (sVar 0) (yab (sVar 1) sNil)) sNil)) (sLit (.int 1))) (sOp2 fIx (yam 0 yaH (sVar 0) (yab (yam 0 ybt (sVar 0) (yab (sVar 2) sNil)) sNil)) (sLit (.int 1)))))
  (sSeq (sSet 4 (yae (ya7 90) (yab (sVar 0) (yab (sVar 1) (yab (yam 0 yaJ (sVar 0) (yab (sVar 3) sNil)) sNil)))))
  (sSeq (sSet 5 (yae (yaI 90) (yab (sVar 0) (yab (sVar 2) sNil))))
  (sSeq (sIf (yao (sOp2 fEq (sVar 5) (sLit (.int 0)))) (sRet (sVar 4)) yay)
  (sRet (yae (ya6 90) (yab (sVar 0) (yab (sVar 4) (yab (sVar 5) sNil)))))))))
def yap:Fn:=mkFn 3 3
  (sSeq (yaK (yae ybL (yab (sOp2 fAdd (yam 0 yaz (sVar 0) (yab (sVar 1) sNil)) (yam 0 yaz (sVar 0) (yab (sVar 2) sNil))) sNil)))
  (sSeq (sIf (yao (sOp2 fEq (sVar 1) (sLit (.int 0)))) (sRet (sVar 2)) yay)
  (sSeq (sIf (yao (sOp2 fEq (sVar 2) (sLit (.int 0)))) (sRet (sVar 1)) yay)
  (sSeq (sIf (ydV (yae yc7 (yab (sVar 0) (yab (sVar 1) (yab (sVar 2) sNil))))) (sRet (yae (ya6 90) (yab (sVar 0) (yab (sVar 1) (yab (sVar 2) sNil))))) yay)
  (sRet (yae yci (yab (sVar 0) (yab (sVar 1) (yab (sVar 2) sNil)))))))))
def ycj (G:Fn):Fn:=mkFn 3 5
  (sSeq (sIf (yao (sOp2 fEq (sVar 2) (sLit (.int 0)))) (sRet (sVar 1)) yay)
  (sSeq (sIf (yao (sOp2 fEq (sVar 2) (yam 0 yaz (sVar 0) (yab (sVar 1) sNil)))) (sRet (sLit (.int 0))) yay)
  (sSeq (sSet 3 (yam 0 yaH (sVar 0) (yab (sVar 1) sNil)))
  (sSeq (sIf (yao (sOp2 fEq (sOp2 fIx (sVar 3) (sLit (.int 0))) (sLit (.str "leaf")))) (sRet (yam 0 yaJ (sVar 0) (yab (sCut (sOp2 fIx (sVar 3) (sLit (.int 1))) (some (sVar 2)) none) sNil))) yay)
  (sSeq (sSet 4 (yam 0 yaz (sVar 0) (yab (sOp2 fIx (sVar 3) (sLit (.int 1))) sNil)))
  (sSeq (sIf (yao (sOp2 fGe (sVar 2) (sVar 4))) (sRet (yae G (yab (sVar 0) (yab (sOp2 fIx (sVar 3) (sLit (.int 2))) (yab (sOp2 fSub (sVar 2) (sVar 4)) sNil))))) yay)
  (sRet (yae yap (yab (sVar 0) (yab (yae G (yab (sVar 0) (yab (sOp2 fIx (sVar 3) (sLit (.int 1))) (yab (sVar 2) sNil)))) (yab (sOp2 fIx (sVar 3) (sLit (.int 2))) sNil)))))))))))
def yaw:Nat->Fn
 | 0=>mkFn 3 5 (fun _ _=>.bad)
 | d+1=>ycj (yaw d)
def yb4 (G:Fn):Fn:=mkFn 3 5
  (sSeq (sIf (yao (sOp2 fEq (sVar 2) (sLit (.int 0)))) (sRet (sLit (.int 0))) yay)
  (sSeq (sIf (yao (sOp2 fEq (sVar 2) (yam 0 yaz (sVar 0) (yab (sVar 1) sNil)))) (sRet (sVar 1)) yay)
  (sSeq (sSet 3 (yam 0 yaH (sVar 0) (yab (sVar 1) sNil)))
  (sSeq (sIf (yao (sOp2 fEq (sOp2 fIx (sVar 3) (sLit (.int 0))) (sLit (.str "leaf")))) (sRet (yam 0 yaJ (sVar 0) (yab (sCut (sOp2 fIx (sVar 3) (sLit (.int 1))) none (some (sVar 2))) sNil))) yay)
  (sSeq (sSet 4 (yam 0 yaz (sVar 0) (yab (sOp2 fIx (sVar 3) (sLit (.int 1))) sNil)))
  (sSeq (sIf (yao (sOp2 fLe (sVar 2) (sVar 4))) (sRet (yae G (yab (sVar 0) (yab (sOp2 fIx (sVar 3) (sLit (.int 1))) (yab (sVar 2) sNil))))) yay)
  (sRet (yae yap (yab (sVar 0) (yab (sOp2 fIx (sVar 3) (sLit (.int 1))) (yab (yae G (yab (sVar 0) (yab (sOp2 fIx (sVar 3) (sLit (.int 2))) (yab (sOp2 fSub (sVar 2) (sVar 4)) sNil)))) sNil)))))))))))
def yat:Nat->Fn
 | 0=>mkFn 3 5 (fun _ _=>.bad)
 | d+1=>yb4 (yat d)
def ybf:Fn:=mkFn 4 4
  (sSeq (yaK (yae ybA (yab (sVar 0) (yab (sVar 1) (yab (sVar 2) (yab (sVar 3) sNil))))))
  (sRet (yae (yaw 90) (yab (sVar 0) (yab (yae (yat 90) (yab (sVar 0) (yab (sVar 1) (yab (sVar 3) sNil)))) (yab (sVar 2) sNil))))))
def ybi:Fn:=mkFn 3 4
  (sSeq (sSet 3 (yae ybe (yab (sVar 2) sNil)))
  (sSeq (sIf (yao (sOp2 fLe (sVar 3) (sOp2 fDiv (sOp2 fPow (sLit (.int 10)) (sLit (.int 18))) (sLit (.int 2))))) (sRet (sTup (yab (sVar 1) (yab (sVar 2) sNil)))) yay)
  (sRet (sTup (yab (yae ybf (yab (sVar 0) (yab (sVar 1) (yab (sLit (.int 0)) (yab (sOp2 fDiv (sVar 3) (sLit (.int 2))) sNil))))) (yab (yae yaF (yab (sVar 2) (yab (sLit (.int 0)) (yab (sOp2 fDiv (sVar 3) (sLit (.int 2))) sNil)))) sNil))))))
def ybm:SS :=
  (yaK (sBM yax yaA (sVar 2) (yab (sOp2 fAdd (sOp2 fIx (sVar 2) (sOp1 fNeg (sLit (.int 1)))) (sOp2 fMul (yae fLen (yab (sVar 3) sNil)) (sVar 4))) sNil)))
def ybn:SS :=
  (yaK (sBM yax yel (sVar 5) (yab (ybv (yab (sVar 6) (yab (sOp2 fSub (sVar 6) (sLit (.int 1))) (yab (sOp2 fAdd (sVar 6) (sLit (.int 1))) (yab (sOp2 fSub (sVar 6) (yae yau (yab (sVar 1) (yab (sLit (.int 40)) sNil)))) (yab (sOp2 fAdd (sVar 6) (yae yau (yab (sVar 1) (yab (sLit (.int 40)) sNil)))) sNil)))))) sNil)))
def ybo:SS :=
  (yaK (sBM yax yaA (sVar 5) (yab (yae yau (yab (sVar 1) (yab (sOp2 fAdd (sOp2 fIx (sVar 2) (sOp1 fNeg (sLit (.int 1)))) (sLit (.int 1))) sNil))) sNil)))
def ybu:Fn:=mkFn 2 8
  (sSeq (sSet 2 (ybv (yab (sLit (.int 0)) sNil)))
  (sSeq (sFor (ya4 (sVar 0)) (.tup [3,4]) ybm)
  (sSeq (sSet 5 (ybv sNil))
  (sSeq (sFor (iVal (sVar 2)) (.nm 6) ybn)
  (sSeq (sFor (ybT (sLit (.int 3))) (.nm 7) ybo)
  (sRet (yby [2] (iVal (sVar 5)) (yao (ycg fLe fLe (sLit (.int 0)) (sVar 0) (sOp2 fIx (sVar 1) (sOp1 fNeg (sLit (.int 1)))))) (sVar 0))))))))
def ybI:Fn:=mkFn 2 3
  (sSeq (sSet 2 (yae ybu (yab (sVar 0) (yab (sVar 1) sNil))))
  (sRet (sOp2 fIx (sVar 2) (yae yau (yab (sVar 1) (yab (yae fLen (yab (sVar 2) sNil)) sNil))))))
def ycC:Fn:=mkFn 3 4
  (sSeq (sSet 3 (yam 0 yaz (sVar 0) (yab (sVar 1) sNil)))
  (sIf (sNot (yao (ycg fLe fLe (sLit (.int 0)) (sVar 2) (sVar 3)))) (yb0 6 (yab (sLit (.str "the text has no such place, and does not end there")) sNil)) yay))
def ycI:Fn:=mkFn 4 6
  (sSeq (sSet 4 (sOp2 fAdd (yam 0 yaz (sVar 0) (yab (sVar 1) sNil)) (yam 0 yaz (sVar 0) (yab (sVar 3) sNil))))
  (sSeq (yaK (yae ycC (yab (sVar 0) (yab (sVar 1) (yab (sVar 2) sNil)))))
  (sSeq (yaK (yae ybL (yab (sVar 4) sNil)))
  (sSeq (sSet 5 (yae yap (yab (sVar 0) (yab (yae (yat 90) (yab (sVar 0) (yab (sVar 1) (yab (sVar 2) sNil)))) (yab (sVar 3) sNil)))))
  (sRet (yae yap (yab (sVar 0) (yab (sVar 5) (yab (yae (yaw 90) (yab (sVar 0) (yab (sVar 1) (yab (sVar 2) sNil)))) sNil)))))))))
def yck:Fn:=mkFn 3 3
  (sSeq (yaK (yae ycC (yab (sVar 0) (yab (sVar 1) (yab (sVar 2) sNil)))))
  (sRet (sTup (yab (yae (yat 90) (yab (sVar 0) (yab (sVar 1) (yab (sVar 2) sNil)))) (yab (yae (yaw 90) (yab (sVar 0) (yab (sVar 1) (yab (sVar 2) sNil)))) sNil)))))
def ybX:Fn:=mkFn 4 4
  (sSeq (yaK (yae ybA (yab (sVar 0) (yab (sVar 1) (yab (sVar 2) (yab (sVar 3) sNil))))))
  (sRet (yae yap (yab (sVar 0) (yab (yae (yat 90) (yab (sVar 0) (yab (sVar 1) (yab (sVar 2) sNil)))) (yab (yae (yaw 90) (yab (sVar 0) (yab (sVar 1) (yab (sVar 3) sNil)))) sNil))))))
def ycR:Fn:=mkFn 3 17
  (sSeq (sSet 3 (yae yau (yab (sVar 2) (yab (sLit (.int 5)) sNil))))
  (sSeq (ycN (.tup [4,5]) (yae ybH (yab (sVar 1) (yab (sVar 2) sNil))))
  (sSeq (ycN (.tup [6,7]) (yae ybH (yab (sVar 1) (yab (sVar 2) sNil))))
  (sSeq (sIf (yao (sOp2 fLt (sVar 3) (sLit (.int 2)))) (sSeq (ycN (.tup [4,5]) (yae ybi (yab (sVar 0) (yab (sVar 4) (yab (sVar 5) sNil)))))
  (ycN (.tup [6,7]) (yae ybi (yab (sVar 0) (yab (sVar 6) (yab (sVar 7) sNil)))))) yay)
  (sSeq (sSet 8 (yae ydQ (yab (sLst (yab (yae ybI (yab (sVar 5) (yab (sVar 2) sNil))) (yab (yae ybI (yab (sVar 5) (yab (sVar 2) sNil))) sNil))) sNil)))
  (sSeq (sSet 9 (yae ybe (yab (sVar 5) sNil)))
  (sSeq (sSet 10 (yae yaF (yab (sVar 5) (yab (sLit (.int 0)) (yab (sOp2 fIx (sVar 8) (sLit (.int 0))) sNil)))))
  (sSeq (sSet 11 (yae yaF (yab (sVar 5) (yab (sOp2 fIx (sVar 8) (sLit (.int 1))) (yab (sVar 9) sNil)))))
  (sSeq (sSet 12 (yam 0 ybs (sVar 0) sNil))
  (sSeq (sIf (yao (sOp2 fEq (sVar 3) (sLit (.int 0)))) (sSet 13 (sLst (yab (sTup (yab (yae yap (yab (sVar 0) (yab (sVar 4) (yab (sVar 6) sNil)))) (yab (sOp2 fAdd (sVar 5) (sVar 7)) sNil))) sNil))) (sIf (yao (sOp2 fEq (sVar 3) (sLit (.int 1)))) (sSet 13 (sLst (yab (sTup (yab (yae ycI (yab (sVar 0) (yab (sVar 4) (yab (sOp2 fIx (sVar 8) (sLit (.int 0))) (yab (sVar 6) sNil))))) (yab (sOp2 fAdd (sOp2 fAdd (sVar 10) (sVar 7)) (yae yaF (yab (sVar 5) (yab (sOp2 fIx (sVar 8) (sLit (.int 0))) (yab (sVar 9) sNil))))) sNil))) sNil))) (sIf (yao (sOp2 fEq (sVar 3) (sLit (.int 2)))) (sSet 13 (sLst (yab (sTup (yab (yae ybX (yab (sVar 0) (yab (sVar 4) (yab (sOp2 fIx (sVar 8) (sLit (.int 0))) (yab (sOp2 fIx (sVar 8) (sLit (.int 1))) sNil))))) (yab (sOp2 fAdd (sVar 10) (sVar 11)) sNil))) sNil))) (sIf (yao (sOp2 fEq (sVar 3) (sLit (.int 3)))) (sSet 13 (sLst (yab (sTup (yab (yae ybf (yab (sVar 0) (yab (sVar 4) (yab (sOp2 fIx (sVar 8) (sLit (.int 0))) (yab (sOp2 fIx (sVar 8) (sLit (.int 1))) sNil))))) (yab (yae yaF (yab (sVar 5) (yab (sOp2 fIx (sVar 8) (sLit (.int 0))) (yab (sOp2 fIx (sVar 8) (sLit (.int 1))) sNil)))) sNil))) sNil))) (sSeq (ycN (.tup [14,15]) (yae yck (yab (sVar 0) (yab (sVar 4) (yab (sOp2 fIx (sVar 8) (sLit (.int 1))) sNil)))))
  (sSet 13 (sLst (yab (sTup (yab (sVar 14) (yab (yae yaF (yab (sVar 5) (yab (sLit (.int 0)) (yab (sOp2 fIx (sVar 8) (sLit (.int 1))) sNil)))) sNil))) (yab (sTup (yab (sVar 15) (yab (sVar 11) sNil))) sNil)))))))))
  (sSeq (sSet 16 (yae ybG (yab (yam 0 yaB (sVar 0) (yab (sVar 4) sNil)) (yab (yam 0 yaB (sVar 0) (yab (sVar 6) sNil)) sNil))))
  (sSeq (sIf (yao (sOp2 fGt (sOp2 fSub (yam 0 ybs (sVar 0) sNil) (sVar 12)) (sOp2 fMul (sLit (.int 200)) (sOp2 fAdd (sVar 16) (sLit (.int 1)))))) (sRet (sLst sNil)) yay)
  (sRet (sVar 13))))))))))))))
def ydA (G:Fn):Fn:=mkFn 3 5
  (sSeq (sIf (yao (sOp2 fEq (sVar 2) (sLit (.int 0)))) (sRet (sLit (.int 0))) yay)
  (sSeq (sSet 3 (yae G (yab (sVar 0) (yab (sVar 1) (yab (sOp2 fDiv (sVar 2) (sLit (.int 2))) sNil)))))
  (sSeq (sSet 4 (yae yap (yab (sVar 0) (yab (sVar 3) (yab (sVar 3) sNil)))))
  (sSeq (sIf (yao (sOp2 fEq (sOp2 fMod (sVar 2) (sLit (.int 2))) (sLit (.int 0)))) (sRet (sVar 4)) yay)
  (sRet (yae yap (yab (sVar 0) (yab (sVar 4) (yab (sVar 1) sNil)))))))))
def ya0:Nat->Fn
 | 0=>mkFn 3 5 (fun _ _=>.bad)
 | d+1=>ydA (ya0 d)
def yb5:Fn:=mkFn 3 4
  (sSeq (sSet 3 (yam 0 yaz (sVar 0) (yab (sVar 1) sNil)))
  (sSeq (sIf (yao (sOp2 fLt (sVar 2) (sLit (.int 0)))) (yb0 6 (yab (sLit (.str "a text is repeated 0 times at least")) sNil)) yay)
  (sSeq (yaK (yae ybL (yab (sOp2 fMul (sVar 3) (sVar 2)) sNil)))
  (sSeq (sIf (yao (sOp2 fEq (sVar 1) (sLit (.int 0)))) (sRet (sLit (.int 0))) yay)
  (sRet (yae (ya0 64) (yab (sVar 0) (yab (sVar 1) (yab (sVar 2) sNil)))))))))
def yeo (G:Fn):Fn:=mkFn 2 3
  (sSeq (sIf (yao (sOp2 fEq (yae fLen (yab (sVar 1) sNil)) (sLit (.int 1)))) (sRet (sOp2 fIx (sVar 1) (sLit (.int 0)))) yay)
  (sSeq (sSet 2 (sOp2 fDiv (yae fLen (yab (sVar 1) sNil)) (sLit (.int 2))))
  (sRet (yam 0 yag (sVar 0) (yab (yae G (yab (sVar 0) (yab (sCut (sVar 1) none (some (sVar 2))) sNil))) (yab (yae G (yab (sVar 0) (yab (sCut (sVar 1) (some (sVar 2)) none) sNil))) sNil))))))
def ybQ:Nat->Fn
 | 0=>mkFn 2 3 (fun _ _=>.bad)
 | d+1=>yeo (ybQ d)
def ydR:Fn:=mkFn 2 3
  (sSeq (sIf (sNot (ydV (yae ycQ (yab (sVar 1) sNil)))) (yb0 1 (yab (sLit (.str "a text is built of a plain text")) sNil)) yay)
  (sSeq (sIf (yao (sOp2 fGt (yae fLen (yab (sVar 1) sNil)) (sLit (.int 10000)))) (yb0 5 (yab (sLit (.str "a text is built of ten thousand signs at most")) sNil)) yay)
  (sSeq (sIf (yao (sOp2 fEq (sVar 1) (sLit (.str "")))) (sRet (sLit (.int 0))) yay)
  (sSeq (sSet 2 (yby [0,1] (yct (sLit (.int 0)) (yae fLen (yab (sVar 1) sNil)) (sLit (.int 8))) sYes (yam 0 yaJ (sVar 1) (yab (sCut (sVar 2) (some (sVar 0)) (some (sOp2 fAdd (sVar 0) (sLit (.int 8))))) sNil))))
  (sRet (yae (ybQ 20) (yab (sVar 0) (yab (sVar 2) sNil))))))))
def ybR:SS :=
  (sSet 2 (yae yap (yab (sVar 0) (yab (sVar 2) (yab (yae yb5 (yab (sVar 0) (yab (yae ydR (yab (sVar 0) (yab (sVar 3) sNil))) (yab (sVar 4) sNil)))) sNil)))))
def ycu:Fn:=mkFn 2 5
  (sSeq (sSet 2 (sLit (.int 0)))
  (sSeq (sFor (ya4 (sVar 1)) (.tup [3,4]) ybR)
  (sRet (sVar 2))))
def yaN:SS :=
  (sSeq (sSet 6 (sBM0 yax mPop (sVar 5)))
  (sSeq (sSet 7 (sOp2 fIx (sVar 6) (sLit (.int 0))))
  (sSeq (sSet 8 (sOp2 fIx (sVar 6) (sLit (.int 1))))
  (sSeq (sIf (sOr (yao (sOp2 fGe (sVar 8) (sVar 3))) (yao (sOp2 fLe (sOp2 fAdd (sVar 8) (yam 0 yaz (sVar 0) (yab (sVar 7) sNil))) (sVar 2)))) yf1 yay)
  (sSeq (sSet 9 (yam 0 yaH (sVar 0) (yab (sVar 7) sNil)))
  (sIf (yao (sOp2 fEq (sOp2 fIx (sVar 9) (sLit (.int 0))) (sLit (.str "leaf")))) (yaK (sBM yax yaA (sVar 4) (yab (sCut (sOp2 fIx (sVar 9) (sLit (.int 1))) (some (yae ybG (yab (sOp2 fSub (sVar 2) (sVar 8)) (yab (sLit (.int 0)) sNil)))) (some (sOp2 fSub (sVar 3) (sVar 8)))) sNil))) (sSeq (yaK (sBM yax yaA (sVar 5) (yab (sTup (yab (sOp2 fIx (sVar 9) (sLit (.int 2))) (yab (sOp2 fAdd (sVar 8) (yam 0 yaz (sVar 0) (yab (sOp2 fIx (sVar 9) (sLit (.int 1))) sNil))) sNil))) sNil)))
  (yaK (sBM yax yaA (sVar 5) (yab (sTup (yab (sOp2 fIx (sVar 9) (sLit (.int 1))) (yab (sVar 8) sNil))) sNil))))))))))
def yce:Fn:=mkFn 4 10
  (sSeq (sSet 4 (ybv sNil))
  (sSeq (sSet 5 (ybv (yab (sTup (yab (sVar 1) (yab (sLit (.int 0)) sNil))) sNil)))
  (sSeq (ybZ (yao (sOp2 fNe (sVar 5) (sLst sNil))) yaN yeE)
  (sRet (sBM yek yc6 (sLit (.str "")) (yab (sVar 4) sNil))))))
def ycS:Fn:=mkFn 4 4
  (sSeq (yaK (yae ybA (yab (sVar 0) (yab (sVar 1) (yab (sVar 2) (yab (sVar 3) sNil))))))
  (sSeq (sIf (yao (sOp2 fGt (sOp2 fSub (sVar 3) (sVar 2)) (sLit (.int 10000)))) (yb0 5 (yab (sLit (.str "a stretch of more than ten thousand signs is not told")) sNil)) yay)
  (sRet (yae yce (yab (sVar 0) (yab (sVar 1) (yab (sVar 2) (yab (sVar 3) sNil))))))))
def ycF:Fn:=mkFn 3 3
  (sRet (sBM yek yc6 (sLit (.str "")) (yab (yb1 [] (ya4 (yae yaF (yab (sVar 0) (yab (sVar 1) (yab (sVar 2) sNil))))) sYes (sOp2 ydy (sVar 0) (sVar 1))) sNil)))
def ybC:SS :=
  (sSeq (sSet 6 (yae yb3 (yab (sVar 4) (yab (sOp2 fAdd (sVar 5) (sLit (.int 9))) sNil))))
  (sIf (yao (sOp2 fNe (yae ycS (yab (sVar 0) (yab (sVar 1) (yab (sVar 5) (yab (sVar 6) sNil))))) (yae ycF (yab (sVar 2) (yab (sVar 5) (yab (sVar 6) sNil)))))) (sRet (sLit (.bl false))) yay))
def ya2:Fn:=mkFn 4 7
  (sSeq (sSet 4 (yae ybe (yab (sVar 2) sNil)))
  (sSeq (sIf (yao (sOp2 fNe (yam 0 yaz (sVar 0) (yab (sVar 1) sNil)) (sVar 4))) (sRet (sLit (.bl false))) yay)
  (sSeq (sFor (iVal (yae ybu (yab (sVar 2) (yab (sVar 3) sNil)))) (.nm 5) ybC)
  (sRet (sLit (.bl true))))))
def ycM:SS :=
  (sSeq (sIf (sNot (ydV (yae ya2 (yab (sVar 1) (yab (sVar 8) (yab (sVar 9) (yab (sVar 6) sNil))))))) (sRet (sLit (.bl false))) yay)
  (sIf (yao (sOp2 fLt (yae fLen (yab (sVar 9) sNil)) (sLit (.int 12)))) (yaK (sBM yax yaA (sVar 3) (yab (sTup (yab (sVar 8) (yab (sVar 9) sNil))) sNil))) yay))
def yc2:SS :=
  (sSeq (sSet 6 (yae ybk (yab (sVar 5) (yab (sVar 4) sNil))))
  (sSeq (sSet 7 (yae ycR (yab (sVar 1) (yab (sVar 3) (yab (sVar 6) sNil)))))
  (sSeq (sIf (yao (sOp2 fEq (sVar 7) (sLst sNil))) (sRet (sLit (.bl false))) yay)
  (sFor (ya4 (sVar 7)) (.tup [8,9]) ycM))))
def yfj:Fn:=mkFn 1 10
  (sSeq (sSet 1 (yeR 0 8 ych sNil))
  (sSeq (sSet 2 (yae ycP (yab (yae ybr (yab (sVar 0) (yab (sLit (.int 0)) sNil))) sNil)))
  (sSeq (sSet 3 (ybv (yab (sTup (yab (yae ycu (yab (sVar 1) (yab (sVar 2) sNil))) (yab (sVar 2) sNil))) sNil)))
  (sSeq (sFor (Sm.iEnum (sOp2 fAdd (sCut (sVar 0) none (some (sLit (.int 12)))) (sLst (yab (sLit (.int 0)) sNil)))) (.tup [4,5]) yc2)
  (sSeq (sSet 6 (yae ybr (yab (sVar 0) (yab (sLit (.int 1)) sNil))))
  (sRet (yae fAll (yab (yb1 [1,6] (ya4 (sVar 3)) sYes (yae ya2 (yab (sVar 2) (yab (sVar 0) (yab (sVar 1) (yab (sVar 3) sNil)))))) sNil))))))))
end Sk
set_option exponentiation.threshold 2000
namespace Sk
open PySem PySem.Spec L2 Sm
theorem zfW {w:Option Nat} {all:List AV} {t:Tg} {b:SS} (P:Nat->En->AH->Prop):∀ (xs:List AV) (i:Nat) (en:En) (h:AH),P i en h ->
  (∀ i en h,P i en h->ybx w all h=true) ->
  (∀ (j:Nat) (x:AV) (en:En) (h:AH),xs[j]? = some x->P (i+j) en h->∃ e1 e2 h2,setT t x en=some e1/\(b e1 h = .nx e2 h2\/b e1 h = .ct e2 h2)/\P (i+j+1) e2 h2) ->
  ∃ e' h',yb7 w all t b xs en h = .nx e' h'/\P (i+xs.length) e' h'
 | [],i,en,h,p,lv,_=>⟨en,h,by unfold yb7;rw [if_pos (lv _ _ _ p)],p⟩
 | x::xs,i,en,h,p,lv,s=>by
  obtain ⟨e1,e2,h2,q1,q2,q3⟩:=s 0 x en h rfl p
  obtain ⟨e',h',r1,r2⟩:=zfW P xs (i+1) e2 h2 q3 lv fun j y en h e q=>by
   have:=s (j+1) y en h (by simpa using e) (by rw [show i+(j+1)=i+1+j by lia];exact q)
   rw [show i+(j+1)+1=i+1+j+1 by lia] at this
   exact this
  refine ⟨e',h',?_,by rw [List.length_cons,show i+(xs.length+1)=i+1+xs.length by lia];exact r2⟩
  unfold yb7
  rw [if_pos (lv _ _ _ p)]
  simp only [q1]
  rcases q2 with q2 | q2
  ·rw [q2];exact r1
  ·rw [q2];exact r1
theorem zaT {α:Type} {js:List Nat} {en:En} {w:Option Nat} {all:List AV} {c:SB} {e:SE} {g f:α->AV} {p:α->Bool} {h:AH} (lv:ybx w all h=true):∀ (cs:List α) (ys:List AV),(∀ x∈cs,c (some (g x)::js.map fun j=>(en[j]?).join) h = .ok (p x) h)->(∀ x∈cs,p x=true->e (some (g x)::js.map fun j=>(en[j]?).join) h = .ok (f x) h)->ys.length+cs.length<=sizeLine ->
  yaQ js en w all c e (cs.map g) ys h = .ok (ys++(cs.filter p).map f) h
 | [],ys,_,_,_=>by rw [List.map_nil];unfold yaQ;rw [if_pos lv];simp
 | x::xs,ys,hc,he,hl=>by
  have hl':ys.length<sizeLine:=by simp at hl;lia
  rw [List.map_cons]
  unfold yaQ
  rw [if_pos ⟨lv,hl'⟩,hc x (by simp)]
  cases hp:p x with
  | false =>
   dsimp only
   rw [zaT lv xs ys (fun y hy=>hc y (by simp [hy])) (fun y hy=>he y (by simp [hy])) (by simp at hl ⊢;lia)]
   simp [List.filter_cons,hp]
  | true =>
   dsimp only
   rw [he x (by simp) hp]
   dsimp only
   rw [zaT lv xs (ys++[f x]) (fun y hy=>hc y (by simp [hy])) (fun y hy=>he y (by simp [hy])) (by simp at hl ⊢;lia)]
   simp [List.filter_cons,hp]
theorem zii {α:Type} {js:List Nat} {en:En} {w:Option Nat} {all:List AV} {e:SE} {g f:α->AV} {h:AH} (lv:ybx w all h=true) (cs:List α) (ys:List AV) (he:∀ x∈cs,e (some (g x)::js.map fun j=>(en[j]?).join) h = .ok (f x) h) (hl:ys.length+cs.length<=sizeLine) :
  yaQ js en w all sYes e (cs.map g) ys h = .ok (ys++cs.map f) h:=by
 rw [zaT (p:=fun _=>true) lv cs ys (fun _ _=>rfl) (fun x hx _=>he x hx) hl,List.filter_eq_self.mpr (fun _ _=>rfl)]
theorem zd3 {c:SB} {b:SS} (P:Nat->En->AH->Prop) (Q:En->AH->Prop):∀ (fuel n:Nat) (en:En) (h:AH),P n en h->n<fuel ->
  (∀ n en h,P n en h->(∃ h1,c en h = .ok false h1/\Q en h1)\/(∃ n' h1 e2 h2,n'<n/\c en h = .ok true h1/\(b en h1 = .nx e2 h2\/b en h1 = .ct e2 h2)/\P n' e2 h2)) ->
  ∃ e' h',ybZ c b fuel en h = .nx e' h'/\Q e' h'
 | 0,n,en,h,_,l,_=>absurd l (Nat.not_lt_zero _)
 | fuel+1,n,en,h,p,l,s=>by
  rcases s n en h p with ⟨h1,q1,q2⟩ | ⟨n',h1,e2,h2,q0,q1,q2,q3⟩
  ·refine ⟨en,h1,?_,q2⟩
   unfold ybZ;rw [q1]
  ·obtain ⟨e',h',r1,r2⟩:=zd3 P Q fuel n' e2 h2 q3 (by lia) s
   refine ⟨e',h',?_,r2⟩
   unfold ybZ;rw [q1]
   rcases q2 with q2 | q2
   ·simp only [q2];exact r1
   ·simp only [q2];exact r1
@[simp] def thn (o:OutS) (Q:En->AH->Prop):Prop:=match o with
 | .nx e h=>Q e h
 | .ct e h=>Q e h
 | _=>False
theorem yfI {o:OutS} {Q:En->AH->Prop} (t:thn o Q):∃ e h,(o = .nx e h\/o = .ct e h)/\Q e h:=by
 cases o with
 | nx e h=>exact ⟨e,h,.inl rfl,t⟩
 | ct e h=>exact ⟨e,h,.inr rfl,t⟩
 | _=>exact t.elim
@[simp] def yg3 (o:Option En) (Q:En->Prop):Prop:=match o with
 | some e=>Q e
 | none=>False
theorem ycv {w:Option Nat} {all:List AV} {t:Tg} {b:SS} {xs:List AV} {en:En} {h:AH} (P:Nat->En->AH->Prop) (p0:P 0 en h) (lv:∀ i en h,P i en h->ybx w all h=true)
  (st:∀ (j:Nat) (x:AV) (en:En) (h:AH),xs[j]? = some x->P j en h->yg3 (setT t x en) fun e1=>thn (b e1 h) (P (j+1))) :
  ∃ e' h',yb7 w all t b xs en h = .nx e' h'/\P xs.length e' h' := by
 have:=zfW (w:=w) (all:=all) (t:=t) (b:=b) P xs 0 en h p0 lv fun j x en h hx hp=>by
  have q:=st j x en h hx (by simpa using hp)
  cases z:setT t x en with
  | none=>rw [z] at q;exact q.elim
  | some e1 =>
   rw [z] at q
   obtain ⟨e,h2,a,c⟩:=yfI q
   exact ⟨e1,e,h2,rfl,a,by simpa using c⟩
 simpa using this
theorem zjx {c:SB} {b:SS} {fuel n:Nat} {en:En} {h:AH} (P:Nat->En->AH->Prop) (Q:En->AH->Prop) (p0:P n en h) (hn:n<fuel)
  (st:∀ n en h,P n en h->match c en h with
   | .ok true h1=>thn (b en h1) fun e2 h2=>∃ n',n'<n/\P n' e2 h2
   | .ok false h1=>Q en h1
   | _=>False) :
  ∃ e' h',ybZ c b fuel en h = .nx e' h'/\Q e' h' := by
 refine zd3 P Q fuel n en h p0 hn fun n en h p=>?_
 have q:=st n en h p
 cases z:c en h with
 | ok x h1 =>
  rw [z] at q
  cases x with
  | true =>
   obtain ⟨e,h2,a,n',l,c⟩:=yfI q
   exact .inr ⟨n',h1,e,h2,l,rfl,a,c⟩
  | false=>exact .inl ⟨h1,rfl,q⟩
 | ex _ _=>rw [z] at q;exact q.elim
 | bad=>rw [z] at q;exact q.elim
@[simp] def yia (o:Out AV) (Q:AV->AH->Prop):Prop:=match o with
 | .ok v h=>Q v h
 | _=>False
theorem zfX {js:List Nat} {en:En} {all:List AV} {e:SE} (P:Nat->List AV->AH->Prop):∀ (xs ys:List AV) (i:Nat) (h:AH),P i ys h ->
  (∀ j x ys h,xs[j]? = some x->P (i+j) ys h->∃ v h2,e (some x::js.map fun j=>(en[j]?).join) h = .ok v h2/\P (i+j+1) (ys++[v]) h2)->ys.length+xs.length<=sizeLine ->
  ∃ zs h',yaQ js en none all sYes e xs ys h = .ok zs h'/\P (i+xs.length) zs h'
 | [],ys,i,h,p,_,_=>⟨ys,h,by simp [yaQ],p⟩
 | x::xs,ys,i,h,p,s,hl=>by
  obtain ⟨v,h2,q1,q2⟩:=s 0 x ys h rfl p
  obtain ⟨zs,h',r1,r2⟩:=zfX P xs (ys++[v]) (i+1) h2 q2 (fun j y ys h hy hp=>by
   have:=s (j+1) y ys h (by simpa using hy) (by rw [show i+(j+1)=i+1+j by lia];exact hp)
   rw [show i+(j+1)+1=i+1+j+1 by lia] at this
   exact this) (by simp at hl ⊢;lia)
  refine ⟨zs,h',?_,by rw [List.length_cons,show i+(xs.length+1)=i+1+xs.length by lia];exact r2⟩
  unfold yaQ
  rw [if_pos ⟨rfl,by simp at hl;lia⟩]
  simp only [sYes]
  rw [q1]
  exact r1
theorem yg4 {js:List Nat} {en:En} {all:List AV} {e:SE} {xs:List AV} {h:AH} (P:Nat->List AV->AH->Prop) (p0:P 0 [] h)
  (st:∀ j x ys h,xs[j]? = some x->P j ys h->yia (e (some x::js.map fun j=>(en[j]?).join) h) fun v h2=>P (j+1) (ys++[v]) h2) (hl:xs.length<=sizeLine) :
  ∃ zs h',yaQ js en none all sYes e xs [] h = .ok zs h'/\P xs.length zs h' := by
 have:=zfX (js:=js) (en:=en) (all:=all) (e:=e) P xs [] 0 h p0 (fun j x ys h hx p=>by
  have q:=st j x ys h hx (by simpa using p)
  cases z:e (some x::js.map fun j=>(en[j]?).join) h with
  | ok v h2=>rw [z] at q;exact ⟨v,h2,rfl,by simpa using q⟩
  | ex _ _=>rw [z] at q;exact q.elim
  | bad=>rw [z] at q;exact q.elim) (by simpa using hl)
 simpa using this
theorem zbc:∀ (n:Nat) (lo:Int) (i:Nat),(yaX lo n)[i]? = if i<n then some (.int (lo+i)) else none
 | 0,lo,i=>by simp [yaX]
 | n+1,lo,0=>by simp [yaX]
 | n+1,lo,i+1=>by
  unfold yaX
  rw [List.getElem?_cons_succ,zbc n (lo+1) i]
  by_cases q:i<n
  ·rw [if_pos q,if_pos (by lia)];congr 2;lia
  ·rw [if_neg q,if_neg (by lia)]
theorem zaX:∀ (n:Nat) (lo:Int),(yaX lo n).length=n
 | 0,_=>rfl
 | n+1,lo=>by unfold yaX;rw [List.length_cons,zaX n]
theorem zbd {a:SE} {en:En} {h h1:AH} {n:Nat} (e:a en h = .ok (.int n) h1) (hn:n<=10000000):ybT a en h = .ok (yaX 0 n,none) h1:=by
 have h1':(n:Int).natAbs<2 ^ 62:=by omega
 simp only [ybT,e,Out.bind]
 rw [if_pos h1'];rfl
theorem yb2 {it:SI} {t:Tg} {b:SS} {en:En} {h h1:AH} {xs:List AV} {w:Option Nat} (e:it en h = .ok (xs,w) h1):sFor it t b en h=yb7 w xs t b xs en h1:=by simp only [sFor,e]
theorem yfJ {i j:Int} {h:AH} (hi:i.natAbs<2 ^ 64):fMul (.int i) (.int j) h = .ok (.int (i*j)) h:=if_pos (.inl (.inl hi))
theorem ye5 {i j:Int} {h:AH} (hj:j.natAbs<2 ^ 64):fMul (.int i) (.int j) h = .ok (.int (i*j)) h:=if_pos (.inl (.inr hj))
theorem zcV {α:Type} {f:α->AV} {l:List α} {j:Nat} {q:α} (e:l[j]? = some q):atI (l.map f) (j:Int)=some (f q):=zdw (by simp [e])
end Sk
set_option exponentiation.threshold 5000
namespace Sk
open PySem PySem.Spec L2 Sm
def ydS (c:Nat):Bool:=decide (c=10) || (decide (32<=c) && decide (c<=126))
theorem lt1 (a b:Nat):([a]<[b]) ↔ a<b:=by
 simp [List.cons_lt_cons_iff]
theorem yfK:(Str.ofString "\n")=⟨#[10]⟩:=by decide +kernel
theorem yg5:(Str.ofString " ")=⟨#[32]⟩:=by decide +kernel
theorem yg6:(Str.ofString "~")=⟨#[126]⟩:=by decide +kernel
theorem yg7 (c:Nat) (h:AH):ybU [.str ⟨#[c]⟩] h = .ok (.bl (ydS c)) h:=by
 simp [ybU,yfK,yg5,yg6,lt1,ydS]
 by_cases h1:c=10
 ·simp [h1]
 ·by_cases h2:c<32
  ·have : ¬ 32<=c:=by lia
   simp [h1,h2,this]
  ·have h3:32<=c:=by lia
   by_cases h4:c<=126
   ·have : ¬ 126<c:=by lia
    simp [h1,h2,h3,h4,this]
   ·have:126<c:=by lia
    simp [h1,h2,h3,h4,this]
theorem zeL {α:Type} {js:List Nat} {en:En} {all:List AV} {e:SE} {g f:α->AV} {h:AH}:∀ (cs:List α) (ys:List AV),(∀ c∈cs,e (some (g c)::js.map fun j=>(en[j]?).join) h = .ok (f c) h)->ys.length+cs.length<=sizeLine->yaQ js en none all sYes e (cs.map g) ys h = .ok (ys++cs.map f) h
 | [],ys,_,_=>by simp [yaQ]
 | x::xs,ys,he,hl=>by
  have hl':ys.length<sizeLine:=by simp at hl;lia
  rw [List.map_cons]
  unfold yaQ
  rw [if_pos ⟨rfl,hl'⟩]
  simp only [sYes]
  rw [he x (by simp)]
  dsimp only
  rw [zeL xs (ys++[f x]) (fun y hy=>he y (by simp [hy])) (by simp at hl ⊢;lia)]
  simp
theorem zd4 (f:Nat->Bool):∀ cs:List Nat,ycL (cs.map fun c=>.bl (f c))=some (cs.map f)
 | []=>rfl
 | c::cs=>by simp [zd4 f cs]
def yaE (x:Str):Bool:=x.cps.toList.all ydS
theorem zfY (x:Str) (h:AH) (hl:x.length<=sizeLine):ycQ [.str x] h = .ok (.bl (yaE x)) h:=by
 have e:=zeL (js:=[]) (en:=[some (.str x)]) (all:=x.cps.toList.map fun c=>AV.str ⟨#[c]⟩) (e:=yae ybU (yab (sVar 0) sNil)) (g:=fun c=>AV.str ⟨#[c]⟩) (f:=fun c=>AV.bl (ydS c)) (h:=h) x.cps.toList [] (by
  intro c hc
  simp [yg7]) (by simp;exact hl)
 simp only [List.nil_append] at e
 simp [ycQ]
 rw [e]
 simp [zd4,yaE]
def ybF (x:Str):Bool:=yaE x && (decide (1<=x.length) && decide (x.length<=8))
theorem zfZ (x:Str) (h:AH) (hl:x.length<=sizeLine):ydi [.str x] h = .ok (.bl (ybF x)) h:=by
 simp [ydi,zfY x h hl,ybF]
 by_cases h1:yaE x=true
 ·by_cases h2:1<=x.length
  ·have:(1:Int)<=x.length:=by lia
   by_cases h3:x.length<=8
   ·have:(x.length:Int)<=8:=by lia
    simp [*]
   ·have : ¬ (x.length:Int)<=8:=by lia
    simp [*]
  ·have : ¬ (1:Int)<=x.length:=by lia
   simp [*]
 ·simp [h1]
def ydj (x:Str):Nat:=(Builtin.Str.occurrences x ⟨#[10]⟩ 0 x.length (x.length+1)).length
theorem yg8 (x:Str) (h:AH):ydz [.str x] h = .ok (.int (ydj x)) h:=by
 simp [ydz,yfK,ydj]
theorem zjy (i:Int) (h:AH):ydh [.int i] h = .ok (.bl true) h:=by
 simp [ydh]
inductive Pc where
 | leaf (x:Str)
 | fork (a b:Nat)
 deriving DecidableEq
def Pc.av:Pc->AV
 | .leaf x=>.tup [.str "leaf",.str x]
 | .fork a b=>.tup [.str "fork",.int a,.int b]
theorem Pc.av_inj:∀ {p q:Pc},p.av=q.av->p=q
 | .leaf x,.leaf y,e=>by simp [Pc.av] at e;rw [e]
 | .leaf x,.fork a b,e=>by simp [Pc.av] at e
 | .fork a b,.leaf x,e=>by simp [Pc.av] at e
 | .fork a b,.fork c d,e=>by simp [Pc.av] at e;rw [Int.ofNat.inj e.1,Int.ofNat.inj e.2]
structure Ms where
 sg:Nat
 en:Nat
 lv:Nat
 ht:Int
 fl:Nat
 ll:Nat
def ms0:Ms:=⟨0,0,0,-1,0,0⟩
def ycT (ms:List Ms):Pc->Ms
 | .leaf x=>⟨x.length,ydj x,1,0,ms.length,ms.length⟩
 | .fork a b=>⟨(ms.getD a ms0).sg+(ms.getD b ms0).sg,(ms.getD a ms0).en+(ms.getD b ms0).en,(ms.getD a ms0).lv+(ms.getD b ms0).lv,max (ms.getD a ms0).ht (ms.getD b ms0).ht+1,(ms.getD a ms0).fl,(ms.getD b ms0).ll⟩
def meas (ps:List Pc):List Ms:=ps.foldl (fun ms q=>ms++[ycT ms q]) [ms0]
theorem zb3 (ps:List Pc) (q:Pc):meas (ps++[q])=meas ps++[ycT (meas ps) q]:=by simp [meas]
theorem zau:∀ ps:List Pc,(meas ps).length=ps.length+1:=by
 have all:∀ (ps:List Pc) (ms:List Ms),(ps.foldl (fun ms q=>ms++[ycT ms q]) ms).length=ms.length+ps.length:=by
  intro ps
  induction ps with
  | nil=>intro ms;rfl
  | cons q r ih=>intro ms;rw [List.foldl_cons,ih];simp;lia
 intro ps
 rw [meas,all];simp;lia
def ybp (k:Nat):List Pc->List (AV×AV)
 | []=>[]
 | q::r=>(q.av,.int k)::ybp (k+1) r
def tab (ps:List Pc):List (AV×AV):=ybp 1 ps
theorem zaY (q:Pc):∀ (ps:List Pc) (k:Nat),ybp k (ps++[q])=ybp k ps++[(q.av,.int ((k+ps.length:Nat):Int))]
 | [],k=>by simp [ybp]
 | p::r,k=>by
  simp only [List.cons_append,ybp,zaY q r (k+1)]
  rw [show k+1+r.length=k+(p::r).length by simp;lia]
theorem zf0:∀ (ps:List Pc) (k:Nat),(ybp k ps).length=ps.length
 | [],_=>rfl
 | p::r,k=>by simp [ybp,zf0 r]
theorem zbF {q:Pc}:∀ {ps:List Pc} {k:Nat},q∉ps->valA (ybp k ps) q.av=none
 | [],k,_=>rfl
 | p::r,k,h=>by
  have h1 : ¬ p.av=q.av:=fun e=>h (by rw [Pc.av_inj e];simp)
  have h2:=zbF (q:=q) (ps:=r) (k:=k+1) fun z=>h (by simp [z])
  unfold valA at h2 ⊢
  simp only [ybp,List.find?_cons,decide_eq_false h1]
  exact h2
theorem zcW {q:Pc}:∀ {ps:List Pc} {k i:Nat},ps.Nodup->ps[i]? = some q->valA (ybp k ps) q.av=some (.int ((k+i:Nat):Int))
 | [],k,i,_,e=>by simp at e
 | p::r,k,0,n,e=>by simp at e;subst e;simp [valA,ybp]
 | p::r,k,i+1,n,e=>by
  simp at e
  have h1 : ¬ p.av=q.av:=fun z=>(List.nodup_cons.mp n).1 (by rw [Pc.av_inj z];exact List.mem_of_getElem? e)
  have h2:=zcW (q:=q) (k:=k+1) (List.nodup_cons.mp n).2 e
  unfold valA at h2 ⊢
  simp only [ybp,List.find?_cons,decide_eq_false h1]
  rw [h2]
  congr 3
  lia
theorem zjz {q:Pc} {ps:List Pc} (h:q∉ps):putA (tab ps) q.av (.int ((ps.length+1:Nat):Int))=tab (ps++[q]):=by
 unfold putA
 rw [zfP,tab,zbF h,tab,zaY]
 simp [Nat.add_comm]
structure ShelfAt (h:AH) (p:Nat) (ps:List Pc):Prop where
 ob:h[p]? = some (.ins 0 [some (.ref (p+1)),some (.ref (p+2)),some (.ref (p+3)),some (.ref (p+4)),some (.ref (p+5)),some (.ref (p+6)),some (.ref (p+7)),some (.ref (p+8))])
 h1:h[p+1]? = some (.lst (ps.map Pc.av))
 h2:h[p+2]? = some (.dct true (tab ps))
 h3:h[p+3]? = some (.lst ((meas ps).map fun m=>.int m.sg))
 h4:h[p+4]? = some (.lst ((meas ps).map fun m=>.int m.en))
 h5:h[p+5]? = some (.lst ((meas ps).map fun m=>.int m.lv))
 h6:h[p+6]? = some (.lst ((meas ps).map fun m=>.int m.ht))
 h7:h[p+7]? = some (.lst ((meas ps).map fun m=>.int m.fl))
 h8:h[p+8]? = some (.lst ((meas ps).map fun m=>.int m.ll))
def ycf (h:AH) (p:Nat) (ps:List Pc):AH :=
 (((((((h.set (p+1) (.lst (ps.map Pc.av))).set (p+2) (.dct true (tab ps))).set (p+3) (.lst ((meas ps).map fun m=>.int m.sg))).set (p+4) (.lst ((meas ps).map fun m=>.int m.en))).set (p+5) (.lst ((meas ps).map fun m=>.int m.lv))).set
  (p+6) (.lst ((meas ps).map fun m=>.int m.ht))).set (p+7) (.lst ((meas ps).map fun m=>.int m.fl))).set (p+8) (.lst ((meas ps).map fun m=>.int m.ll))
theorem yaP {h:AH} {i:Nat} {o:AO} (e:h[i]? = some o):i<h.length:=(List.getElem?_eq_some_iff.mp e).1
theorem zd5 (h:AH) (p:Nat) (ps:List Pc):(ycf h p ps).length=h.length:=by simp [ycf]
theorem zeM {h:AH} {p q:Nat} {ps:List Pc} (hq:q<=p\/p+8<q):(ycf h p ps)[q]? = h[q]? := by
 unfold ycf
 repeat rw [List.getElem?_set_ne (by lia)]
theorem zbG {h:AH} {p:Nat} {ps ps':List Pc} (S:ShelfAt h p ps):ShelfAt (ycf h p ps') p ps' := by
 have b:=yaP S.h8
 have l1:p+1<h.length:=Nat.lt_of_le_of_lt (Nat.add_le_add_left (by decide) p) b
 have l2:p+2<h.length:=Nat.lt_of_le_of_lt (Nat.add_le_add_left (by decide) p) b
 have l3:p+3<h.length:=Nat.lt_of_le_of_lt (Nat.add_le_add_left (by decide) p) b
 have l4:p+4<h.length:=Nat.lt_of_le_of_lt (Nat.add_le_add_left (by decide) p) b
 have l5:p+5<h.length:=Nat.lt_of_le_of_lt (Nat.add_le_add_left (by decide) p) b
 have l6:p+6<h.length:=Nat.lt_of_le_of_lt (Nat.add_le_add_left (by decide) p) b
 have l7:p+7<h.length:=Nat.lt_of_le_of_lt (Nat.add_le_add_left (by decide) p) b
 have ob:=S.ob
 constructor<;>simp [ycf,List.getElem?_set,l1,l2,l3,l4,l5,l6,l7,b,ob,-List.getElem?_eq_getElem]
theorem lenA {α:Type} (l:List α) (f:α->AV):(l.map f).length=l.length:=by simp
theorem yfL {h:AH} {p:Nat} {ps:List Pc} (S:ShelfAt h p ps):ybs [.ref p] h = .ok (.int ps.length) h:=by
 simp [ybs,S.ob,S.h1]
theorem yib {h:AH} {p:Nat} {ps:List Pc} {i:Int} (S:ShelfAt h p ps):ybY [.ref p,.int i] h = .ok (.bl (decide (1<=i/\i<=ps.length))) h:=by
 simp [ybY,zjy,S.ob,S.h1]
 by_cases h1:1<=i<;>simp [h1]
theorem zbH {h:AH} {p:Nat} {ps:List Pc} {i:Int} (S:ShelfAt h p ps) (hi:1<=i/\i<=ps.length):ya3 [.ref p,.int i] h = .ok .non h:=by
 simp [ya3,yib S,S.ob,hi.1,hi.2]
theorem zao {α:Type} {f:α->AV} {l:List α} {j:Nat} {q:α} (e:l[j]? = some q):atI (l.map f) (j:Int)=some (f q):=zdw (by simp [e])
theorem zjA {h:AH} {p:Nat} {ps:List Pc} {j:Nat} {q:Pc} (S:ShelfAt h p ps) (e:ps[j]? = some q):yaH [.ref p,.int ((j:Int)+1)] h = .ok q.av h:=by
 have hj:=(List.getElem?_eq_some_iff.mp e).1
 have h1:=zbH S (i:=(j:Int)+1) ⟨by lia,by lia⟩
 simp [yaH,h1,S.ob,S.h1,zao e]
theorem yf8 {h:AH} {p:Nat} {ps:List Pc} {q:Pc} (S:ShelfAt h p ps) (hq:q∉ps) (hl:ps.length<16000000) :
  ycB [.ref p,q.av] h = .ok (.int ((ps.length+1:Nat):Int)) ((h.set (p+1) (.lst ((ps++[q]).map Pc.av))).set (p+2) (.dct true (tab (ps++[q])))):=by
 have b:=yaP S.h8
 have hs:ps.length<sizeLine:=Nat.lt_trans hl (by decide)
 have ht:(tab ps).length<sizeLine:=by rw [tab,zf0];exact hs
 have hk:ydd true q.av=true:=by cases q<;>simp [Pc.av]
 have e1:(h.set (p+1) (.lst (ps.map Pc.av++[q.av])))[p]? = h[p]? := List.getElem?_set_ne (by lia)
 have e2:(h.set (p+1) (.lst (ps.map Pc.av++[q.av])))[p+1]? = some (.lst (ps.map Pc.av++[q.av])):=List.getElem?_set_self (by lia)
 have e3:(h.set (p+1) (.lst (ps.map Pc.av++[q.av])))[p+2]? = h[p+2]? := List.getElem?_set_ne (by lia)
 have tp:=zjz hq
 simp [ycB,S.ob,S.h1,hs,e1,e2,e3,S.h2,hk,ht,-ydd]
 rw [show ((ps.length:Int)+1)=((ps.length+1:Nat):Int) by simp,tp]
theorem zhn {h:AH} {p:Nat} {ps:List Pc} {x:Str} (S:ShelfAt h p ps) (hq:Pc.leaf x∉ps) (hl:ps.length<16000000) :
  ybP [.ref p,(Pc.leaf x).av] h = .ok .non (ycf h p (ps++[.leaf x])):=by
 have b:=yaP S.h8
 have hs:ps.length+1<sizeLine:=Nat.lt_of_lt_of_le (Nat.succ_lt_succ hl) (by decide)
 have hm:(meas ps).length<sizeLine:=by rw [zau];exact hs
 have e:=yf8 S hq hl
 have b2:((meas ps).length:Int)=(ps.length:Int)+1:=by rw [zau];simp
 have e2:fIx (Pc.leaf x).av (.int 1)=fun h=>Out.ok (.str x) h:=by funext h;rfl
 have l1:p+1<h.length:=by lia
 have l2:p+2<h.length:=by lia
 have l3:p+3<h.length:=by lia
 have l4:p+4<h.length:=by lia
 have l5:p+5<h.length:=by lia
 have l6:p+6<h.length:=by lia
 have l7:p+7<h.length:=by lia
 simp [ybP,e,S.ob,S.h3,S.h4,S.h5,S.h6,S.h7,S.h8,hm,yg8,List.getElem?_set,zb3,ycT,ycf,e2,zau,hs,-fIx,-List.getElem?_eq_getElem]
theorem zf1 {α:Type} {l:List α} {i:Nat} {d x:α} (e:l[i]? = some x):l.getD i d=x:=by simp [List.getD,e]
theorem zho {h:AH} {p:Nat} {ps:List Pc} {a b:Nat} {ma mb:Ms} (S:ShelfAt h p ps) (hq:Pc.fork a b∉ps) (hl:ps.length<16000000) (ha:(meas ps)[a]? = some ma) (hb:(meas ps)[b]? = some mb) :
  ybO [.ref p,(Pc.fork a b).av] h = .ok .non (ycf h p (ps++[.fork a b])):=by
 have bb:=yaP S.h8
 have hs:ps.length+1<sizeLine:=Nat.lt_of_lt_of_le (Nat.succ_lt_succ hl) (by decide)
 have hm:(meas ps).length<sizeLine:=by rw [zau];exact hs
 have e:=yf8 S hq hl
 have e2:fIx (Pc.fork a b).av (.int 1)=fun h=>Out.ok (.int a) h:=by funext h;rfl
 have e3:fIx (Pc.fork a b).av (.int 2)=fun h=>Out.ok (.int b) h:=by funext h;rfl
 have l1:p+1<h.length:=by lia
 have l2:p+2<h.length:=by lia
 have l3:p+3<h.length:=by lia
 have l4:p+4<h.length:=by lia
 have l5:p+5<h.length:=by lia
 have l6:p+6<h.length:=by lia
 have l7:p+7<h.length:=by lia
 have fx:∀ (n:Nat) (g:Ms->AV) (h':AH),h'[n]? = some (.lst ((meas ps).map g))->fIx (.ref n) (.int a) h' = .ok (g ma) h'/\fIx (.ref n) (.int b) h' = .ok (g mb) h' := fun n g h' e=>by
  simp [fIx,e,zao ha,zao hb]
 have f3:=fun (h':AH) (e:h'[p+3]? = some (.lst ((meas ps).map fun m=>.int m.sg)))=>fx _ _ h' e
 have f4:=fun (h':AH) (e:h'[p+4]? = some (.lst ((meas ps).map fun m=>.int m.en)))=>fx _ _ h' e
 have f5:=fun (h':AH) (e:h'[p+5]? = some (.lst ((meas ps).map fun m=>.int m.lv)))=>fx _ _ h' e
 have f6:=fun (h':AH) (e:h'[p+6]? = some (.lst ((meas ps).map fun m=>.int m.ht)))=>fx _ _ h' e
 have f7:=fun (h':AH) (e:h'[p+7]? = some (.lst ((meas ps).map fun m=>.int m.fl)))=>fx _ _ h' e
 have f8:=fun (h':AH) (e:h'[p+8]? = some (.lst ((meas ps).map fun m=>.int m.ll)))=>fx _ _ h' e
 have hmax:∀ i j:Int,(if j > i then j else i)=max i j:=fun i j=>by split<;>lia
 simp [ybO,e,S.ob,S.h3,S.h4,S.h5,S.h6,S.h7,S.h8,hm,List.getElem?_set,zb3,ycT,ycf,e2,e3,zau,hs,zao ha,zao hb,zf1 ha,zf1 hb,-fIx,-List.getElem?_eq_getElem,-List.getD_eq_getElem?_getD,f3,f4,f5,f6,f7,f8,hmax]
theorem zbI {h:AH} {p:Nat} {ps:List Pc} {x:Str} {i:Nat} (S:ShelfAt h p ps) (nd:ps.Nodup) (hx:ybF x=true) (hl:x.length<=sizeLine) (e:ps[i]? = some (.leaf x)):yaJ [.ref p,.str x] h = .ok (.int ((i+1:Nat):Int)) h:=by
 have t:=zcW (k:=1) nd e
 have t':valA (tab ps) (.tup [.str "leaf",.str x])=some (.int ((i+1:Nat):Int)):=by rw [Nat.add_comm];exact t
 simp [yaJ,zfZ x h hl,hx,S.ob,S.h2,t']
theorem zgA {h:AH} {p:Nat} {ps:List Pc} {x:Str} (S:ShelfAt h p ps) (hx:ybF x=true) (hl:x.length<=sizeLine) (hq:Pc.leaf x∉ps) (hz:ps.length<16000000):yaJ [.ref p,.str x] h = .ok (.int ((ps.length+1:Nat):Int)) (ycf h p (ps++[.leaf x])):=by
 have t:valA (tab ps) (.tup [.str "leaf",.str x])=none:=zbF (q:=.leaf x) (k:=1) hq
 have S2:=zbG (ps' := ps++[.leaf x]) S
 have e:=zhn S hq hz
 have t2:valA (tab (ps++[.leaf x])) (.tup [.str "leaf",.str x])=some (.int ((ps.length+1:Nat):Int)):=by
  unfold tab
  rw [zaY]
  unfold valA at t ⊢
  rw [List.find?_append]
  have t3:(ybp 1 ps).find? (fun p=>decide (p.1 = .tup [.str "leaf",.str x]))=none:=by simpa [tab] using t
  rw [t3]
  simp [Pc.av,Nat.add_comm]
 have e':ybP [.ref p,.tup [.str "leaf",.str x]] h = .ok .non (ycf h p (ps++[.leaf x])):=e
 simp [yaJ,zfZ x h hl,hx,S.ob,S.h2,t,e',S2.ob,S2.h2,t2]
theorem zij {h:AH} {p:Nat} {ps:List Pc} {a b:Nat} {ma mb la fb:Ms} (S:ShelfAt h p ps) (ha:(meas ps)[a]? = some ma) (hb:(meas ps)[b]? = some mb) (pa:1<=a) (pb:1<=b) (hla:(meas ps)[ma.ll]? = some la) (hfb:(meas ps)[mb.fl]? = some fb) :
  yaZ [.ref p,.int a,.int b] h=if la.sg+fb.sg<=8 then .ex yfU h else if 1<(ma.ht-mb.ht).natAbs then .ex yfh h else if 1000000000000000000<ma.sg+mb.sg then .ex yfi h else .ok .non h:=by
 have la_:=(List.getElem?_eq_some_iff.mp ha).1
 have lb_:=(List.getElem?_eq_some_iff.mp hb).1
 rw [zau] at la_ lb_
 have c1:=zbH S (i:=(a:Int)) ⟨by lia,by lia⟩
 have c2:=zbH S (i:=(b:Int)) ⟨by lia,by lia⟩
 by_cases d1:la.sg+fb.sg<=8
 ·have d1':((la.sg:Int)+fb.sg)<=8:=by lia
  simp [yaZ,c1,c2,S.ob,S.h3,S.h5,S.h6,S.h7,S.h8,zao ha,zao hb,zao hla,zao hfb,d1,d1']
 ·have d1' : ¬ ((la.sg:Int)+fb.sg)<=8:=by lia
  by_cases d2:1<(ma.ht-mb.ht).natAbs
  ·have d2':(1:Int)<(if ma.ht-mb.ht<0 then -(ma.ht-mb.ht) else ma.ht-mb.ht):=by split<;>lia
   simp [yaZ,c1,c2,S.ob,S.h3,S.h5,S.h6,S.h7,S.h8,zao ha,zao hb,zao hla,zao hfb,d1,d1',d2,d2',-Int.neg_sub]
  ·have d2' : ¬ (1:Int)<(if ma.ht-mb.ht<0 then -(ma.ht-mb.ht) else ma.ht-mb.ht):=by split<;>lia
   by_cases d3:1000000000000000000<ma.sg+mb.sg
   ·have d3':(1000000000000000000:Int)<(ma.sg:Int)+mb.sg:=by lia
    simp [yaZ,c1,c2,S.ob,S.h3,S.h5,S.h6,S.h7,S.h8,zao ha,zao hb,zao hla,zao hfb,d1,d1',d2,d2',d3,d3',-Int.neg_sub]
   ·have d3' : ¬ (1000000000000000000:Int)<(ma.sg:Int)+mb.sg:=by lia
    simp [yaZ,c1,c2,S.ob,S.h3,S.h5,S.h6,S.h7,S.h8,zao ha,zao hb,zao hla,zao hfb,d1,d1',d2,d2',d3,d3',-Int.neg_sub]
structure ForkOk (ps:List Pc) (a b:Nat):Prop where
 pa:1<=a
 pb:1<=b
 ex:∃ ma mb la fb,(meas ps)[a]? = some ma/\(meas ps)[b]? = some mb/\(meas ps)[ma.ll]? = some la/\(meas ps)[mb.fl]? = some fb/\8<la.sg+fb.sg/\(ma.ht-mb.ht).natAbs<=1/\ma.sg+mb.sg<=1000000000000000000
theorem zcF {h:AH} {p:Nat} {ps:List Pc} {a b:Nat} (S:ShelfAt h p ps) (F:ForkOk ps a b):yaZ [.ref p,.int a,.int b] h = .ok .non h:=by
 obtain ⟨ma,mb,la,fb,h1,h2,h3,h4,h5,h6,h7⟩:=F.ex
 rw [zij S h1 h2 F.pa F.pb h3 h4,if_neg (by lia),if_neg (by lia),if_neg (by lia)]
theorem zbJ {h:AH} {p:Nat} {ps:List Pc} {a b i:Nat} (S:ShelfAt h p ps) (nd:ps.Nodup) (F:ForkOk ps a b) (e:ps[i]? = some (.fork a b)):yag [.ref p,.int a,.int b] h = .ok (.int ((i+1:Nat):Int)) h:=by
 have t:=zcW (k:=1) nd e
 have t':valA (tab ps) (.tup [.str "fork",.int a,.int b])=some (.int ((i+1:Nat):Int)):=by rw [Nat.add_comm];exact t
 simp [yag,zcF S F,S.ob,S.h2,t']
theorem zgB {h:AH} {p:Nat} {ps:List Pc} {a b:Nat} (S:ShelfAt h p ps) (F:ForkOk ps a b) (hq:Pc.fork a b∉ps) (hz:ps.length<16000000):yag [.ref p,.int a,.int b] h = .ok (.int ((ps.length+1:Nat):Int)) (ycf h p (ps++[.fork a b])):=by
 have t:valA (tab ps) (.tup [.str "fork",.int a,.int b])=none:=zbF (q:=.fork a b) (k:=1) hq
 have S2:=zbG (ps' := ps++[.fork a b]) S
 obtain ⟨ma,mb,la,fb,h1,h2,_⟩:=F.ex
 have e:=zho S hq hz h1 h2
 have t2:valA (tab (ps++[.fork a b])) (.tup [.str "fork",.int a,.int b])=some (.int ((ps.length+1:Nat):Int)):=by
  unfold tab
  rw [zaY]
  unfold valA at t ⊢
  rw [List.find?_append]
  have t3:(ybp 1 ps).find? (fun p=>decide (p.1 = .tup [.str "fork",.int a,.int b]))=none:=by simpa [tab] using t
  rw [t3]
  simp [Pc.av,Nat.add_comm]
 have e':ybO [.ref p,.tup [.str "fork",.int a,.int b]] h = .ok .non (ycf h p (ps++[.fork a b])):=e
 simp [yag,zcF S F,S.ob,S.h2,t,e',S2.ob,S2.h2,t2]
def ycG (n:Nat):List AO:=[.ins 0 [some (.ref (n+1)),some (.ref (n+2)),some (.ref (n+3)),some (.ref (n+4)),some (.ref (n+5)),some (.ref (n+6)),some (.ref (n+7)),some (.ref (n+8))],.lst [],.dct true [],.lst [.int 0],.lst [.int 0],.lst [.int 0],.lst [.int (-1)],.lst [.int 0],.lst [.int 0]]
theorem zjB {h:AH} {o o':AO} {r:AH}:(h++o::r).set h.length o'=h++o'::r:=by
 induction h with
 | nil=>rfl
 | cons x t ih=>simp [ih]
theorem yg9 (en:En) (h:AH):yeR 0 8 ych sNil en h = .ok (.ref h.length) (h++ycG h.length):=by
 simp [ych,ycG,List.getElem?_append,zjB]
theorem yfM {h r:AH} {k:Nat}:(h++r)[h.length+k]? = r[k]? := by
 rw [List.getElem?_append_right (by lia)];simp
theorem yha (h r:AH):ShelfAt (h++(ycG h.length++r)) h.length []:=by
 refine ⟨?_,?_,?_,?_,?_,?_,?_,?_,?_⟩
 ·rw [show h.length=h.length+0 from rfl,yfM];rfl
 all_goals (rw [yfM];rfl)
theorem zf2 (x:Str) (c i:Nat) (hi:i<x.length):Builtin.Str.subAt x ⟨#[c]⟩ i=decide (x.cps.toList[i]? = some c):=by
 have hi':i<x.cps.size:=hi
 unfold Builtin.Str.subAt
 have e:x.cps.extract i (i+1) = #[x.cps[i]]:=by
  apply Array.ext
  ·simp;lia
  ·intro j h1 h2
   have:j=0:=by simp at h2;lia
   subst this
   simp
 show (x.cps.extract i (i+1) == #[c])=_
 rw [e]
 have:x.cps.toList[i]? = some x.cps[i]:=by simp [hi']
 rw [this]
 by_cases q:x.cps[i]=c
 ·simp [q]
 ·simp [q]
theorem yeG (x:Str) (c:Nat):∀ (n i:Nat) (st:Array Nat×Nat),i+n=x.length+1->st.2<=i->st.1.size<=i->(forIn (List.range' i n) st (StrLaws.occBody x ⟨#[c]⟩ x.length (x.length+1))).run.fst.size=st.1.size+(x.cps.toList.drop i).count c
 | 0,i,st,hn,_,_=>by
  rw [List.drop_of_length_le (by simp;simp only [Str.length] at hn;lia)]
  simp
 | n+1,i,st,hn,h2,h3=>by
  rw [List.range'_succ,List.forIn_cons]
  unfold StrLaws.occBody
  by_cases hi:i<x.length
  ·have hi':i<x.cps.size:=hi
   have hd:x.cps.toList.drop i=x.cps[i]'hi'::x.cps.toList.drop (i+1):=by
    rw [List.drop_eq_getElem_cons (show i<x.cps.toList.length by simpa using hi')];simp
   have hg:x.cps.toList[i]? = some (x.cps[i]'hi'):=by
    simp [hi']
   by_cases q:x.cps[i]'hi'=c
   ·have hs:Builtin.Str.subAt x ⟨#[c]⟩ i=true:=by rw [zf2 x c i hi,hg,q];simp
    rw [if_pos ⟨⟨⟨by lia,h2⟩,hi⟩,hs⟩]
    show (forIn (List.range' (i+1) n) (st.1.push i,i+1) (StrLaws.occBody x ⟨#[c]⟩ x.length (x.length+1))).run.fst.size=_
    rw [yeG x c n (i+1) _ (by lia) (Nat.le_refl _) (by simp;lia),hd,q]
    simp;lia
   ·have hs:Builtin.Str.subAt x ⟨#[c]⟩ i=false:=by rw [zf2 x c i hi,hg];simp [q]
    rw [if_neg (by simp [hs])]
    show (forIn (List.range' (i+1) n) (st.1,st.2) (StrLaws.occBody x ⟨#[c]⟩ x.length (x.length+1))).run.fst.size=_
    rw [yeG x c n (i+1) _ (by lia) (by show st.2<=i+1;lia) (by show st.1.size<=i+1;lia),hd]
    simp [q]
  ·rw [if_neg (by rintro ⟨⟨_,z⟩,_⟩;exact hi z)]
   show (forIn (List.range' (i+1) n) (st.1,st.2) (StrLaws.occBody x ⟨#[c]⟩ x.length (x.length+1))).run.fst.size=_
   rw [yeG x c n (i+1) _ (by lia) (by show st.2<=i+1;lia) (by show st.1.size<=i+1;lia)]
   rw [List.drop_of_length_le (by simp;simp only [Str.length] at hi;lia),List.drop_of_length_le (by simp;simp only [Str.length] at hi;lia)]
theorem zhp (x:Str) (c:Nat):(Builtin.Str.occurrences x ⟨#[c]⟩ 0 x.length (x.length+1)).length=x.cps.toList.count c:=by
 rw [StrLaws.occ_eq,Array.length_toList]
 rw [show x.length+1-0=x.length+1 from rfl,yeG x c (x.length+1) 0 _ (by lia) (Nat.le_refl _) (by simp)]
 simp
theorem zbK (x:Str):ydj x=x.cps.toList.count 10:=zhp x 10
theorem zaf (x y:Str):(x++y).cps.toList=x.cps.toList++y.cps.toList:=by
 show (x.cps++y.cps).toList=_
 simp
theorem zik (x y:Str):ydj (x++y)=ydj x+ydj y:=by
 rw [zbK,zbK,zbK,zaf,List.count_append]
theorem zad (x:Str):x.length=x.cps.toList.length:=by simp [Str.length]
theorem zal (x y:Str):(x++y).length=x.length+y.length:=by
 rw [zad,zad,zad,zaf,List.length_append]
def ydX (rs:List Str):Pc->Str
 | .leaf x=>x
 | .fork a b=>rs.getD a "" ++ rs.getD b ""
def reads (ps:List Pc):List Str:=ps.foldl (fun rs q=>rs++[ydX rs q]) [""]
theorem zgC (ps:List Pc) (q:Pc):reads (ps++[q])=reads ps++[ydX (reads ps) q]:=by simp [reads]
theorem zbn {α β:Type} (g:List β->α->β):∀ (qs:List α) (ms:List β),∃ r,qs.foldl (fun ms q=>ms++[g ms q]) ms=ms++r/\r.length=qs.length
 | [],ms=>⟨[],by simp,rfl⟩
 | q::qs,ms=>by
  obtain ⟨r,e,l⟩:=zbn g qs (ms++[g ms q])
  exact ⟨g ms q::r,by rw [List.foldl_cons,e];simp,by simp [l]⟩
theorem zbr (ps:List Pc):(reads ps).length=ps.length+1:=by
 obtain ⟨r,e,l⟩:=zbn ydX ps [""]
 rw [reads,e];simp [l,Nat.add_comm]
theorem zil (ps qs:List Pc):∃ r,meas (ps++qs)=meas ps++r:=by
 unfold meas
 rw [List.foldl_append]
 obtain ⟨r,e,_⟩:=zbn ycT qs (ps.foldl (fun ms q=>ms++[ycT ms q]) [ms0])
 exact ⟨r,e⟩
theorem zhq (ps qs:List Pc):∃ r,reads (ps++qs)=reads ps++r:=by
 unfold reads
 rw [List.foldl_append]
 obtain ⟨r,e,_⟩:=zbn ydX qs (ps.foldl (fun ms q=>ms++[ydX ms q]) [""])
 exact ⟨r,e⟩
theorem zac {ps ps':List Pc} (h:ps <+: ps') {n:Nat} {m:Ms} (e:(meas ps)[n]? = some m):(meas ps')[n]? = some m:=by
 obtain ⟨qs,rfl⟩:=h
 obtain ⟨r,q⟩:=zil ps qs
 rw [q,List.getElem?_append_left (List.getElem?_eq_some_iff.mp e).1];exact e
theorem zbs {ps ps':List Pc} (h:ps <+: ps') {n:Nat} {m:Str} (e:(reads ps)[n]? = some m):(reads ps')[n]? = some m:=by
 obtain ⟨qs,rfl⟩:=h
 obtain ⟨r,q⟩:=zhq ps qs
 rw [q,List.getElem?_append_left (List.getElem?_eq_some_iff.mp e).1];exact e
theorem zbL (ps:List Pc) (i:Nat):ps.take i <+: ps:=List.take_prefix i ps
theorem zcX {ps:List Pc} {i:Nat} {q:Pc} (e:ps[i]? = some q):(ps.take i++[q]) <+: ps/\(ps.take i).length=i:=by
 have hi:=(List.getElem?_eq_some_iff.mp e).1
 have:ps.take (i+1)=ps.take i++[q]:=by
  rw [List.take_succ,e];rfl
 exact ⟨this▸List.take_prefix _ _,by simp;lia⟩
theorem zf3 {ps:List Pc} {i:Nat} {q:Pc} (e:ps[i]? = some q):(meas ps)[i+1]? = some (ycT (meas (ps.take i)) q):=by
 obtain ⟨h,l⟩:=zcX e
 refine zac h ?_
 rw [zb3,List.getElem?_append_right (by rw [zau,l];lia),zau,l]
 simp
theorem zeN {ps:List Pc} {i:Nat} {q:Pc} (e:ps[i]? = some q):(reads ps)[i+1]? = some (ydX (reads (ps.take i)) q):=by
 obtain ⟨h,l⟩:=zcX e
 refine zbs h ?_
 rw [zgC,List.getElem?_append_right (by rw [zbr,l];lia),zbr,l]
 simp
def PcOk (ps:List Pc):Pc->Prop
 | .leaf x=>ybF x=true
 | .fork a b=>ForkOk ps a b
inductive Good:List Pc->Prop
 | nil:Good []
 | snoc {ps:List Pc} {q:Pc}:Good ps->q∉ps->PcOk ps q->Good (ps++[q])
theorem Good.nodup {ps:List Pc} (g:Good ps):ps.Nodup:=by
 induction g with
 | nil=>exact List.nodup_nil
 | snoc g n ok ih=>exact List.nodup_append.mpr ⟨ih,by simp,fun a ha b hb=>by simp at hb;subst hb;exact fun e=>n (e▸ha)⟩
theorem Good.get {ps:List Pc} (g:Good ps):∀ {i:Nat} {q:Pc},ps[i]? = some q->PcOk (ps.take i) q:=by
 induction g with
 | nil=>intro i q e;simp at e
 | @snoc ps q' g n ok ih =>
  intro i q e
  by_cases hi:i<ps.length
  ·rw [List.getElem?_append_left hi] at e
   rw [List.take_append_of_le_length (by lia)]
   exact ih e
  ·have hi2:i=ps.length:=by
    have:=(List.getElem?_eq_some_iff.mp e).1
    simp at this;lia
   subst hi2
   simp at e
   subst e
   simpa using ok
theorem ForkOk.pre {ps ps':List Pc} {a b:Nat} (F:ForkOk ps a b) (h:ps <+: ps'):ForkOk ps' a b:=by
 obtain ⟨ma,mb,la,fb,h1,h2,h3,h4,h5⟩:=F.ex
 exact ⟨F.pa,F.pb,ma,mb,la,fb,zac h h1,zac h h2,zac h h3,zac h h4,h5⟩
structure Ky (ps:List Pc) (m:Ms) (x:Str) (f l:Ms):Prop where
 fl:(meas ps)[m.fl]? = some f
 ll:(meas ps)[m.ll]? = some l
 sg:m.sg=x.length
 en:m.en=ydj x
 f1:1<=f.sg
 f8:f.sg<=8
 l1:1<=l.sg
 l8:l.sg<=8
 lv:1<=m.lv
 ht:0<=m.ht
 most:m.sg<=1000000000000000000
 cnt:∃ k,(m.lv=2*k+1/\9*k+f.sg<=m.sg/\9*k+l.sg<=m.sg)\/(m.lv=2*k+2/\9*k+9<=m.sg/\9*k+f.sg+l.sg<=m.sg)
 pl:yaE x=true
structure Tx (ps:List Pc) (n:Nat) (m:Ms) (x:Str) (f l:Ms):Prop where
 n1:1<=n
 ms:(meas ps)[n]? = some m
 rd:(reads ps)[n]? = some x
 ky:Ky ps m x f l
theorem Ky.pre {ps ps':List Pc} {m:Ms} {x:Str} {f l:Ms} (k:Ky ps m x f l) (h:ps <+: ps'):Ky ps' m x f l :=
 { k with fl:=zac h k.fl,ll:=zac h k.ll }
theorem Tx.pre {ps ps':List Pc} {n:Nat} {m:Ms} {x:Str} {f l:Ms} (k:Tx ps n m x f l) (h:ps <+: ps'):Tx ps' n m x f l :=
 ⟨k.n1,zac h k.ms,zbs h k.rd,k.ky.pre h⟩
theorem Tx.le {ps:List Pc} {n:Nat} {m:Ms} {x:Str} {f l:Ms} (k:Tx ps n m x f l):n<=ps.length:=by
 have:=(List.getElem?_eq_some_iff.mp k.ms).1
 rw [zau] at this;lia
def ydo (ma mb:Ms):Ms:=⟨ma.sg+mb.sg,ma.en+mb.en,ma.lv+mb.lv,max ma.ht mb.ht+1,ma.fl,mb.ll⟩
theorem zaH (x y:Str):yaE (x++y)=(yaE x && yaE y):=by unfold yaE;rw [zaf,List.all_append]
theorem kf1 {n n' s s' f l f' l':Nat} (a:∃ k,(n=2*k+1/\9*k+f<=s/\9*k+l<=s)\/(n=2*k+2/\9*k+9<=s/\9*k+f+l<=s)) (b:∃ k,(n'=2*k+1/\9*k+f'<=s'/\9*k+l'<=s')\/(n'=2*k+2/\9*k+9<=s'/\9*k+f'+l'<=s')) (hs:8<l+f') :
  ∃ k,(n+n'=2*k+1/\9*k+f<=s+s'/\9*k+l'<=s+s')\/(n+n'=2*k+2/\9*k+9<=s+s'/\9*k+f+l'<=s+s'):=by
 obtain ⟨k,⟨rfl,a1,a2⟩ | ⟨rfl,a1,a2⟩⟩:=a<;>obtain ⟨k',⟨rfl,b1,b2⟩ | ⟨rfl,b1,b2⟩⟩:=b
 ·exact ⟨k+k',.inr ⟨by lia,by lia,by lia⟩⟩
 ·exact ⟨k+k'+1,.inl ⟨by lia,by lia,by lia⟩⟩
 ·exact ⟨k+k'+1,.inl ⟨by lia,by lia,by lia⟩⟩
 ·exact ⟨k+k'+1,.inr ⟨by lia,by lia,by lia⟩⟩
theorem Ky.sg1 {ps:List Pc} {m:Ms} {x:Str} {f l:Ms} (k:Ky ps m x f l):1<=m.sg:=by
 have f1:=k.f1
 obtain ⟨k,⟨_,a,_⟩ | ⟨_,a,_⟩⟩:=k.cnt
 ·exact Nat.le_trans f1 (Nat.le_trans (Nat.le_add_left _ _) a)
 ·exact Nat.le_trans (Nat.le_add_left 1 (9*k+8)) a
theorem Ky.fork {ps:List Pc} {ma mb fa la fb lb:Ms} {x y:Str} (A:Ky ps ma x fa la) (B:Ky ps mb y fb lb) (hs:8<la.sg+fb.sg) (hm:ma.sg+mb.sg<=1000000000000000000):Ky ps (ydo ma mb) (x++y) fa lb:=by
 have k:=kf1 A.cnt B.cnt hs
 refine ⟨A.fl,B.ll,?_,?_,A.f1,A.f8,B.l1,B.l8,Nat.le_trans A.lv (Nat.le_add_right _ _),?_,hm,k,?_⟩
 ·show ma.sg+mb.sg=_;rw [zal,A.sg,B.sg]
 ·show ma.en+mb.en=_;rw [zik,A.en,B.en]
 ·have a4:=A.ht
  show 0<=max ma.ht mb.ht+1
  clear k hs hm;lia
 ·rw [zaH,A.pl,B.pl];rfl
theorem zb4 {x:Str} (h:ybF x=true):1<=x.length/\x.length<=8/\yaE x=true:=by
 simp [ybF] at h;exact ⟨h.2.1,h.2.2,h.1⟩
theorem zaU {α:Type} {l:List α} {i:Nat} {d x:α} (e:l[i]? = some x):l.getD i d=x:=by simp [List.getD,e]
def lfMs (x:Str) (n:Nat):Ms:=⟨x.length,ydj x,1,0,n,n⟩
theorem zbx {ps:List Pc} (g:Good ps) {i:Nat} {x:Str} (e:ps[i]? = some (.leaf x)):Tx ps (i+1) (lfMs x (i+1)) x (lfMs x (i+1)) (lfMs x (i+1)):=by
 have hi:=(List.getElem?_eq_some_iff.mp e).1
 have ok:ybF x=true:=g.get e
 obtain ⟨s1,s2,s3⟩:=zb4 ok
 have li:(ps.take i).length=i:=by simp;lia
 have ml:(meas (ps.take i)).length=i+1:=by rw [zau,li]
 have e1':(meas ps)[i+1]? = some (lfMs x (i+1)):=by rw [zf3 e];simp only [ycT,lfMs];rw [ml]
 exact ⟨by lia,e1',zeN e,⟨e1',e1',rfl,rfl,s1,s2,s1,s2,Nat.le_refl 1,Int.le_refl 0,by show x.length<=_;lia,⟨0,.inl ⟨rfl,Nat.le_of_eq (Nat.zero_add _),Nat.le_of_eq (Nat.zero_add _)⟩⟩,s3⟩⟩
theorem zby {ps:List Pc} (g:Good ps) {i a b:Nat} {ma mb fa la fb lb:Ms} {x y:Str} (e:ps[i]? = some (.fork a b)) (A:Tx ps a ma x fa la) (B:Tx ps b mb y fb lb):Tx ps (i+1) (ydo ma mb) (x++y) fa lb:=by
 have hi:=(List.getElem?_eq_some_iff.mp e).1
 have ok':ForkOk (ps.take i) a b:=g.get e
 have li:(ps.take i).length=i:=by simp;lia
 have tp:=zbL ps i
 obtain ⟨ma',mb',la',fb',q1,q2,q3,q4,q5,q6,q7⟩:=ok'.ex
 have ba:=(List.getElem?_eq_some_iff.mp q1).1
 have bb:=(List.getElem?_eq_some_iff.mp q2).1
 rw [zau,li] at ba bb
 have z1:=A.ms.symm.trans (zac tp q1);cases z1
 have z2:=B.ms.symm.trans (zac tp q2);cases z2
 have z3:=A.ky.ll.symm.trans (zac tp q3);cases z3
 have z4:=B.ky.fl.symm.trans (zac tp q4);cases z4
 have r1:(reads (ps.take i))[a]? = some x:=by
  obtain ⟨w,ew⟩:∃ w,(reads (ps.take i))[a]? = some w:=⟨(reads (ps.take i))[a]'(by rw [zbr,li];lia),by simp⟩
  have:=(zbs tp ew).symm.trans A.rd;cases this;exact ew
 have r2:(reads (ps.take i))[b]? = some y:=by
  obtain ⟨w,ew⟩:∃ w,(reads (ps.take i))[b]? = some w:=⟨(reads (ps.take i))[b]'(by rw [zbr,li];lia),by simp⟩
  have:=(zbs tp ew).symm.trans B.rd;cases this;exact ew
 refine ⟨by lia,?_,?_,A.ky.fork B.ky q5 q7⟩
 ·rw [zf3 e];simp only [ycT,zaU q1,zaU q2];rfl
 ·rw [zeN e];simp only [ydX,zaU r1,zaU r2]
theorem Good.tx {ps:List Pc} (g:Good ps):∀ n,1<=n->n<=ps.length->∃ m x f l,Tx ps n m x f l:=by
 intro n
 induction n using Nat.strongRecOn with
 | ind n ih =>
  intro h1 h2
  obtain ⟨i,rfl⟩:∃ i,n=i+1:=⟨n-1,(Nat.sub_add_cancel h1).symm⟩
  obtain ⟨q,eq⟩:∃ q,ps[i]? = some q:=⟨ps[i],by simp⟩
  have ok:=g.get eq
  have li:(ps.take i).length=i:=(zcX eq).2
  cases q with
  | leaf x=>exact ⟨_,_,_,_,zbx g eq⟩
  | fork a b =>
   have ok':ForkOk (ps.take i) a b:=ok
   obtain ⟨ma,mb,la,fb,q1,q2,_⟩:=ok'.ex
   have ba:=(List.getElem?_eq_some_iff.mp q1).1
   have bb:=(List.getElem?_eq_some_iff.mp q2).1
   rw [zau,li] at ba bb
   obtain ⟨_,_,_,_,A⟩:=ih a ba ok'.pa (Nat.le_trans (Nat.le_of_lt ba) h2)
   obtain ⟨_,_,_,_,B⟩:=ih b bb ok'.pb (Nat.le_trans (Nat.le_of_lt bb) h2)
   exact ⟨_,_,_,_,zby g eq A B⟩
structure Dd (p:Nat) (h h':AH) (ps ps':List Pc) (k:Nat):Prop where
 sh:ShelfAt h' p ps'
 gd:Good ps'
 pre:ps <+: ps'
 len:ps'.length<=ps.length+k
 fr:∀ i,i<=p\/p+8<i->h'[i]? = h[i]?
 hl:h'.length=h.length
theorem ShelfAt.keep {h h':AH} {p:Nat} {ps:List Pc} (S:ShelfAt h p ps) (e:∀ i,p<=i->i<=p+8->h'[i]? = h[i]?):ShelfAt h' p ps:=by
 have k:∀ j,j<=8->h'[p+j]? = h[p+j]? := fun j hj=>e _ (Nat.le_add_right p j) (Nat.add_le_add_left hj p)
 exact ⟨(k 0 (by decide)).trans S.ob,(k 1 (by decide)).trans S.h1,(k 2 (by decide)).trans S.h2,(k 3 (by decide)).trans S.h3,(k 4 (by decide)).trans S.h4,(k 5 (by decide)).trans S.h5,(k 6 (by decide)).trans S.h6,(k 7 (by decide)).trans S.h7,(k 8 (by decide)).trans S.h8⟩
theorem ShelfAt.app {h:AH} {p:Nat} {ps:List Pc} (S:ShelfAt h p ps) (r:AH):ShelfAt (h++r) p ps:=by
 have:=yaP S.h8
 exact S.keep fun i _ b=>List.getElem?_append_left (Nat.lt_of_le_of_lt b this)
structure Wk (p r:Nat) (h h':AH) (ps ps':List Pc) (k:Nat):Prop where
 sh:ShelfAt h' p ps'
 gd:Good ps'
 pre:ps <+: ps'
 len:ps'.length<=ps.length+k
 row:∃ N:Int,h'[r]? = some (.lst [.int N])
 fr:∀ i,i<=p\/p+8<i->i≠r->h'[i]? = h[i]?
 hl:h'.length=h.length
theorem Wk.refl {p r:Nat} {h:AH} {ps:List Pc} (S:ShelfAt h p ps) (g:Good ps) (e:∃ N:Int,h[r]? = some (.lst [.int N])):Wk p r h h ps ps 0 :=
 ⟨S,g,List.prefix_refl _,by lia,e,fun _ _ _=>rfl,rfl⟩
theorem zbM {h:AH} {p:Nat} {ps:List Pc} {i:Nat} (S:ShelfAt h p ps) (hi:i<=ps.length):yaY [.ref p,.int i] h = .ok .non h:=by
 by_cases z:i=0
 ·subst z;simp [yaY]
 ·have c:=zbH S (i:=(i:Int)) ⟨by lia,by lia⟩
  simp [yaY,z,S.ob,c]
theorem zai {h:AH} {p:Nat} {ps:List Pc} {i:Nat} {m:Ms} (S:ShelfAt h p ps) (e:(meas ps)[i]? = some m):yaz [.ref p,.int i] h = .ok (.int m.sg) h:=by
 have hi:=(List.getElem?_eq_some_iff.mp e).1
 rw [zau] at hi
 simp [yaz,zbM S (show i<=ps.length by lia),S.ob,S.h3,zao e]
theorem zag {h:AH} {p:Nat} {ps:List Pc} {i:Nat} {m:Ms} (S:ShelfAt h p ps) (e:(meas ps)[i]? = some m):yaB [.ref p,.int i] h = .ok (.int m.ht) h:=by
 have hi:=(List.getElem?_eq_some_iff.mp e).1
 rw [zau] at hi
 simp [yaB,zbM S (show i<=ps.length by lia),S.ob,S.h6,zao e]
theorem zf4 {h:AH} {p:Nat} {ps:List Pc} {i:Nat} {m:Ms} (S:ShelfAt h p ps) (e:(meas ps)[i]? = some m):ybt [.ref p,.int i] h = .ok (.int m.fl) h:=by
 have hi:=(List.getElem?_eq_some_iff.mp e).1
 rw [zau] at hi
 simp [ybt,zbM S (show i<=ps.length by lia),S.ob,S.h7,zao e]
theorem yfN {h:AH} {p:Nat} {ps:List Pc} {i:Nat} {m:Ms} (S:ShelfAt h p ps) (e:(meas ps)[i]? = some m):ybE [.ref p,.int i] h = .ok (.int m.ll) h:=by
 have hi:=(List.getElem?_eq_some_iff.mp e).1
 rw [zau] at hi
 simp [ybE,zbM S (show i<=ps.length by lia),S.ob,S.h8,zao e]
def lp:Nat->Nat×Nat
 | 0=>(1,2)
 | n+1=>((lp n).2,(lp n).1+(lp n).2)
def ll (n:Nat):Nat:=(lp n).1
def ls (n:Nat):Nat:=9*(ll n / 2)+ll n % 2
theorem ll_2 (n:Nat):ll (n+2)=ll n+ll (n+1):=rfl
theorem zeO:∀ n,ll n<=ll (n+1)
 | 0=>by decide
 | n+1=>by rw [show n+1+1=n+2 from rfl,ll_2];lia
theorem zjC {a b:Nat} (h:a<=b):ll a<=ll b:=by
 induction h with
 | refl=>exact Nat.le_refl _
 | step h ih=>exact Nat.le_trans ih (zeO _)
theorem zf5 {a b:Nat} (h:a<=b):ls a<=ls b:=by
 have:=zjC h
 unfold ls;lia
theorem yhb {i j a b:Nat} (h1:i<=j+1) (h2:j<=i+1) (u1:ll i<=a) (u2:ll j<=b):ll (max i j+1)<=a+b:=by
 rcases Nat.lt_trichotomy i j with c | c | c
 ·have e':j=i+1:=Nat.le_antisymm h2 c
  subst e'
  rw [Nat.max_eq_right (Nat.le_succ i),ll_2];exact Nat.add_le_add u1 u2
 ·subst c
  rw [Nat.max_self]
  refine Nat.le_trans ?_ (Nat.add_le_add u1 u2)
  cases i with
  | zero=>exact Nat.le_refl 2
  | succ k=>rw [show k+1+1=k+2 from rfl,ll_2];exact Nat.add_le_add_right (zeO k) _
 ·have e':i=j+1:=Nat.le_antisymm h1 c
  subst e'
  rw [Nat.max_eq_left (Nat.le_succ j),ll_2,Nat.add_comm];exact Nat.add_le_add u1 u2
theorem yhc {x y:Int} {a b:Nat} (hx:0<=x) (hy:0<=y) (q:(x-y).natAbs<=1) (u1:ll x.toNat<=a) (u2:ll y.toNat<=b):ll (max x y+1).toNat<=a+b:=by
 obtain ⟨i,rfl⟩:=Int.eq_ofNat_of_zero_le hx
 obtain ⟨j,rfl⟩:=Int.eq_ofNat_of_zero_le hy
 have e:(max (i:Int) j+1).toNat=max i j+1:=by clear u1 u2 q;omega
 rw [e]
 exact yhb (by clear u1 u2 e;omega) (by clear u1 u2 e;omega) u1 u2
theorem Good.lv {ps:List Pc} (g:Good ps):∀ n m x f l,Tx ps n m x f l->ll m.ht.toNat<=m.lv:=by
 intro n
 induction n using Nat.strongRecOn with
 | ind n ih =>
  intro m x f l T
  have hn:=T.n1
  have hle:=T.le
  obtain ⟨i,rfl⟩:∃ i,n=i+1:=⟨n-1,by lia⟩
  obtain ⟨q,eq⟩:∃ q,ps[i]? = some q:=⟨ps[i],by simp⟩
  cases q with
  | leaf y =>
   have z:=(zbx g eq).ms.symm.trans T.ms;cases z
   exact Nat.le_refl 1
  | fork a b =>
   have ok':ForkOk (ps.take i) a b:=g.get eq
   have li:(ps.take i).length=i:=by simp;lia
   obtain ⟨ma,mb,la,fb,q1,q2,q3,q4,q5,q6,q7⟩:=ok'.ex
   have ba:=(List.getElem?_eq_some_iff.mp q1).1
   have bb:=(List.getElem?_eq_some_iff.mp q2).1
   rw [zau,li] at ba bb
   obtain ⟨ma',x1,fa,la',A⟩:=g.tx a ok'.pa (by lia)
   obtain ⟨mb',y1,fb',lb,B⟩:=g.tx b ok'.pb (by lia)
   have tp:=zbL ps i
   have z1:=A.ms.symm.trans (zac tp q1);cases z1
   have z2:=B.ms.symm.trans (zac tp q2);cases z2
   have u1:=ih a (by lia) _ _ _ _ A
   have u2:=ih b (by lia) _ _ _ _ B
   have z:=(zby g eq A B).ms.symm.trans T.ms;cases z
   exact yhc A.ky.ht B.ky.ht q6 u1 u2
theorem Tx.ls {ps:List Pc} (g:Good ps) {n:Nat} {m:Ms} {x:Str} {f l:Ms} (T:Tx ps n m x f l):Sk.ls m.ht.toNat<=m.sg:=by
 have u:=g.lv _ _ _ _ _ T
 have f1:=T.ky.f1
 unfold Sk.ls
 obtain ⟨k,⟨e,a,_⟩ | ⟨e,a,_⟩⟩:=T.ky.cnt
 ·rw [e] at u;generalize ll m.ht.toNat=q at *;clear e;lia
 ·rw [e] at u;generalize ll m.ht.toNat=q at *;clear e;lia
theorem yic:1000000000000000000<ls 101:=by decide +kernel
theorem zim {ps:List Pc} (g:Good ps) {n:Nat} {m:Ms} {x:Str} {f l:Ms} (T:Tx ps n m x f l):m.ht.toNat<=200:=by
 refine Nat.le_of_not_lt fun z=>?_
 have a:=T.ls g
 have b:=zf5 (show 101<=m.ht.toNat by lia)
 have c:=yic
 have d:=T.ky.most
 lia
theorem Good.kind {ps:List Pc} (g:Good ps) {n:Nat} {m:Ms} {x:Str} {f l:Ms} (T:Tx ps n m x f l) :
  (ps[n-1]? = some (.leaf x)/\m.ht=0/\m=lfMs x n/\1<=x.length/\x.length<=8)\/∃ a b ma mb y z fa la fb lb,ps[n-1]? = some (.fork a b)/\a<n/\b<n/\Tx ps a ma y fa la/\Tx ps b mb z fb lb/\x=y++z/\m=ydo ma mb/\(ma.ht-mb.ht).natAbs<=1:=by
 have hn:=T.n1
 have hle:=T.le
 obtain ⟨i,rfl⟩:∃ i,n=i+1:=⟨n-1,by lia⟩
 obtain ⟨q,eq⟩:∃ q,ps[i]? = some q:=⟨ps[i],by simp⟩
 cases q with
 | leaf y =>
  have L:=zbx g eq
  have z:=L.ms.symm.trans T.ms;cases z
  have z2:=L.rd.symm.trans T.rd;cases z2
  have ok:ybF x=true:=g.get eq
  obtain ⟨s1,s2,s3⟩:=zb4 ok
  exact .inl ⟨eq,rfl,rfl,s1,s2⟩
 | fork a b =>
  have ok':ForkOk (ps.take i) a b:=g.get eq
  have li:(ps.take i).length=i:=by simp;lia
  obtain ⟨ma,mb,la,fb,q1,q2,q3,q4,q5,q6,q7⟩:=ok'.ex
  have ba:=(List.getElem?_eq_some_iff.mp q1).1
  have bb:=(List.getElem?_eq_some_iff.mp q2).1
  rw [zau,li] at ba bb
  obtain ⟨ma',y,fa,la',A⟩:=g.tx a ok'.pa (by lia)
  obtain ⟨mb',z,fb',lb,B⟩:=g.tx b ok'.pb (by lia)
  have tp:=zbL ps i
  have z1:=A.ms.symm.trans (zac tp q1);cases z1
  have z2:=B.ms.symm.trans (zac tp q2);cases z2
  have F:=zby g eq A B
  have z3:=F.ms.symm.trans T.ms;cases z3
  have z4:=F.rd.symm.trans T.rd;cases z4
  exact .inr ⟨a,b,ma,mb,y,z,fa,la',fb',lb,eq,by lia,by lia,A,B,rfl,rfl,q6⟩
theorem zbN {h:AH} {p:Nat} {ps:List Pc} {n:Nat} {q:Pc} (S:ShelfAt h p ps) (n1:1<=n) (e:ps[n-1]? = some q):yaH [.ref p,.int n] h = .ok q.av h:=by
 have:=zjA S e
 rw [show ((n-1:Nat):Int)+1=(n:Int) by lia] at this
 exact this
theorem hs1 {m a b:Int} (e:m=max a b+1) (ha:0<=a) (hb:0<=b):∃ j:Nat,m.toNat=j+1/\a.toNat<=j/\b.toNat<=j/\0<m:=by
 obtain ⟨x,rfl⟩:=Int.eq_ofNat_of_zero_le ha
 obtain ⟨y,rfl⟩:=Int.eq_ofNat_of_zero_le hb
 subst e
 exact ⟨max x y,by lia,Nat.le_max_left _ _,Nat.le_max_right _ _,by lia⟩
end Sk
namespace Sk
open PySem PySem.Spec L2 Sm
theorem zae {x y:Str} (e:x.cps.toList=y.cps.toList):x=y:=by
 cases x;cases y
 simpa using e
theorem zaj (x y z:Str):(x++y)++z=x++(y++z):=zae (by simp only [zaf,List.append_assoc])
theorem ls83:1000000000000000000<ls 83:=by decide +kernel
theorem ht82 {ps:List Pc} (g:Good ps) {n:Nat} {m:Ms} {x:Str} {f l:Ms} (T:Tx ps n m x f l):m.ht<=82:=by
 have h1:=T.ls g
 have h2:=T.ky.most
 have h3:=T.ky.ht
 apply Classical.byContradiction
 intro h4
 have:=zf5 (show 83<=m.ht.toNat by lia)
 have:=ls83
 lia
theorem Good.cut {ps:List Pc} (g:Good ps) {n:Nat} {m:Ms} {x:Str} {f l:Ms} (T:Tx ps n m x f l) (hh:0<m.ht) :
  ∃ a b ma mb y z la fb,ps[n-1]? = some (.fork a b)/\Tx ps a ma y f la/\Tx ps b mb z fb l/\x=y++z/\m=ydo ma mb /\ -1<=ma.ht-mb.ht/\ma.ht-mb.ht<=1/\8<la.sg+fb.sg:=by
 rcases g.kind T with ⟨_,e,_⟩ | ⟨a,b,ma,mb,y,z,fa,la,fb,lb,e1,e2,e3,A,B,e4,e5,e6⟩
 ·omega
 ·have ok:ForkOk (ps.take (n-1)) a b:=g.get e1
  obtain ⟨ma',mb',la',fb',q1,q2,q3,q4,q5,_⟩:=(ok.pre (zbL ps _)).ex
  have z1:=A.ms.symm.trans q1;cases z1
  have z2:=B.ms.symm.trans q2;cases z2
  have z3:=A.ky.ll.symm.trans q3;cases z3
  have z4:=B.ky.fl.symm.trans q4;cases z4
  have f1:=T.ky.fl
  have l1:=T.ky.ll
  rw [e5] at f1 l1
  have z5:=f1.symm.trans A.ky.fl;cases z5
  have z6:=l1.symm.trans B.ky.ll;cases z6
  exact ⟨a,b,ma,mb,y,z,la,fb,e1,A,B,e4,e5,by omega,by omega,q5⟩
structure Dn (F:AH->Out AV) (p:Nat) (h h':AH) (ps ps':List Pc) (k n:Nat):Prop where
 ev:F h = .ok (.int n) h'
 dd:Dd p h h' ps ps' k
 re:∀ h2 ps2,ShelfAt h2 p ps2->Good ps2->ps' <+: ps2->F h2 = .ok (.int n) h2
theorem Dd.trans {p:Nat} {h h' h'':AH} {ps ps' ps'':List Pc} {k k' k2:Nat} (a:Dd p h h' ps ps' k) (b:Dd p h' h'' ps' ps'' k') (hk:k+k'<=k2):Dd p h h'' ps ps'' k2 :=
 ⟨b.sh,b.gd,a.pre.trans b.pre,by have:=a.len;have:=b.len;lia,fun i hi=>(b.fr i hi).trans (a.fr i hi),b.hl.trans a.hl⟩
theorem Dd.refl {p:Nat} {h:AH} {ps:List Pc} (S:ShelfAt h p ps) (g:Good ps):Dd p h h ps ps 0:=⟨S,g,List.prefix_refl _,by lia,fun _ _=>rfl,rfl⟩
theorem Dn.seq {F F1:AH->Out AV} {F2:AV->AH->Out AV} {p:Nat} {h h1 h2:AH} {ps ps1 ps2:List Pc} {k1 k2 k n1 n2:Nat} (S:ShelfAt h p ps) (g:Good ps) (d1:Dn F1 p h h1 ps ps1 k1 n1) (d2:Dn (F2 (.int n1)) p h1 h2 ps1 ps2 k2 n2)
  (eq:∀ hh pp,ShelfAt hh p pp->Good pp->ps <+: pp->F hh=(F1 hh).bind F2) (hk:k1+k2<=k):Dn F p h h2 ps ps2 k n2:=by
 refine ⟨?_,d1.dd.trans d2.dd hk,fun h3 ps3 S3 g3 p3=>?_⟩
 ·rw [eq h ps S g (List.prefix_refl _),d1.ev];exact d2.ev
 ·rw [eq h3 ps3 S3 g3 (d1.dd.pre.trans (d2.dd.pre.trans p3)),d1.re h3 ps3 S3 g3 (d2.dd.pre.trans p3)]
  exact d2.re h3 ps3 S3 g3 p3
theorem Dn.as {F F1:AH->Out AV} {p:Nat} {h h1:AH} {ps ps1:List Pc} {k1 k n1:Nat} (S:ShelfAt h p ps) (g:Good ps) (d1:Dn F1 p h h1 ps ps1 k1 n1) (eq:∀ hh pp,ShelfAt hh p pp->Good pp->ps <+: pp->F hh=F1 hh) (hk:k1<=k):Dn F p h h1 ps ps1 k n1:=by
 refine ⟨?_,{ d1.dd with len:=Nat.le_trans d1.dd.len (Nat.add_le_add_left hk _) },fun h3 ps3 S3 g3 p3=>?_⟩
 ·rw [eq h ps S g (List.prefix_refl _)];exact d1.ev
 ·rw [eq h3 ps3 S3 g3 (d1.dd.pre.trans p3)];exact d1.re h3 ps3 S3 g3 p3
theorem Dn.val {F:AH->Out AV} {p n:Nat} {h:AH} {ps:List Pc} (S:ShelfAt h p ps) (g:Good ps) (eq:∀ hh pp,ShelfAt hh p pp->Good pp->ps <+: pp->F hh = .ok (.int n) hh):Dn F p h h ps ps 0 n :=
 ⟨eq h ps S g (List.prefix_refl _),Dd.refl S g,fun h3 ps3 S3 g3 p3=>eq h3 ps3 S3 g3 p3⟩
theorem yaR {ps ps':List Pc} (h:ps <+: ps') {i:Nat} {q:Pc} (e:ps[i]? = some q):ps'[i]? = some q:=by
 obtain ⟨r,rfl⟩:=h
 rw [List.getElem?_append_left (List.getElem?_eq_some_iff.mp e).1];exact e
theorem zbz {h:AH} {p:Nat} {ps:List Pc} {x:Str} (S:ShelfAt h p ps) (g:Good ps) (hx:ybF x=true) (hz:ps.length<16000000) :
  ∃ (n:Nat) (ps':List Pc) (h':AH),Dn (yaJ [.ref p,.str x]) p h h' ps ps' 1 n/\Tx ps' n (lfMs x n) x (lfMs x n) (lfMs x n):=by
 obtain ⟨s1,s2,s3⟩:=zb4 hx
 have hs:x.length<=sizeLine:=Nat.le_trans s2 (by decide)
 by_cases hq:Pc.leaf x∈ps
 ·obtain ⟨i,hi,e⟩:=List.getElem_of_mem hq
  have e':ps[i]? = some (.leaf x):=by rw [List.getElem?_eq_getElem hi,e]
  exact ⟨i+1,ps,h,⟨zbI S g.nodup hx hs e',⟨S,g,List.prefix_refl _,by lia,fun _ _=>rfl,rfl⟩,fun h2 ps2 S2 g2 p2=>zbI S2 g2.nodup hx hs (yaR p2 e')⟩,zbx g e'⟩
 ·have g':Good (ps++[.leaf x]):=.snoc g hq hx
  have e':(ps++[Pc.leaf x])[ps.length]? = some (.leaf x):=by simp
  exact ⟨ps.length+1,_,_,⟨zgA S hx hs hq hz,⟨zbG S,g',List.prefix_append _ _,by simp,fun i hi=>zeM hi,zd5 _ _ _⟩,fun h2 ps2 S2 g2 p2=>zbI S2 g2.nodup hx hs (yaR p2 e')⟩,zbx g' e'⟩
theorem zaz {h:AH} {p:Nat} {ps:List Pc} {a b:Nat} {ma mb fa la fb lb:Ms} {x y:Str} (S:ShelfAt h p ps) (g:Good ps) (A:Tx ps a ma x fa la) (B:Tx ps b mb y fb lb) (hc:8<la.sg+fb.sg) (v1 : -1<=ma.ht-mb.ht) (v2:ma.ht-mb.ht<=1) (hm:ma.sg+mb.sg<=1000000000000000000) (hz:ps.length<16000000) :
  ∃ (n:Nat) (ps':List Pc) (h':AH),Dn (yag [.ref p,.int a,.int b]) p h h' ps ps' 1 n/\Tx ps' n (ydo ma mb) (x++y) fa lb:=by
 have F:ForkOk ps a b:=⟨A.n1,B.n1,ma,mb,la,fb,A.ms,B.ms,A.ky.ll,B.ky.fl,hc,by lia,hm⟩
 by_cases hq:Pc.fork a b∈ps
 ·obtain ⟨i,hi,e⟩:=List.getElem_of_mem hq
  have e':ps[i]? = some (.fork a b):=by rw [List.getElem?_eq_getElem hi,e]
  exact ⟨i+1,ps,h,⟨zbJ S g.nodup F e',⟨S,g,List.prefix_refl _,by lia,fun _ _=>rfl,rfl⟩,fun h2 ps2 S2 g2 p2=>zbJ S2 g2.nodup (F.pre p2) (yaR p2 e')⟩,zby g e' A B⟩
 ·have g':Good (ps++[.fork a b]):=.snoc g hq F
  have e':(ps++[Pc.fork a b])[ps.length]? = some (.fork a b):=by simp
  have pr:ps <+: ps++[Pc.fork a b]:=List.prefix_append _ _
  exact ⟨ps.length+1,_,_,⟨zgB S F hq hz,⟨zbG S,g',pr,by simp,fun i hi=>zeM hi,zd5 _ _ _⟩,fun h2 ps2 S2 g2 p2=>zbJ S2 g2.nodup (F.pre (pr.trans p2)) (yaR p2 e')⟩,zby g' e' (A.pre pr) (B.pre pr)⟩
theorem fmS (ma mb:Ms):(ydo ma mb).sg=ma.sg+mb.sg:=rfl
theorem fmH (ma mb:Ms):(ydo ma mb).ht=max ma.ht mb.ht+1:=rfl
theorem i1 (s:Str) (a b:Int) (h:AH):fIx (.tup [.str s,.int a,.int b]) (.int 1) h = .ok (.int a) h:=rfl
theorem i2 (s:Str) (a b:Int) (h:AH):fIx (.tup [.str s,.int a,.int b]) (.int 2) h = .ok (.int b) h:=rfl
theorem zaA {h:AH} {p:Nat} {ps:List Pc} {n a b:Nat} (S:ShelfAt h p ps) (n1:1<=n) (e:ps[n-1]? = some (.fork a b)):yaH [.ref p,.int n] h = .ok (.tup [.str "fork",.int a,.int b]) h:=zbN S n1 e
theorem tl_1 {h:AH} {p:Nat} {ps:List Pc} {a b:Nat} {ma mb:Ms} (S:ShelfAt h p ps) (ea:(meas ps)[a]? = some ma) (eb:(meas ps)[b]? = some mb) (hd:mb.ht-ma.ht<2) :
  yaT [.ref p,.int a,.int b] h=yag [.ref p,.int a,.int b] h:=by
 have f1:=zag S ea
 have f2:=zag S eb
 generalize hF:yag [.ref p,.int a,.int b] h=R
 simp [yaT,S.ob,f1,f2,hd,hF]
 cases R<;>rfl
theorem tl_2 {h:AH} {p:Nat} {ps:List Pc} {a b c d:Nat} {ma mb mc md:Ms} (S:ShelfAt h p ps) (b1:1<=b) (ea:(meas ps)[a]? = some ma) (eb:(meas ps)[b]? = some mb) (e:ps[b-1]? = some (.fork c d)) (ec:(meas ps)[c]? = some mc) (ed:(meas ps)[d]? = some md) (hd : ¬ mb.ht-ma.ht<2) (hh:mc.ht<=md.ht) :
  yaT [.ref p,.int a,.int b] h=(yag [.ref p,.int a,.int c] h).bind fun v h1=>yag [.ref p,v,.int d] h1:=by
 have f1:=zag S ea
 have f2:=zag S eb
 have f3:=zaA S b1 e
 have f4:=zag S ec
 have f5:=zag S ed
 generalize hF:yag [.ref p,.int a,.int c] h=R
 simp [yaT,S.ob,f1,f2,hd,f3,i1,i2,f4,f5,hh,hF,-fIx]
 cases R with
 | ok v h1=>dsimp only;cases yag [.ref p,v,.int d] h1<;>rfl
 | ex c h1=>rfl
 | bad=>rfl
def onSh (p:Nat) (F:AH->Out AV) (h:AH):Out AV:=match h[p]? with
 | some (.ins c' _)=>if c'=0 then F h else .bad
 | _=>.bad
theorem zf6 {h:AH} {p:Nat} {ps:List Pc} (S:ShelfAt h p ps) (F:AH->Out AV):onSh p F h=F h:=by simp [onSh,S.ob]
theorem tl_3 {h:AH} {p:Nat} {ps:List Pc} {a b c d i j:Nat} {ma mb mc md:Ms} (S:ShelfAt h p ps) (b1:1<=b) (c1:1<=c) (ea:(meas ps)[a]? = some ma) (eb:(meas ps)[b]? = some mb) (e:ps[b-1]? = some (.fork c d)) (ec:(meas ps)[c]? = some mc) (ed:(meas ps)[d]? = some md) (e2:ps[c-1]? = some (.fork i j)) (hd : ¬ mb.ht-ma.ht<2) (hh : ¬ mc.ht<=md.ht) :
  yaT [.ref p,.int a,.int b] h=(yag [.ref p,.int a,.int i] h).bind fun v h1=>(onSh p (yag [.ref p,.int j,.int d]) h1).bind fun w h2=>yag [.ref p,v,w] h2:=by
 have f1:=zag S ea
 have f2:=zag S eb
 have f3:=zaA S b1 e
 have f4:=zag S ec
 have f5:=zag S ed
 have f6:=zaA S c1 e2
 generalize hF:yag [.ref p,.int a,.int i] h=R
 simp [yaT,S.ob,f1,f2,hd,f3,i1,i2,f4,f5,hh,f6,hF,-fIx]
 cases R with
 | ok v h1 =>
  unfold onSh
  dsimp only
  cases hx:h1[p]? with
  | none=>rfl
  | some o =>
   cases o with
   | lst l=>rfl
   | dct q l=>rfl
   | ins c' l =>
    dsimp only
    by_cases z:c'=0
    ·rw [if_pos z]
     cases yag [.ref p,.int j,.int d] h1 with
     | ok w h2=>dsimp only;cases yag [.ref p,v,w] h2<;>rfl
     | ex c h2=>rfl
     | bad=>rfl
    ·rw [if_neg z]
 | ex c h1=>rfl
 | bad=>rfl
theorem tlh1 {a b m:Int} (h1 : -1<=b-a) (h2:b-a<2) (e:m=max a b+1):max a b<=m/\m<=max a b+1/\(b-a<=1->m=max a b+1):=by lia
theorem zf7 {h:AH} {p:Nat} {ps:List Pc} {a b:Nat} {ma mb fa la fb lb:Ms} {x y:Str} (S:ShelfAt h p ps) (g:Good ps) (A:Tx ps a ma x fa la) (B:Tx ps b mb y fb lb) (hc:8<la.sg+fb.sg) (v1 : -1<=mb.ht-ma.ht) (v2:mb.ht-ma.ht<=2) (hm:ma.sg+mb.sg<=1000000000000000000) (hz:ps.length+3<16000000) :
  ∃ (n:Nat) (ps':List Pc) (h':AH) (m:Ms),Dn (yaT [.ref p,.int a,.int b]) p h h' ps ps' 3 n/\Tx ps' n m (x++y) fa lb/\max ma.ht mb.ht<=m.ht/\m.ht<=max ma.ht mb.ht+1/\(mb.ht-ma.ht<=1->m.ht=max ma.ht mb.ht+1):=by
 by_cases q:mb.ht-ma.ht<2
 ·obtain ⟨n,ps',h',d,T⟩:=zaz S g A B hc (by lia) (by lia) hm (by lia)
  exact ⟨n,ps',h',_,d.as S g (fun hh pp S' _ pr=>tl_1 S' (zac pr A.ms) (zac pr B.ms) q) (by lia),T,tlh1 v1 q (fmH ma mb)⟩
 ·obtain ⟨c,d,mc,md,y1,y2,lc,fd,e,C,D,rfl,em,w1,w2,w3⟩:=g.cut B (by have:=A.ky.ht;(clear hz hm v2 v1 hc B A g S;omega))
  have sg:=congrArg Ms.sg em
  have ht:=congrArg Ms.ht em
  rw [fmS] at sg
  rw [fmH] at ht
  by_cases r:mc.ht<=md.ht
  ·obtain ⟨n1,ps1,h1,d1,T1⟩:=zaz S g A C hc (by (clear sg w3 w2 w1 em B D C e q hz hm v1 hc A g S;lia)) (by lia) (by lia) (by lia)
   obtain ⟨n2,ps2,h2,d2,T2⟩:=zaz d1.dd.sh d1.dd.gd T1 (D.pre d1.dd.pre) w3 (by rw [fmH];(clear T1 d1 r ht sg w3 w2 em B D C e q hz hm v2 v1 hc A g S;lia)) (by rw [fmH];lia) (by rw [fmS];lia) (by have:=d1.dd.len;lia)
   rw [zaj] at T2
   refine ⟨n2,ps2,h2,_,Dn.seq S g d1 d2 (fun hh pp S' _ pr=>tl_2 S' B.n1 (zac pr A.ms) (zac pr B.ms) (yaR pr e) (zac pr C.ms) (zac pr D.ms) q r) (by lia),T2,?_⟩
   rw [fmH,fmH];lia
  ·obtain ⟨i,j,mi,mj,z1,z2,li,fj,e2,I,J,rfl,em2,u1,u2,u3⟩:=g.cut C (by have:=D.ky.ht;lia)
   have sg2:=congrArg Ms.sg em2
   have ht2:=congrArg Ms.ht em2
   rw [fmS] at sg2
   rw [fmH] at ht2
   obtain ⟨n1,ps1,h1,d1,T1⟩:=zaz S g A I hc (by (clear sg2 u3 u2 em2 B C J I e2 sg w3 w1 em D q hz hm v1 hc A g S;lia)) (by (clear sg2 u3 u2 em2 B C J I e2 sg w3 w1 em D hz hm v2 v1 hc A g S;lia)) (by lia) (by lia)
   obtain ⟨n2,ps2,h2,d2,T2⟩:=zaz d1.dd.sh d1.dd.gd (J.pre d1.dd.pre) (D.pre d1.dd.pre) w3 (by (clear T1 d1 sg2 u3 u1 em2 B C J I e2 ht sg w3 w2 w1 em D e q hz hm v2 v1 hc A g S;lia)) (by (clear T1 d1 sg2 u3 u2 u1 em2 B C J I e2 r ht sg w3 w1 em D e q hz hm v2 v1 hc A g S;lia)) (by lia) (by have:=d1.dd.len;lia)
   obtain ⟨n3,ps3,h3,d3,T3⟩:=zaz d2.dd.sh d2.dd.gd (T1.pre d2.dd.pre) T2 u3 (by rw [fmH,fmH];(clear T2 d2 T1 d1 sg2 u3 u2 em2 B C J I sg w3 w1 em D q hz hm v1 hc A g S;lia)) (by rw [fmH,fmH];lia) (by rw [fmS,fmS];lia) (by have:=d1.dd.len;have:=d2.dd.len;lia)
   have d2':Dn (onSh p (yag [.ref p,.int j,.int d])) p h1 h2 ps1 ps2 1 n2:=d2.as d1.dd.sh d1.dd.gd (fun hh pp S' _ _=>zf6 S' _) (Nat.le_refl _)
   have d23:=Dn.seq (F:=fun h1=>(onSh p (yag [.ref p,.int j,.int d]) h1).bind fun w h2=>yag [.ref p,.int n1,w] h2) (F2:=fun w h2=>yag [.ref p,.int n1,w] h2) d1.dd.sh d1.dd.gd d2' d3 (fun _ _ _ _ _=>rfl) (k:=2) (by lia)
   have ea:(x++z1)++(z2++y2)=x++(z1++z2++y2):=by rw [zaj,zaj]
   rw [ea] at T3
   refine ⟨n3,ps3,h3,_,Dn.seq (F2:=fun v h1=>(onSh p (yag [.ref p,.int j,.int d]) h1).bind fun w h2=>yag [.ref p,v,w] h2) S g d1 d23 (fun hh pp S' _ pr=>tl_3 S' B.n1 C.n1 (zac pr A.ms) (zac pr B.ms) (yaR pr e) (zac pr C.ms) (zac pr D.ms) (yaR pr e2) q r) (by lia),T3,?_⟩
   rw [fmH,fmH,fmH];(clear ea d2' T3 T2 T1 u2 em2 B C J I e2 sg w3 w1 em D e v1 A g S;lia)
theorem tr_1 {h:AH} {p:Nat} {ps:List Pc} {a b:Nat} {ma mb:Ms} (S:ShelfAt h p ps) (ea:(meas ps)[a]? = some ma) (eb:(meas ps)[b]? = some mb) (hd:ma.ht-mb.ht<2) :
  yaW [.ref p,.int a,.int b] h=yag [.ref p,.int a,.int b] h:=by
 have f1:=zag S ea
 have f2:=zag S eb
 generalize hF:yag [.ref p,.int a,.int b] h=R
 simp [yaW,S.ob,f1,f2,hd,hF]
 cases R<;>rfl
theorem tr_2 {h:AH} {p:Nat} {ps:List Pc} {a b c d:Nat} {ma mb mc md:Ms} (S:ShelfAt h p ps) (a1:1<=a) (ea:(meas ps)[a]? = some ma) (eb:(meas ps)[b]? = some mb) (e:ps[a-1]? = some (.fork c d)) (ec:(meas ps)[c]? = some mc) (ed:(meas ps)[d]? = some md) (hd : ¬ ma.ht-mb.ht<2) (hh:md.ht<=mc.ht) :
  yaW [.ref p,.int a,.int b] h=(yag [.ref p,.int d,.int b] h).bind fun v h1=>yag [.ref p,.int c,v] h1:=by
 have f1:=zag S ea
 have f2:=zag S eb
 have f3:=zaA S a1 e
 have f4:=zag S ec
 have f5:=zag S ed
 generalize hF:yag [.ref p,.int d,.int b] h=R
 simp [yaW,S.ob,f1,f2,hd,f3,i1,i2,f4,f5,hh,hF,-fIx]
 cases R with
 | ok v h1=>dsimp only;cases yag [.ref p,.int c,v] h1<;>rfl
 | ex c h1=>rfl
 | bad=>rfl
theorem tr_3 {h:AH} {p:Nat} {ps:List Pc} {a b c d i j:Nat} {ma mb mc md:Ms} (S:ShelfAt h p ps) (a1:1<=a) (d1:1<=d) (ea:(meas ps)[a]? = some ma) (eb:(meas ps)[b]? = some mb) (e:ps[a-1]? = some (.fork c d)) (ec:(meas ps)[c]? = some mc) (ed:(meas ps)[d]? = some md) (e2:ps[d-1]? = some (.fork i j)) (hd : ¬ ma.ht-mb.ht<2) (hh : ¬ md.ht<=mc.ht) :
  yaW [.ref p,.int a,.int b] h=(yag [.ref p,.int c,.int i] h).bind fun v h1=>(onSh p (yag [.ref p,.int j,.int b]) h1).bind fun w h2=>yag [.ref p,v,w] h2:=by
 have f1:=zag S ea
 have f2:=zag S eb
 have f3:=zaA S a1 e
 have f4:=zag S ec
 have f5:=zag S ed
 have f6:=zaA S d1 e2
 generalize hF:yag [.ref p,.int c,.int i] h=R
 simp [yaW,S.ob,f1,f2,hd,f3,i1,i2,f4,f5,hh,f6,hF,-fIx]
 cases R with
 | ok v h1 =>
  unfold onSh
  dsimp only
  cases hx:h1[p]? with
  | none=>rfl
  | some o =>
   cases o with
   | lst l=>rfl
   | dct q l=>rfl
   | ins c' l =>
    dsimp only
    by_cases z:c'=0
    ·rw [if_pos z]
     cases yag [.ref p,.int j,.int b] h1 with
     | ok w h2=>dsimp only;cases yag [.ref p,v,w] h2<;>rfl
     | ex c h2=>rfl
     | bad=>rfl
    ·rw [if_neg z]
 | ex c h1=>rfl
 | bad=>rfl
theorem zin {h:AH} {p:Nat} {ps:List Pc} {a b:Nat} {ma mb fa la fb lb:Ms} {x y:Str} (S:ShelfAt h p ps) (g:Good ps) (A:Tx ps a ma x fa la) (B:Tx ps b mb y fb lb) (hc:8<la.sg+fb.sg) (v1 : -1<=ma.ht-mb.ht) (v2:ma.ht-mb.ht<=2) (hm:ma.sg+mb.sg<=1000000000000000000) (hz:ps.length+3<16000000) :
  ∃ (n:Nat) (ps':List Pc) (h':AH) (m:Ms),Dn (yaW [.ref p,.int a,.int b]) p h h' ps ps' 3 n/\Tx ps' n m (x++y) fa lb/\max ma.ht mb.ht<=m.ht/\m.ht<=max ma.ht mb.ht+1/\(ma.ht-mb.ht<=1->m.ht=max ma.ht mb.ht+1):=by
 by_cases q:ma.ht-mb.ht<2
 ·obtain ⟨n,ps',h',d,T⟩:=zaz S g A B hc (by omega) (by lia) hm (by lia)
  refine ⟨n,ps',h',_,d.as S g (fun hh pp S' _ pr=>tr_1 S' (zac pr A.ms) (zac pr B.ms) q) (by lia),T,?_⟩
  rw [fmH];lia
 ·obtain ⟨c,d,mc,md,y1,y2,lc,fd,e,C,D,rfl,em,w1,w2,w3⟩:=g.cut A (by have:=B.ky.ht;(clear hz hm v2 v1 hc B A g S;omega))
  have sg:=congrArg Ms.sg em
  have ht:=congrArg Ms.ht em
  rw [fmS] at sg
  rw [fmH] at ht
  by_cases r:md.ht<=mc.ht
  ·obtain ⟨n1,ps1,h1,d1,T1⟩:=zaz S g D B hc (by lia) (by (clear r sg w3 w1 em A D C e q hz hm v1 hc B g S;lia)) (by lia) (by lia)
   obtain ⟨n2,ps2,h2,d2,T2⟩:=zaz d1.dd.sh d1.dd.gd (C.pre d1.dd.pre) T1 w3 (by rw [fmH];(clear T1 d1 sg w3 w2 w1 em A D C hz hm v2 v1 hc B g S;lia)) (by rw [fmH];lia) (by rw [fmS];lia) (by have:=d1.dd.len;lia)
   rw [<- zaj] at T2
   refine ⟨n2,ps2,h2,_,Dn.seq (F2:=fun v h1=>yag [.ref p,.int c,v] h1) S g d1 d2 (fun hh pp S' _ pr=>tr_2 S' A.n1 (zac pr A.ms) (zac pr B.ms) (yaR pr e) (zac pr C.ms) (zac pr D.ms) q r) (by lia),T2,?_⟩
   rw [fmH,fmH];(clear T2 d2 T1 d1 r sg w3 w1 em A D C e hz hm v1 hc B g S;lia)
  ·obtain ⟨i,j,mi,mj,z1,z2,li,fj,e2,I,J,rfl,em2,u1,u2,u3⟩:=g.cut D (by have:=C.ky.ht;lia)
   have sg2:=congrArg Ms.sg em2
   have ht2:=congrArg Ms.ht em2
   rw [fmS] at sg2
   rw [fmH] at ht2
   obtain ⟨n1,ps1,h1,d1,T1⟩:=zaz S g C I w3 (by (clear sg2 u3 u2 em2 A D J I e2 r ht sg w3 w2 em C e q hz hm v2 v1 hc B g S;lia)) (by (clear sg2 u3 u2 em2 A D J I e2 ht sg w3 w2 w1 em C e q hz hm v2 v1 hc B g S;lia)) (by lia) (by lia)
   obtain ⟨n2,ps2,h2,d2,T2⟩:=zaz d1.dd.sh d1.dd.gd (J.pre d1.dd.pre) (B.pre d1.dd.pre) hc (by lia) (by (clear T1 d1 sg2 u3 u2 u1 em2 A D J I e2 sg w3 w2 em C e q hz hm v1 hc B g S;lia)) (by lia) (by have:=d1.dd.len;lia)
   obtain ⟨n3,ps3,h3,d3,T3⟩:=zaz d2.dd.sh d2.dd.gd (T1.pre d2.dd.pre) T2 u3 (by rw [fmH,fmH];lia) (by rw [fmH,fmH];lia) (by rw [fmS,fmS];lia) (by have:=d1.dd.len;have:=d2.dd.len;lia)
   have d2':Dn (onSh p (yag [.ref p,.int j,.int b])) p h1 h2 ps1 ps2 1 n2:=d2.as d1.dd.sh d1.dd.gd (fun hh pp S' _ _=>zf6 S' _) (Nat.le_refl _)
   have d23:=Dn.seq (F:=fun h1=>(onSh p (yag [.ref p,.int j,.int b]) h1).bind fun w h2=>yag [.ref p,.int n1,w] h2) (F2:=fun w h2=>yag [.ref p,.int n1,w] h2) d1.dd.sh d1.dd.gd d2' d3 (fun _ _ _ _ _=>rfl) (k:=2) (by lia)
   have ea:(y1++z1)++(z2++y)=y1++(z1++z2)++y:=by rw [zaj,zaj,zaj]
   rw [ea] at T3
   refine ⟨n3,ps3,h3,_,Dn.seq (F2:=fun v h1=>(onSh p (yag [.ref p,.int j,.int b]) h1).bind fun w h2=>yag [.ref p,v,w] h2) S g d1 d23 (fun hh pp S' _ pr=>tr_3 S' A.n1 D.n1 (zac pr A.ms) (zac pr B.ms) (yaR pr e) (zac pr C.ms) (zac pr D.ms) (yaR pr e2) q r) (by lia),T3,?_⟩
   rw [fmH,fmH,fmH];(clear ea d23 d2' T3 d3 T2 d2 T1 d1 sg2 u3 u2 u1 em2 A D J I e2 w2 em C v1 hc B g S;lia)
end Sk
namespace Sk
open PySem PySem.Spec L2 Sm
theorem Dn.seq' {F F1 F2:AH->Out AV} {p:Nat} {h h1 h2:AH} {ps ps1 ps2:List Pc} {k1 k2 k n1 n2:Nat} (S:ShelfAt h p ps) (g:Good ps) (d1:Dn F1 p h h1 ps ps1 k1 n1) (d2:Dn F2 p h1 h2 ps1 ps2 k2 n2)
  (eq:∀ hh hh1 pp,ShelfAt hh p pp->Good pp->ps <+: pp->F1 hh = .ok (.int n1) hh1->F hh=F2 hh1) (hk:k1+k2<=k):Dn F p h h2 ps ps2 k n2:=by
 refine ⟨?_,d1.dd.trans d2.dd hk,fun h3 ps3 S3 g3 p3=>?_⟩
 ·rw [eq h h1 ps S g (List.prefix_refl _) d1.ev];exact d2.ev
 ·rw [eq h3 h3 ps3 S3 g3 (d1.dd.pre.trans (d2.dd.pre.trans p3)) (d1.re h3 ps3 S3 g3 (d2.dd.pre.trans p3))]
  exact d2.re h3 ps3 S3 g3 p3
theorem lk_1 {h:AH} {p:Nat} {ps:List Pc} {a b d:Nat} {ma mb:Ms} (S:ShelfAt h p ps) (ea:(meas ps)[a]? = some ma) (eb:(meas ps)[b]? = some mb) (h1:ma.ht-mb.ht<=1) (h2 : -1<=ma.ht-mb.ht) :
  ya6 (d+1) [.ref p,.int a,.int b] h=yag [.ref p,.int a,.int b] h:=by
 have f1:=zag S ea
 have f2:=zag S eb
 have c1 : ¬ 1<ma.ht-mb.ht:=by lia
 have c2 : ¬ ma.ht-mb.ht < -1:=by lia
 generalize hF:yag [.ref p,.int a,.int b] h=R
 simp [ya6,ydW,S.ob,f1,f2,c1,c2,hF]
 cases R<;>rfl
theorem lk_2 {h h1:AH} {p:Nat} {ps:List Pc} {a b c e d:Nat} {v:Int} {ma mb:Ms} (S:ShelfAt h p ps) (a1:1<=a) (ea:(meas ps)[a]? = some ma) (eb:(meas ps)[b]? = some mb) (ep:ps[a-1]? = some (.fork c e)) (hd:1<ma.ht-mb.ht) (ev:ya6 d [.ref p,.int e,.int b] h = .ok (.int v) h1) :
  ya6 (d+1) [.ref p,.int a,.int b] h=yaT [.ref p,.int c,.int v] h1:=by
 have f1:=zag S ea
 have f2:=zag S eb
 have f3:=zaA S a1 ep
 generalize hF:yaT [.ref p,.int c,.int v] h1=R
 simp [ya6,ydW,S.ob,f1,f2,hd,f3,i1,i2,ev,hF,-fIx]
 cases R<;>rfl
theorem lk_3 {h h1:AH} {p:Nat} {ps:List Pc} {a b c e d:Nat} {v:Int} {ma mb:Ms} (S:ShelfAt h p ps) (b1:1<=b) (ea:(meas ps)[a]? = some ma) (eb:(meas ps)[b]? = some mb) (ep:ps[b-1]? = some (.fork c e)) (hd:ma.ht-mb.ht < -1) (ev:ya6 d [.ref p,.int a,.int c] h = .ok (.int v) h1) :
  ya6 (d+1) [.ref p,.int a,.int b] h=yaW [.ref p,.int v,.int e] h1:=by
 have f1:=zag S ea
 have f2:=zag S eb
 have f3:=zaA S b1 ep
 have c1 : ¬ 1<ma.ht-mb.ht:=by lia
 generalize hF:yaW [.ref p,.int v,.int e] h1=R
 simp [ya6,ydW,S.ob,f1,f2,c1,hd,f3,i1,i2,ev,hF,-fIx]
 cases R<;>rfl
theorem zaR {p:Nat}:∀ (d t:Nat) {h:AH} {ps:List Pc} {a b:Nat} {ma mb fa la fb lb:Ms} {x y:Str} (S:ShelfAt h p ps) (g:Good ps) (A:Tx ps a ma x fa la) (B:Tx ps b mb y fb lb) (hc:8<la.sg+fb.sg) (hm:ma.sg+mb.sg<=1000000000000000000)
  (ht:(ma.ht-mb.ht).natAbs<=t) (hd:t<d) (hz:ps.length+3*t+4<16000000),
  ∃ (n:Nat) (ps':List Pc) (h':AH) (m:Ms),Dn (ya6 d [.ref p,.int a,.int b]) p h h' ps ps' (3*t+1) n/\Tx ps' n m (x++y) fa lb/\max ma.ht mb.ht<=m.ht/\m.ht<=max ma.ht mb.ht+1
 | 0,t,h,ps,a,b,ma,mb,fa,la,fb,lb,x,y,S,g,A,B,hc,hm,ht,hd,hz=>absurd hd (Nat.not_lt_zero t)
 | d+1,t,h,ps,a,b,ma,mb,fa,la,fb,lb,x,y,S,g,A,B,hc,hm,ht,hd,hz=>by
  by_cases q1:1<ma.ht-mb.ht
  ·obtain ⟨c,e,mc,me,y1,y2,lc,fe,ep,C,E,rfl,em,w1,w2,w3⟩:=g.cut A (by have:=B.ky.ht;lia)
   have sg:=congrArg Ms.sg em
   have hh:=congrArg Ms.ht em
   rw [fmS] at sg
   rw [fmH] at hh
   obtain ⟨n1,ps1,h1,m1,d1,T1,u1,u2⟩:=zaR d (t-1) S g E B hc (by lia) (by lia) (by lia) (by lia)
   have s1:m1.sg=me.sg+mb.sg:=by rw [T1.ky.sg,zal,<- E.ky.sg,<- B.ky.sg]
   obtain ⟨n2,ps2,h2,m2,d2,T2,u3,u4,u5⟩:=zf7 d1.dd.sh d1.dd.gd (C.pre d1.dd.pre) T1 w3 (by lia) (by (clear s1 u1 T1 sg w3 w2 em A E C hz hd hm hc B g S;lia)) (by lia) (by have:=d1.dd.len;lia)
   rw [<- zaj] at T2
   exact ⟨n2,ps2,h2,m2,Dn.seq' S g d1 d2 (fun hh hh1 pp S' _ pr ev=>lk_2 S' A.n1 (zac pr A.ms) (zac pr B.ms) (yaR pr ep) q1 ev) (by lia),T2,by (clear u4 T2 d2 s1 T1 d1 sg w3 w2 em A E C ep hz hd hm hc B g S;lia),by (clear u5 u3 T2 d2 s1 u1 T1 d1 sg w3 w2 w1 em A E C hz hd hm hc B g S;lia)⟩
  ·by_cases q2:ma.ht-mb.ht < -1
   ·obtain ⟨c,e,mc,me,y1,y2,lc,fe,ep,C,E,rfl,em,w1,w2,w3⟩:=g.cut B (by have:=A.ky.ht;lia)
    have sg:=congrArg Ms.sg em
    have hh:=congrArg Ms.ht em
    rw [fmS] at sg
    rw [fmH] at hh
    obtain ⟨n1,ps1,h1,m1,d1,T1,u1,u2⟩:=zaR d (t-1) S g A C hc (by lia) (by lia) (by lia) (by lia)
    have s1:m1.sg=ma.sg+mc.sg:=by rw [T1.ky.sg,zal,<- A.ky.sg,<- C.ky.sg]
    obtain ⟨n2,ps2,h2,m2,d2,T2,u3,u4,u5⟩:=zin d1.dd.sh d1.dd.gd T1 (E.pre d1.dd.pre) w3 (by lia) (by lia) (by lia) (by have:=d1.dd.len;lia)
    rw [zaj] at T2
    exact ⟨n2,ps2,h2,m2,Dn.seq' S g d1 d2 (fun hh hh1 pp S' _ pr ev=>lk_3 S' B.n1 (zac pr A.ms) (zac pr B.ms) (yaR pr ep) q2 ev) (by lia),T2,by (clear u4 T2 d2 s1 u2 T1 d1 sg w3 w1 em B E C ep q1 hz hd hm hc A g S;lia),by (clear u5 u3 T2 d2 s1 u1 T1 sg w3 w2 em B E C q1 hz hd ht hm hc A g S;lia)⟩
   ·obtain ⟨n,ps',h',dn,T⟩:=zaz S g A B hc (by lia) (by lia) hm (by lia)
    exact ⟨n,ps',h',_,dn.as S g (fun hh pp S' _ pr=>lk_1 S' (zac pr A.ms) (zac pr B.ms) (by lia) (by lia)) (by lia),T,by rw [fmH];lia,by rw [fmH];lia⟩
theorem zbi {h:AH} {p:Nat} {ps:List Pc} {n:Nat} {x:Str} (S:ShelfAt h p ps) (n1:1<=n) (e:ps[n-1]? = some (.leaf x)):yaH [.ref p,.int n] h = .ok (.tup [.str "leaf",.str x]) h:=zbN S n1 e
theorem i0L (x:Str) (h:AH):fIx (.tup [.str "leaf",.str x]) (.int 0) h = .ok (.str "leaf") h:=rfl
theorem i0F (a b:Int) (h:AH):fIx (.tup [.str "fork",.int a,.int b]) (.int 0) h = .ok (.str "fork") h:=rfl
theorem i1L (x:Str) (h:AH):fIx (.tup [.str "leaf",.str x]) (.int 1) h = .ok (.str x) h:=rfl
theorem eqL (h:AH):fEq (.str "leaf") (.str "leaf") h = .ok (.bl true) h:=by simp
theorem eqF (h:AH):fEq (.str "fork") (.str "leaf") h = .ok (.bl false) h:=by
 have : ¬ (Str.ofString "fork" = Str.ofString "leaf"):=by decide +kernel
 simp [this]
theorem wl_1 {h:AH} {p:Nat} {ps:List Pc} {a d:Nat} {L:Int} {x:Str} (S:ShelfAt h p ps) (a1:1<=a) (ep:ps[a-1]? = some (.leaf x)):ya7 (d+1) [.ref p,.int a,.int L] h = .ok (.int L) h:=by
 simp [ya7,ydC,S.ob,zbi S a1 ep,i0L,eqL,-fIx,-fEq]
theorem wl_2 {h h1:AH} {p:Nat} {ps:List Pc} {a d c e:Nat} {L v:Int} (S:ShelfAt h p ps) (a1:1<=a) (ep:ps[a-1]? = some (.fork c e)) (ev:ya7 d [.ref p,.int e,.int L] h = .ok (.int v) h1) :
  ya7 (d+1) [.ref p,.int a,.int L] h=yag [.ref p,.int c,.int v] h1:=by
 generalize hF:yag [.ref p,.int c,.int v] h1=R
 simp [ya7,ydC,S.ob,zaA S a1 ep,i0F,i1,i2,eqF,ev,hF,-fIx,-fEq]
 cases R<;>rfl
theorem zco {ps:List Pc} {n:Nat} {m:Ms} {x:Str} {f l:Ms} (T:Tx ps n m x f l) (e:m=lfMs x n):f=m/\l=m:=by
 have h1:=T.ky.fl
 have h2:=T.ky.ll
 have h3:=T.ms
 rw [e] at h1 h2
 exact ⟨Option.some.inj (h1.symm.trans h3),Option.some.inj (h2.symm.trans h3)⟩
theorem zdD {p:Nat}:∀ (d:Nat) {h:AH} {ps:List Pc} {a L:Nat} {m f l:Ms} {x w:Str} (S:ShelfAt h p ps) (g:Good ps) (T:Tx ps a m x f l) (N:Tx ps L (lfMs w L) w (lfMs w L) (lfMs w L)) (hw:l.sg<=w.length) (hm:m.sg+w.length<=1000000000000000000+l.sg) (hd:m.ht.toNat<d) (hz:ps.length+m.ht.toNat<16000000),
  ∃ (n:Nat) (ps':List Pc) (h':AH) (m' f':Ms) (u v:Str),Dn (ya7 d [.ref p,.int a,.int L]) p h h' ps ps' m.ht.toNat n/\x=u++v/\v.length=l.sg/\Tx ps' n m' (u++w) f' (lfMs w L)/\m'.ht=m.ht/\f.sg<=f'.sg
 | 0,h,ps,a,L,m,f,l,x,w,S,g,T,N,hw,hm,hd,hz=>absurd hd (Nat.not_lt_zero _)
 | d+1,h,ps,a,L,m,f,l,x,w,S,g,T,N,hw,hm,hd,hz=>by
  by_cases q:0<m.ht
  ·obtain ⟨c,e,mc,me,y1,y2,lc,fe,ep,C,E,rfl,em,w1,w2,w3⟩:=g.cut T q
   have sg:=congrArg Ms.sg em
   have hh:=congrArg Ms.ht em
   rw [fmS] at sg
   rw [fmH] at hh
   have c0:=C.ky.ht
   have e0:=E.ky.ht
   obtain ⟨n1,ps1,h1,m1,f1,u,v,d1,rfl,lv,T1,k1,k2⟩:=zdD d S g E N hw (by lia) (by lia) (by lia)
   have s1:m1.sg+l.sg=me.sg+w.length:=by rw [T1.ky.sg,E.ky.sg,zal,zal];lia
   obtain ⟨n2,ps2,h2,d2,T2⟩:=zaz d1.dd.sh d1.dd.gd (C.pre d1.dd.pre) T1 (by lia) (by lia) (by lia) (by lia) (by have:=d1.dd.len;lia)
   rw [<- zaj] at T2
   exact ⟨n2,ps2,h2,_,f,y1++u,v,Dn.seq' S g d1 d2 (fun hh hh1 pp S' _ pr ev=>wl_2 S' T.n1 (yaR pr ep) ev) (by lia),by rw [zaj],lv,T2,by rw [fmH,k1,hh],Nat.le_refl _⟩
  ·rcases g.kind T with ⟨e1,e2,e3,e4,e5⟩ | ⟨c,e,mc,me,y1,y2,fc,lc,fe,le,e1,e2,e3,C,E,e4,e5,e6⟩
   ·obtain ⟨z1,z2⟩:=zco T e3
    subst z1 z2
    have em:("" : Str)++x=x:=zae (by rw [zaf];rfl)
    have em2:("" : Str)++w=w:=zae (by rw [zaf];rfl)
    have dv:Dn (ya7 (d+1) [.ref p,.int a,.int L]) p h h ps ps 0 L:=Dn.val S g fun hh pp S' _ pr=>wl_1 S' T.n1 (yaR pr e1)
    refine ⟨L,ps,h,_,_, "",x,dv.as S g (fun _ _ _ _ _=>rfl) (Nat.zero_le _),em.symm,T.ky.sg.symm,by rw [em2];exact N,e2.symm,hw⟩
   ·have:=congrArg Ms.ht e5
    rw [fmH] at this
    have c0:=C.ky.ht
    (clear e6 e5 e4 E C e3 e2 e1 hz hd hm hw N T g S;omega)
theorem wf_1 {h:AH} {p:Nat} {ps:List Pc} {a d:Nat} {x:Str} (S:ShelfAt h p ps) (a1:1<=a) (ep:ps[a-1]? = some (.leaf x)):yaI (d+1) [.ref p,.int a] h = .ok (.int (0:Nat)) h:=by
 simp [yaI,ycd,S.ob,zbi S a1 ep,i0L,eqL,-fIx,-fEq]
theorem wf_2 {h h1:AH} {p:Nat} {ps:List Pc} {a d c e:Nat} (S:ShelfAt h p ps) (a1:1<=a) (ep:ps[a-1]? = some (.fork c e)) (ev:yaI d [.ref p,.int c] h = .ok (.int (0:Nat)) h1) :
  yaI (d+1) [.ref p,.int a] h = .ok (.int e) h1:=by
 have z:fEq (.int 0) (.int 0) h1 = .ok (.bl true) h1:=by simp
 simp [yaI,ycd,S.ob,zaA S a1 ep,i0F,i1,i2,eqF,ev,z,-fIx,-fEq]
theorem wf_3 {h h1:AH} {p:Nat} {ps:List Pc} {a d c e v:Nat} (S:ShelfAt h p ps) (a1:1<=a) (ep:ps[a-1]? = some (.fork c e)) (v1:1<=v) (ev:yaI d [.ref p,.int c] h = .ok (.int v) h1) :
  yaI (d+1) [.ref p,.int a] h=yaT [.ref p,.int v,.int e] h1:=by
 have z:fEq (.int (v:Int)) (.int 0) h1 = .ok (.bl false) h1:=by
  have : ¬ (v=0):=by lia
  simp [this]
 generalize hF:yaT [.ref p,.int v,.int e] h1=R
 simp [yaI,ycd,S.ob,zaA S a1 ep,i0F,i1,i2,eqF,ev,z,hF,-fIx,-fEq]
 cases R<;>rfl
end Sk
namespace Sk
open PySem PySem.Spec L2 Sm
theorem zcY {p:Nat}:∀ (d:Nat) {h:AH} {ps:List Pc} {a:Nat} {m f l:Ms} {x:Str} (S:ShelfAt h p ps) (g:Good ps) (T:Tx ps a m x f l) (hd:m.ht.toNat<d) (hz:ps.length+3*m.ht.toNat<16000000),
  (m.ht=0/\f.sg=x.length/\Dn (yaI d [.ref p,.int a]) p h h ps ps 0 0) \/
  (0<m.ht/\∃ (n:Nat) (ps':List Pc) (h':AH) (m' f2:Ms) (u v:Str),Dn (yaI d [.ref p,.int a]) p h h' ps ps' (3*m.ht.toNat) n/\x=u++v/\u.length=f.sg/\Tx ps' n m' v f2 l/\m.ht-1<=m'.ht/\m'.ht<=m.ht/\8<f.sg+f2.sg)
 | 0,h,ps,a,m,f,l,x,S,g,T,hd,hz=>absurd hd (Nat.not_lt_zero _)
 | d+1,h,ps,a,m,f,l,x,S,g,T,hd,hz=>by
  by_cases q:0<m.ht
  ·obtain ⟨c,e,mc,me,y1,y2,lc,fe,ep,C,E,rfl,em,w1,w2,w3⟩:=g.cut T q
   have sg:=congrArg Ms.sg em
   have hh:=congrArg Ms.ht em
   rw [fmS] at sg
   rw [fmH] at hh
   have c0:=C.ky.ht
   have e0:=E.ky.ht
   have most:=T.ky.most
   refine .inr ⟨q,?_⟩
   rcases zcY d S g C (by (clear most e0 c0 sg w3 w2 w1 em T E C ep hz g S;lia)) (by (clear most e0 c0 sg w3 w2 w1 em T E C ep hd g S;lia)) with ⟨k1,k2,d1⟩ | ⟨k1,n1,ps1,h1,m1,f2,u,v,d1,rfl,lu,T1,r1,r2,r3⟩
   ·rcases g.kind C with ⟨e1,e2,e3,e4,e5⟩ | ⟨_,_,mx,my,_,_,_,_,_,_,_,_,_,X,Y,_,e5,_⟩
    ·obtain ⟨z1,z2⟩:=zco C e3
     have dv:Dn (yaI (d+1) [.ref p,.int a]) p h h ps ps 0 e:=by
      refine ⟨wf_2 S T.n1 ep d1.ev,Dd.refl S g,fun h3 ps3 S3 g3 p3=>wf_2 S3 T.n1 (yaR p3 ep) (d1.re h3 ps3 S3 g3 p3)⟩
     exact ⟨e,ps,h,me,fe,y1,y2,dv.as S g (fun _ _ _ _ _=>rfl) (Nat.zero_le _),rfl,k2.symm,E,by lia,by lia,by rw [z1];rw [z2] at w3;exact w3⟩
    ·have:=congrArg Ms.ht e5
     rw [fmH] at this
     have:=X.ky.ht
     (clear e5 Y X d1 k2 most e0 c0 hh sg w3 w2 w1 em T E C ep q hz hd g S;omega)
   ·have s1:m1.sg+f.sg=mc.sg:=by rw [T1.ky.sg,C.ky.sg,zal];lia
    obtain ⟨n2,ps2,h2,m2,d2,T2,u3,u4,u5⟩:=zf7 d1.dd.sh d1.dd.gd T1 (E.pre d1.dd.pre) w3 (by lia) (by lia) (by lia) (by have:=d1.dd.len;lia)
    refine ⟨n2,ps2,h2,m2,f2,u,v++y2,Dn.seq' S g d1 d2 (fun hh hh1 pp S' _ pr ev=>wf_3 S' T.n1 (yaR pr ep) T1.n1 ev) (by lia),by rw [zaj],lu,T2,?_,?_,r3⟩
    ·(clear u4 T2 d2 s1 r3 r2 T1 lu T C d1 k1 most e0 c0 sg w3 w1 em E q hz hd g S;lia)
    ·(clear u3 T2 d2 s1 r3 r1 T1 lu T C d1 k1 most e0 c0 sg w3 em E q hz g S;lia)
  ·rcases g.kind T with ⟨e1,e2,e3,e4,e5⟩ | ⟨_,_,mx,my,_,_,_,_,_,_,_,_,_,X,Y,_,e5,_⟩
   ·obtain ⟨z1,z2⟩:=zco T e3
    exact .inl ⟨e2,by rw [z1];exact T.ky.sg,Dn.val S g fun hh pp S' _ pr=>wf_1 S' T.n1 (yaR pr e1)⟩
   ·have:=congrArg Ms.ht e5
    rw [fmH] at this
    have:=X.ky.ht
    lia
theorem Good.ends {ps:List Pc} (g:Good ps):∀ (k n:Nat) {m f l:Ms} {x:Str},n<=k->Tx ps n m x f l ->
  (∃ w u:Str,1<=m.fl/\ps[m.fl-1]? = some (.leaf w)/\x=w++u/\w.length=f.sg)/\(∃ w u:Str,1<=m.ll/\ps[m.ll-1]? = some (.leaf w)/\x=u++w/\w.length=l.sg)
 | 0,n,m,f,l,x,hn,T=>absurd T.n1 (by lia)
 | k+1,n,m,f,l,x,hn,T=>by
  rcases g.kind T with ⟨e1,e2,e3,e4,e5⟩ | ⟨a,b,ma,mb,y,z,fa,la,fb,lb,e1,e2,e3,A,B,rfl,e5,e6⟩
  ·obtain ⟨z1,z2⟩:=zco T e3
   have em:("" : Str)++x=x:=zae (by rw [zaf];rfl)
   have em2:x++("" : Str)=x:=zae (by rw [zaf];simp;rfl)
   have hf:m.fl=n:=by rw [e3];rfl
   have hl:m.ll=n:=by rw [e3];rfl
   have hx:=T.ky.sg
   refine ⟨⟨x, "",by rw [hf];exact T.n1,by rw [hf];exact e1,em2.symm,by rw [z1];exact hx.symm⟩,⟨x, "",by rw [hl];exact T.n1,by rw [hl];exact e1,em.symm,by rw [z2];exact hx.symm⟩⟩
  ·have q1:=g.ends k a (by lia) A
   have q2:=g.ends k b (by lia) B
   obtain ⟨⟨w,u,a1,a2,rfl,a4⟩,_⟩:=q1
   obtain ⟨_,⟨w2,u2,b1,b2,rfl,b4⟩⟩:=q2
   have f1:=T.ky.fl
   have l1:=T.ky.ll
   have hf:m.fl=ma.fl:=by rw [e5];rfl
   have hl:m.ll=mb.ll:=by rw [e5];rfl
   rw [hf] at f1
   rw [hl] at l1
   have z5:=f1.symm.trans A.ky.fl;cases z5
   have z6:=l1.symm.trans B.ky.ll;cases z6
   rw [hf,hl]
   exact ⟨⟨w,u++(u2++w2),a1,a2,by rw [zaj],a4⟩,⟨w2,w++u++u2,b1,b2,by rw [zaj (w++u)],b4⟩⟩
theorem zdE {a b c d:Str} (e:a++b=c++d) (h:a.length=c.length):a=c/\b=d:=by
 have:=congrArg (fun z:Str=>z.cps.toList) e
 simp only [zaf] at this
 obtain ⟨h1,h2⟩:=List.append_inj this (by rw [<- zad,<- zad];exact h)
 exact ⟨zae h1,zae h2⟩
theorem zeP {a b c d:Str} (e:a++b=c++d) (h:b.length=d.length):a=c/\b=d:=by
 refine zdE e ?_
 have:=congrArg Str.length e
 rw [zal,zal] at this
 lia
theorem zjD {h:AH} {p:Nat} {ps:List Pc} {a b:Nat} {ma mb la fb:Ms} (S:ShelfAt h p ps) (ea:(meas ps)[a]? = some ma) (eb:(meas ps)[b]? = some mb) (el:(meas ps)[ma.ll]? = some la) (ef:(meas ps)[mb.fl]? = some fb) :
  yc7 [.ref p,.int a,.int b] h = .ok (.bl (decide (8<la.sg+fb.sg))) h:=by
 have e1:=yfN S ea
 have e2:=zf4 S eb
 have e3:=zai S el
 have e4:=zai S ef
 have:decide ((8:Int)<(la.sg:Int)+fb.sg)=decide (8<la.sg+fb.sg):=by apply decide_eq_decide.mpr;omega
 simp [yc7,S.ob,e1,e2,e3,e4,this]
theorem zio {w v:Str} (hw:w.length+v.length<=100) (h:AH):fAdd (.str w) (.str v) h = .ok (.str (w++v)) h:=by
 have:w.length+v.length<=sizeLine:=Nat.le_trans hw (by decide)
 simp [fAdd,this]
theorem wd_1 {h h1 h2 h3:AH} {p:Nat} {ps:List Pc} {a b:Nat} {L n k:Int} {ma mb:Ms} {w v:Str} (S:ShelfAt h p ps) (ea:(meas ps)[a]? = some ma) (eb:(meas ps)[b]? = some mb) (l1:1<=ma.ll) (f1:1<=mb.fl) (el:ps[ma.ll-1]? = some (.leaf w)) (ef:ps[mb.fl-1]? = some (.leaf v)) (hw:w.length+v.length<=100)
  (e1:yaJ [.ref p,.str (w++v)] h = .ok (.int L) h1) (e2:ya7 90 [.ref p,.int a,.int L] h1 = .ok (.int n) h2) (e3:yaI 90 [.ref p,.int b] h2 = .ok (.int k) h3) :
  yci [.ref p,.int a,.int b] h=if k=0 then .ok (.int n) h3 else ya6 90 [.ref p,.int n,.int k] h3:=by
 have q1:=yfN S ea
 have q2:=zf4 S eb
 have q3:=zbi S l1 el
 have q4:=zbi S f1 ef
 have ad:=zio hw h
 unfold yci
 generalize ya7 90=WL at *
 generalize yaI 90=WF at *
 generalize hF:ya6 90=LK at *
 by_cases z:k=0
 ·subst z
  have zz:fEq (.int 0) (.int 0) h3 = .ok (.bl true) h3:=by simp
  simp [S.ob,q1,q2,q3,q4,i1L,ad,e1,e2,e3,zz,-fIx,-fEq,-fAdd]
 ·have zz:fEq (.int k) (.int 0) h3 = .ok (.bl false) h3:=by simp [z]
  rw [if_neg z]
  generalize hR:LK [.ref p,.int n,.int k] h3=R
  simp [S.ob,q1,q2,q3,q4,i1L,ad,e1,e2,e3,zz,hR,-fIx,-fEq,-fAdd]
  cases R<;>rfl
end Sk
namespace Sk
open PySem PySem.Spec L2 Sm
theorem zd6 {w v:Str} (h1:1<=w.length) (h2:w.length+v.length<=8) (pw:yaE w=true) (pv:yaE v=true):ybF (w++v)=true:=by
 unfold ybF
 rw [zaH,zal,pw,pv]
 simp;lia
theorem zeQ {h:AH} {p:Nat} {ps:List Pc} {a b:Nat} {ma mb fa la fb lb:Ms} {x y:Str} (S:ShelfAt h p ps) (g:Good ps) (A:Tx ps a ma x fa la) (B:Tx ps b mb y fb lb) (hc : ¬ 8<la.sg+fb.sg) (hm:ma.sg+mb.sg<=1000000000000000000) (hz:ps.length<15000000) :
  ∃ (n:Nat) (ps':List Pc) (h':AH) (m f l:Ms),Dn (yci [.ref p,.int a,.int b]) p h h' ps ps' (7*(max ma.ht mb.ht).toNat+2) n/\Tx ps' n m (x++y) f l/\m.ht<=max ma.ht mb.ht+1:=by
 obtain ⟨_,w,u,l1,el,ex,lw⟩:=g.ends a a (Nat.le_refl _) A
 obtain ⟨⟨v,t,f1,ef,ey,lv⟩,_⟩:=g.ends b b (Nat.le_refl _) B
 have a0:=A.ky.ht
 have b0:=B.ky.ht
 have ha:=ht82 g A
 have hb:=ht82 g B
 have px:yaE x=true:=A.ky.pl
 have py:yaE y=true:=B.ky.pl
 have pw:yaE w=true:=by rw [ex,zaH,Bool.and_eq_true] at px;exact px.2
 have pv:yaE v=true:=by rw [ey,zaH,Bool.and_eq_true] at py;exact py.1
 have la1:=A.ky.l1
 have fb1:=B.ky.f1
 have sx:=A.ky.sg
 have sy:=B.ky.sg
 have lx:x.length=u.length+w.length:=by rw [ex,zal]
 have ly:y.length=v.length+t.length:=by rw [ey,zal]
 have lwv:(w++v).length=w.length+v.length:=zal w v
 obtain ⟨L,ps1,h1,d1,N⟩:=zbz S g (zd6 (w:=w) (v:=v) (by lia) (by lia) pw pv) (by lia)
 have z1:=d1.dd.len
 obtain ⟨n2,ps2,h2,m2,f2,u2,v2,d2,ex2,lv2,T2,k1,k2⟩:=zdD 90 d1.dd.sh d1.dd.gd (A.pre d1.dd.pre) N (by lia) (by lia) (by lia) (by lia)
 have z2:=d2.dd.len
 obtain ⟨rfl,rfl⟩:u=u2/\w=v2:=zeP (ex.symm.trans ex2) (by lia)
 have s2:m2.sg=u.length+(w.length+v.length):=by rw [T2.ky.sg,zal,zal]
 have p12:=d1.dd.pre.trans d2.dd.pre
 have lm:(lfMs (w++v) L).sg=w.length+v.length:=zal w v
 have tb:∀ q:Int,0<=q->q<=max ma.ht mb.ht->q.toNat<=(max ma.ht mb.ht).toNat:=fun q _ _=>by lia
 rcases zcY 90 d2.dd.sh d2.dd.gd (B.pre p12) (by lia) (by lia) with ⟨r1,r2,d3⟩ | ⟨r1,n3,ps3,h3,m3,f3,u3,v3,d3,ey3,lu3,T3,r2,r3,r4⟩
 ·have t0:t.length=0:=by lia
  have te:t = "" := zae (by rw [zad] at t0;rw [List.length_eq_zero_iff.mp t0];rfl)
  have rd:u++(w++v)=x++y:=by
   rw [ex,ey,te,zaj]
   congr 2
  rw [rd] at T2
  refine ⟨n2,ps2,h2,m2,f2,_,⟨?_,d1.dd.trans d2.dd (by lia),fun h4 ps4 S4 g4 p4=>?_⟩,T2,by lia⟩
  ·rw [wd_1 S A.ms B.ms l1 f1 el ef (by lia) d1.ev d2.ev d3.ev];rfl
  ·have q1:=d1.re h4 ps4 S4 g4 (d2.dd.pre.trans p4)
   have q2:=d2.re h4 ps4 S4 g4 p4
   have q3:=d3.re h4 ps4 S4 g4 p4
   rw [wd_1 S4 (zac (p12.trans p4) A.ms) (zac (p12.trans p4) B.ms) l1 f1 (yaR (p12.trans p4) el) (yaR (p12.trans p4) ef) (by lia) q1 q2 q3];rfl
 ·obtain ⟨rfl,rfl⟩:v=u3/\t=v3:=zdE (ey.symm.trans ey3) (by lia)
  have z3:=d3.dd.len
  have s3:m3.sg=t.length:=T3.ky.sg
  have m30:=T3.ky.ht
  obtain ⟨n4,ps4,h4,m4,d4,T4,r5,r6⟩:=zaR 90 (max ma.ht mb.ht).toNat d3.dd.sh d3.dd.gd (T2.pre d3.dd.pre) T3 (by lia) (by lia) (by (clear m30 s3 ey3 T3 lu3 d3 lm p12 s2 ex2 lv2 T2 z2 k2 d2 z1 N d1 lwv ly lx sy sx fb1 la1 pv pw py px hb ha lv ey ef f1 lw ex el l1 hz hm hc B A g S;lia)) (by lia) (by lia)
  have rd:(u++(w++v))++t=x++y:=by rw [ex,ey,zaj,zaj,zaj]
  rw [rd] at T4
  have n3z : ¬ (n3:Int)=0:=by have:=T3.n1;lia
  have p123:=p12.trans d3.dd.pre
  refine ⟨n4,ps4,h4,m4,f2,lb,⟨?_,((d1.dd.trans d2.dd (Nat.le_refl _)).trans d3.dd (Nat.le_refl _)).trans d4.dd (by lia),fun h5 ps5 S5 g5 p5=>?_⟩,T4,by lia⟩
  ·rw [wd_1 S A.ms B.ms l1 f1 el ef (by lia) d1.ev d2.ev d3.ev,if_neg n3z];exact d4.ev
  ·have p45:=d4.dd.pre.trans p5
   have q1:=d1.re h5 ps5 S5 g5 (d2.dd.pre.trans (d3.dd.pre.trans p45))
   have q2:=d2.re h5 ps5 S5 g5 (d3.dd.pre.trans p45)
   have q3:=d3.re h5 ps5 S5 g5 p45
   have q4:=d4.re h5 ps5 S5 g5 p5
   have pa:=p123.trans p45
   rw [wd_1 S5 (zac pa A.ms) (zac pa B.ms) l1 f1 (yaR pa el) (yaR pa ef) (by lia) q1 q2 q3,if_neg n3z];exact q4
def TxZ (ps:List Pc) (n:Nat) (y:Str):Prop:=(n=0/\y = "")\/∃ m f l,Tx ps n m y f l
theorem TxZ.pre {ps ps':List Pc} {n:Nat} {y:Str} (t:TxZ ps n y) (h:ps <+: ps'):TxZ ps' n y:=by
 rcases t with t | ⟨m,f,l,t⟩
 ·exact .inl t
 ·exact .inr ⟨m,f,l,t.pre h⟩
theorem zbe (ps:List Pc):(meas ps)[0]? = some ms0:=by
 obtain ⟨r,e,_⟩:=zbn ycT ps [ms0]
 rw [meas,e];rfl
def htOf (ps:List Pc) (n:Nat):Int:=((meas ps).getD n ms0).ht
theorem ybS {ps:List Pc} {n:Nat} {m:Ms} (e:(meas ps)[n]? = some m):htOf ps n=m.ht:=by unfold htOf;rw [zaU e]
theorem zbj (ps:List Pc):htOf ps 0 = -1:=ybS (zbe ps)
theorem zaZ {i:Int} (hi:i<=1000000000000000000) (h:AH):ybL [.int i] h = .ok .non h:=by
 have : ¬ (1000000000000000000:Int)<i:=by lia
 simp [ybL,this]
theorem jn_0 {h:AH} {p:Nat} {ps:List Pc} {b:Nat} {mb:Ms} (S:ShelfAt h p ps) (eb:(meas ps)[b]? = some mb) (hm:mb.sg<=1000000000000000000):yap [.ref p,.int (0:Nat),.int b] h = .ok (.int b) h:=by
 have e1:=zai S (zbe ps)
 have e2:=zai S eb
 have z:ms0.sg=0:=rfl
 rw [z] at e1
 have e1':yaz [.ref p,.int 0] h = .ok (.int 0) h:=e1
 have ck:=zaZ (i:=(0:Int)+mb.sg) (by lia) h
 have zz:fEq (.int 0) (.int 0) h = .ok (.bl true) h:=by simp
 have ad:fAdd (.int 0) (.int mb.sg) h = .ok (.int (0+mb.sg)) h:=rfl
 simp [yap,S.ob,e1',e2,ad,ck,zz,-fEq,-fAdd,-Int.zero_add]
theorem jn_1 {h:AH} {p:Nat} {ps:List Pc} {a:Nat} {ma:Ms} (S:ShelfAt h p ps) (a1:1<=a) (ea:(meas ps)[a]? = some ma) (hm:ma.sg<=1000000000000000000):yap [.ref p,.int a,.int (0:Nat)] h = .ok (.int a) h:=by
 have e1:=zai S (zbe ps)
 have e2:=zai S ea
 have z:ms0.sg=0:=rfl
 rw [z] at e1
 have e1':yaz [.ref p,.int 0] h = .ok (.int 0) h:=e1
 have ck:=zaZ (i:=(ma.sg:Int)+0) (by lia) h
 have zz:fEq (.int 0) (.int 0) h = .ok (.bl true) h:=by simp
 have z2:fEq (.int a) (.int 0) h = .ok (.bl false) h:=by
  have : ¬ a=0:=by lia
  simp [this]
 have ad:fAdd (.int ma.sg) (.int 0) h = .ok (.int (ma.sg+0)) h:=rfl
 simp [yap,S.ob,e1',e2,ad,ck,zz,z2,-fEq,-fAdd,-Int.add_zero]
theorem jn_2 {h:AH} {p:Nat} {ps:List Pc} {a b:Nat} {ma mb la fb:Ms} (S:ShelfAt h p ps) (a1:1<=a) (b1:1<=b) (ea:(meas ps)[a]? = some ma) (eb:(meas ps)[b]? = some mb) (el:(meas ps)[ma.ll]? = some la) (ef:(meas ps)[mb.fl]? = some fb) (hm:ma.sg+mb.sg<=1000000000000000000) :
  yap [.ref p,.int a,.int b] h=if 8<la.sg+fb.sg then ya6 90 [.ref p,.int a,.int b] h else yci [.ref p,.int a,.int b] h:=by
 have e1:=zai S ea
 have e2:=zai S eb
 have cl:=zjD S ea eb el ef
 have ck:=zaZ (i:=(ma.sg:Int)+mb.sg) (by lia) h
 have z1:fEq (.int a) (.int 0) h = .ok (.bl false) h:=by
  have : ¬ a=0:=by lia
  simp [this]
 have z2:fEq (.int b) (.int 0) h = .ok (.bl false) h:=by
  have : ¬ b=0:=by lia
  simp [this]
 have ad:fAdd (.int ma.sg) (.int mb.sg) h = .ok (.int (ma.sg+mb.sg)) h:=rfl
 unfold yap
 generalize ya6 90=LK at *
 by_cases q:8<la.sg+fb.sg
 ·rw [if_pos q]
  generalize hR:LK [.ref p,.int a,.int b] h=R
  simp [S.ob,e1,e2,ad,ck,z1,z2,cl,q,hR,-fEq,-fAdd]
  cases R<;>rfl
 ·rw [if_neg q]
  generalize hR:yci [.ref p,.int a,.int b] h=R
  simp [S.ob,e1,e2,ad,ck,z1,z2,cl,q,hR,-fEq,-fAdd]
  cases R<;>rfl
theorem TxZ.meas {ps:List Pc} {n:Nat} {y:Str} (t:TxZ ps n y):∃ m,(meas ps)[n]? = some m/\m.sg=y.length:=by
 rcases t with ⟨rfl,rfl⟩ | ⟨m,f,l,T⟩
 ·exact ⟨ms0,zbe ps,rfl⟩
 ·exact ⟨m,T.ms,T.ky.sg⟩
theorem zbO {h:AH} {p:Nat} {ps:List Pc} {a b:Nat} {x y:Str} (S:ShelfAt h p ps) (g:Good ps) (A:TxZ ps a x) (B:TxZ ps b y) (hm:x.length+y.length<=1000000000000000000) (hz:ps.length<15000000) :
  ∃ (n:Nat) (ps':List Pc) (h':AH),Dn (yap [.ref p,.int a,.int b]) p h h' ps ps' (16*(max (htOf ps a) (htOf ps b)+1).toNat) n/\TxZ ps' n (x++y):=by
 rcases A with ⟨rfl,rfl⟩ | ⟨ma,fa,la,A⟩
 ·obtain ⟨mb,eb,sb⟩:=B.meas
  have em:("" : Str)++y=y:=zae (by rw [zaf];rfl)
  have dv:Dn (yap [.ref p,.int (0:Nat),.int b]) p h h ps ps 0 b:=Dn.val S g fun hh pp S' _ pr=>jn_0 S' (zac pr eb) (by rw [sb];lia)
  exact ⟨b,ps,h,dv.as S g (fun _ _ _ _ _=>rfl) (Nat.zero_le _),by rw [em];exact B⟩
 ·rcases B with ⟨rfl,rfl⟩ | ⟨mb,fb,lb,B⟩
  ·have em:x++("" : Str)=x:=zae (by rw [zaf];simp;rfl)
   have dv:Dn (yap [.ref p,.int a,.int (0:Nat)]) p h h ps ps 0 a:=Dn.val S g fun hh pp S' _ pr=>jn_1 S' A.n1 (zac pr A.ms) A.ky.most
   exact ⟨a,ps,h,dv.as S g (fun _ _ _ _ _=>rfl) (Nat.zero_le _),by rw [em];exact .inr ⟨_,_,_,A⟩⟩
  ·have sa:=A.ky.sg
   have sb:=B.ky.sg
   have a0:=A.ky.ht
   have b0:=B.ky.ht
   have ha:=ht82 g A
   have hb:=ht82 g B
   rw [ybS A.ms,ybS B.ms]
   by_cases q:8<la.sg+fb.sg
   ·obtain ⟨n,ps',h',m,d,T,_⟩:=zaR 90 (max ma.ht mb.ht).toNat S g A B q (by lia) (by lia) (by lia) (by lia)
    exact ⟨n,ps',h',d.as S g (fun hh pp S' _ pr=>by rw [jn_2 S' A.n1 B.n1 (zac pr A.ms) (zac pr B.ms) (zac pr A.ky.ll) (zac pr B.ky.fl) (by lia),if_pos q]) (by lia),.inr ⟨_,_,_,T⟩⟩
   ·obtain ⟨n,ps',h',m,f,l,d,T,_⟩:=zeQ S g A B q (by lia) hz
    exact ⟨n,ps',h',d.as S g (fun hh pp S' _ pr=>by rw [jn_2 S' A.n1 B.n1 (zac pr A.ms) (zac pr B.ms) (zac pr A.ky.ll) (zac pr B.ky.fl) (by lia),if_neg q]) (by lia),.inr ⟨_,_,_,T⟩⟩
end Sk
namespace Sk
open PySem PySem.Spec L2 Sm
theorem zjE {b e:Nat} {y:Str} (be:b<=e):(cutS y (some (b:Int)) (some (e:Int))).cps.toList=(y.cps.toList.drop b).take (e-b):=by
 unfold cutS
 rw [HT.sIx_nat,HT.sIx_nat]
 generalize y.cps.toList=l
 show (l.drop (min b l.length)).take (min e l.length-min b l.length)=_
 apply List.ext_getElem?
 intro i
 rw [List.getElem?_take,List.getElem?_take,List.getElem?_drop,List.getElem?_drop]
 by_cases q:b<=l.length
 ·rw [Nat.min_eq_left q]
  by_cases c1:i<e-b
  ·rw [if_pos c1]
   by_cases c2:i<min e l.length-b
   ·rw [if_pos c2]
   ·rw [if_neg c2,List.getElem?_eq_none (by lia)]
  ·rw [if_neg c1,if_neg (by lia)]
 ·rw [if_neg (by lia),List.getElem?_eq_none (l:=l) (i:=b+i) (by lia)]
  split<;>rfl
def cat:List Str->Str
 | [] => ""
 | w::ws=>w++cat ws
theorem zdF:∀ as bs:List Str,cat (as++bs)=cat as++cat bs
 | [],bs=>(zae (by rw [zaf];rfl):cat bs=("" : Str)++cat bs)
 | w::as,bs=>by
  show w++cat (as++bs)=(w++cat as)++cat bs
  rw [zdF as bs,zaj]
theorem zf8 (w:Str):cat [w]=w:=zae (by show (w++("" : Str)).cps.toList=_;rw [zaf];simp;rfl)
def LS (ps:List Pc) (ns:List Nat) (ws:List Str):Prop:=ns.length=ws.length/\∀ (i n:Nat) (w:Str),ns[i]? = some n->ws[i]? = some w->Tx ps n (lfMs w n) w (lfMs w n) (lfMs w n)
theorem LS.pre {ps ps':List Pc} {ns:List Nat} {ws:List Str} (s:LS ps ns ws) (h:ps <+: ps'):LS ps' ns ws:=⟨s.1,fun i n w a b=>(s.2 i n w a b).pre h⟩
theorem LS.take {ps:List Pc} {ns:List Nat} {ws:List Str} (s:LS ps ns ws) (k:Nat):LS ps (ns.take k) (ws.take k):=by
 refine ⟨by simp [s.1],fun i n w a b=>?_⟩
 rw [List.getElem?_take] at a b
 by_cases q:i<k
 ·rw [if_pos q] at a b;exact s.2 i n w a b
 ·rw [if_neg q] at a;cases a
theorem LS.drop {ps:List Pc} {ns:List Nat} {ws:List Str} (s:LS ps ns ws) (k:Nat):LS ps (ns.drop k) (ws.drop k):=by
 refine ⟨by simp [s.1],fun i n w a b=>?_⟩
 rw [List.getElem?_drop] at a b
 exact s.2 _ n w a b
abbrev ivs (ns:List Nat):List AV:=ns.map fun n:Nat=>AV.int (n:Int)
theorem hv_1 {h:AH} {p d n:Nat}:ybQ (d+1) [.ref p,.fl (ivs [n])] h = .ok (.int n) h:=by
 have ix:fIx (.fl [.int (n:Int)]) (.int 0) h = .ok (.int n) h:=rfl
 simp [ybQ,yeo,ix,-fIx]
theorem zhr {α:Type} (l:List α) {k:Nat} (hk:k<=l.length):cutA l none (some (k:Int))=l.take k:=by
 unfold cutA
 rw [HT.sIx_nat,HT.sIx_none,Nat.min_eq_left hk];simp
theorem zhs {α:Type} (l:List α) {k:Nat} (hk:k<=l.length):cutA l (some (k:Int)) none=l.drop k:=by
 unfold cutA
 rw [HT.sIx_nat,HT.sIx_none,Nat.min_eq_left hk,List.take_of_length_le (by simp)]
theorem hv_2 {h h1 h2:AH} {p d:Nat} {ps:List Pc} {ns:List Nat} {v1 v2:Int} (S:ShelfAt h p ps) (hl:2<=ns.length) (e1:ybQ d [.ref p,.fl (ivs (ns.take (ns.length / 2)))] h = .ok (.int v1) h1) (e2:ybQ d [.ref p,.fl (ivs (ns.drop (ns.length / 2)))] h1 = .ok (.int v2) h2) :
  ybQ (d+1) [.ref p,.fl (ivs ns)] h=yag [.ref p,.int v1,.int v2] h2:=by
 have hh:ns.length / 2<=ns.length:=Nat.div_le_self _ _
 have ln:fLen [.fl (ivs ns)] h = .ok (.int ns.length) h:=by simp [fLen]
 have q:fEq (.int ns.length) (.int 1) h = .ok (.bl false) h:=by
  have : ¬ (ns.length:Int)=1:=by lia
  simp [this]
 have dv:fDiv (.int ns.length) (.int 2) h = .ok (.int (ns.length / 2:Nat)) h:=rfl
 have c1:ybb (.fl (ivs ns)) none (some (ns.length / 2:Nat)) h = .ok (.fl (ivs (ns.take (ns.length / 2)))) h:=by
  have:=zhr (ivs ns) (k:=ns.length / 2) (by simpa using hh)
  simp only [ybb,this,ivs,List.map_take]
 have c2:∀ h,ybb (.fl (ivs ns)) (some (ns.length / 2:Nat)) none h = .ok (.fl (ivs (ns.drop (ns.length / 2)))) h:=fun h=>by
  have:=zhs (ivs ns) (k:=ns.length / 2) (by simpa using hh)
  simp only [ybb,this,ivs,List.map_drop]
 generalize hF:yag [.ref p,.int v1,.int v2] h2=R
 unfold ybQ yeo
 generalize ivs ns=Z at *
 generalize ivs (ns.take (ns.length / 2))=Z1 at *
 generalize ivs (ns.drop (ns.length / 2))=Z2 at *
 generalize ((ns.length / 2:Nat):Int)=M at *
 generalize (ns.length:Int)=K at *
 simp [S.ob,ln,q,dv,c1,c2,e1,e2,hF,-fLen,-fEq,-fDiv,-ybb]
 cases R<;>rfl
theorem pw1 {a b ha hb:Nat} (ab:b<=a+1) (h1:a<=2 ^ ha) (h2:hb=0\/2 ^ (hb-1)<b):hb<=ha+1:=by
 rcases h2 with h2 | h2
 ·lia
 ·have:2 ^ (hb-1)<=2 ^ ha:=by lia
  have:=(Nat.pow_le_pow_iff_right (a:=2) (by decide)).mp this
  lia
theorem pw2 {a b ha hb:Nat} (ab:a<=b) (h1:b<=2 ^ hb) (h2:ha=0\/2 ^ (ha-1)<a):ha<=hb:=by
 rcases h2 with h2 | h2
 ·lia
 ·have:2 ^ (ha-1)<2 ^ hb:=by lia
  have:=(Nat.pow_lt_pow_iff_right (a:=2) (by decide)).mp this
  lia
theorem pw3 {k b hb:Nat} (h1:k<=2*b) (h2:2*b<=k+1) (h3:2<=k) (h4:b<=2 ^ hb) (h5:hb=0\/2 ^ (hb-1)<b):k<=2 ^ (hb+1)/\2 ^ (hb+1-1)<k:=by
 rw [Nat.pow_succ,Nat.add_sub_cancel]
 refine ⟨by lia,?_⟩
 rcases h5 with h5 | h5
 ·subst h5;simp;lia
 ·cases hb with
  | zero=>simp;lia
  | succ n =>
   rw [Nat.add_sub_cancel] at h5
   rw [Nat.pow_succ];lia
theorem pw4 {k e:Nat} (h:k<=2 ^ (e+1)):k / 2<=2 ^ e/\k-k / 2<=2 ^ e:=by rw [Nat.pow_succ] at h;lia
theorem zcZ {p:Nat}:∀ (d e:Nat) {h:AH} {ps:List Pc} {ns:List Nat} {ws:List Str},ShelfAt h p ps->Good ps->LS ps ns ws->1<=ns.length->ns.length<=2 ^ e->e<d->(∀ (i:Nat) (w:Str),ws[i]? = some w->i+1<ws.length->w.length=8)->ps.length+ns.length<16000000->ns.length<=10000 ->
  ∃ (n:Nat) (ps':List Pc) (h':AH) (m f l:Ms) (H:Nat),ybQ d [.ref p,.fl (ivs ns)] h = .ok (.int n) h'/\Dd p h h' ps ps' (ns.length-1)/\Tx ps' n m (cat ws) f l/\m.ht=H/\ns.length<=2 ^ H/\(H=0\/2 ^ (H-1)<ns.length)/\((∀ w∈ws,w.length=8)->l.sg=8)/\m.sg<=8*ns.length
 | 0,e,h,ps,ns,ws,S,g,LL,h1,h2,h3,h4,h5,h6=>absurd h3 (Nat.not_lt_zero _)
 | d+1,e,h,ps,ns,ws,S,g,LL,h1,h2,h3,h4,h5,h6=>by
  by_cases q:ns.length=1
  ·obtain ⟨n,rfl⟩:∃ n,ns=[n]:=List.length_eq_one_iff.mp q
   obtain ⟨w,rfl⟩:∃ w,ws=[w]:=List.length_eq_one_iff.mp (LL.1.symm.trans q)
   have T:=LL.2 0 n w rfl rfl
   refine ⟨n,ps,h,_,_,_,0,hv_1,{ Dd.refl S g with len:=by lia },by rw [zf8];exact T,rfl,by simp,.inl rfl,fun hw=>hw w (by simp),?_⟩
   have:=T.ky.f8
   simpa using this
  ·have hh:2<=ns.length:=by lia
   obtain ⟨e',rfl⟩:∃ e',e=e'+1:=by
    cases e with
    | zero=>simp at h2;lia
    | succ e' => exact ⟨e',rfl⟩
   obtain ⟨w1,w2⟩:=pw4 h2
   have lt:(ns.take (ns.length / 2)).length=ns.length / 2:=by rw [List.length_take];lia
   have ld:(ns.drop (ns.length / 2)).length=ns.length-ns.length / 2:=List.length_drop ..
   have lw:=LL.1
   obtain ⟨n1,ps1,hh1,m1,f1,l1,H1,a1,a2,a3,a4,a5,a6,a7,a8⟩:=zcZ d e' S g (LL.take (ns.length / 2)) (by lia) (by lia) (by lia) (fun i w ew hi=>by
    rw [List.getElem?_take] at ew
    split at ew
    ·rw [List.length_take] at hi;exact h4 i w ew (by lia)
    ·cases ew) (by lia) (by lia)
   have z1:=a2.len
   obtain ⟨n2,ps2,hh2,m2,f2,l2,H2,b1,b2,b3,b4,b5,b6,b7,b8⟩:=zcZ d e' a2.sh a2.gd ((LL.drop (ns.length / 2)).pre a2.pre) (by lia) (by lia) (by lia) (fun i w ew hi=>by
    rw [List.getElem?_drop] at ew
    rw [List.length_drop] at hi
    exact h4 _ w ew (by lia)) (by lia) (by (clear z1 a8 a7 a6 a5 a4 a3 a2 a1 lw lt w2 w1 h3 h2 hh q h5 h4 h1 LL g S;lia))
   have z2:=b2.len
   rw [lt] at a5 a6 a8
   rw [ld] at b5 b6 b8
   have g1:=pw1 (a:=ns.length / 2) (b:=ns.length-ns.length / 2) (by lia) a5 b6
   have g2:=pw2 (a:=ns.length / 2) (b:=ns.length-ns.length / 2) (by (clear g1 z2 b8 b7 b6 b5 b4 b3 b2 b1 z1 a8 a7 a6 a5 a4 a3 a2 a1 lw ld lt w2 w1 h3 h2 hh h6 h5 h4 LL g S;lia)) b5 a6
   have l8:l1.sg=8:=a7 fun w hw=>by
    obtain ⟨i,hi,ei⟩:=List.getElem_of_mem hw
    have hi' := hi
    rw [List.length_take] at hi'
    have:(ws.take (ns.length / 2))[i]? = some w:=by rw [List.getElem?_eq_getElem hi,ei]
    rw [List.getElem?_take] at this
    split at this
    ·exact h4 i w this (by lia)
    ·cases this
   have f1' := b3.ky.f1
   obtain ⟨n3,ps3,hh3,d3,T3⟩:=zaz b2.sh b2.gd (a3.pre b2.pre) b3 (by lia) (by lia) (by lia) (by lia) (by (clear f1' l8 g2 g1 b8 b7 b6 b5 b4 b3 b2 b1 a8 a7 a6 a5 a4 a3 a2 a1 lw w2 w1 h3 h2 hh h6 h4 LL g S;lia))
   have rd:cat (ws.take (ns.length / 2))++cat (ws.drop (ns.length / 2))=cat ws:=by rw [<- zdF,List.take_append_drop]
   rw [rd] at T3
   have hv:=hv_2 S hh a1 b1
   obtain ⟨y1,y2⟩:=pw3 (k:=ns.length) (b:=ns.length-ns.length / 2) (by (clear hv rd T3 d3 f1' l8 g2 g1 z2 b8 b7 b6 b5 b4 b3 b2 b1 z1 a8 a7 a6 a5 a4 a3 a2 a1 lw ld lt w2 w1 h3 h2 hh q h6 h5 h4 LL g S;lia)) (by lia) hh b5 b6
   refine ⟨n3,ps3,hh3,_,f1,l2,H2+1,hv.trans d3.ev,(a2.trans b2 (Nat.le_refl _)).trans d3.dd (by (clear y2 y1 hv rd T3 d3 f1' l8 g2 g1 z2 b8 b7 b6 b5 b4 b3 b2 b1 z1 a8 a7 a6 a5 a4 a3 a2 a1 lw w2 w1 h3 h2 hh h6 h5 h4 LL g S;lia)),T3,by rw [fmH,a4,b4];lia,y1,.inr y2,fun hw=>b7 fun w hm=>hw w (List.mem_of_mem_drop hm),by rw [fmS];(clear y2 y1 hv rd T3 d3 f1' l8 g2 g1 z2 b7 b6 b5 b4 b3 b2 b1 z1 a7 a6 a5 a4 a3 a2 a1 lw ld lt w2 w1 h3 h2 hh q h6 h5 h4 h1 LL g S;lia)⟩
end Sk
namespace Sk
open PySem PySem.Spec L2 Sm
def ycU (x:Str) (k:Nat):Str:=cutS x (some ((8*k:Nat):Int)) (some ((8*k+8:Nat):Int))
theorem zb5 (x:Str) (k:Nat):(ycU x k).cps.toList=(x.cps.toList.drop (8*k)).take 8:=by
 unfold ycU
 rw [zjE (by lia),show 8*k+8-8*k=8 by lia]
theorem zd7 (x:Str) (k:Nat):(ycU x k).length=min 8 (x.length-8*k):=by
 rw [zad,zb5,List.length_take,List.length_drop,<- zad]
theorem zfh {x:Str} (px:yaE x=true) (k:Nat):yaE (ycU x k)=true:=by
 unfold yaE at *
 rw [zb5,List.all_eq_true]
 rw [List.all_eq_true] at px
 exact fun c hc=>px c (List.mem_of_mem_drop (List.mem_of_mem_take hc))
theorem zdk (x:Str):∀ j,(cat ((List.range j).map (ycU x))).cps.toList=x.cps.toList.take (8*j)
 | 0=>rfl
 | j+1=>by
  rw [List.range_succ,List.map_append,zdF,zaf,zdk x j]
  show _++(cat [ycU x j]).cps.toList=_
  rw [zf8,zb5,show 8*(j+1)=8*j+8 by lia,List.take_add]
theorem zd8 {α:Type} {f:Nat->α} {N i:Nat} {w:α} (e:((List.range N).map f)[i]? = some w):i<N/\w=f i:=by
 rw [List.getElem?_map] at e
 obtain ⟨j,ej,ew⟩:=Option.map_eq_some_iff.mp e
 have h1:=(List.getElem?_eq_some_iff.mp ej).1
 rw [List.length_range] at h1
 rw [List.getElem?_range h1] at ej
 cases ej
 exact ⟨h1,ew.symm⟩
theorem LS.snoc {ps ps':List Pc} {ns:List Nat} {ws:List Str} {n:Nat} {w:Str} (s:LS ps ns ws) (h:ps <+: ps') (T:Tx ps' n (lfMs w n) w (lfMs w n) (lfMs w n)):LS ps' (ns++[n]) (ws++[w]):=by
 have l:=s.1
 refine ⟨by simp [s.1],fun i a b ea eb=>?_⟩
 by_cases q:i<ns.length
 ·rw [List.getElem?_append_left q] at ea
  rw [List.getElem?_append_left (by lia)] at eb
  exact (s.2 i a b ea eb).pre h
 ·have h1:=(List.getElem?_eq_some_iff.mp ea).1
  have hi:i=ns.length:=by simp at h1;lia
  subst hi
  rw [List.getElem?_append_right (by lia)] at ea eb
  simp at ea
  rw [show ns.length-ws.length=0 by lia] at eb
  simp at eb
  subst ea eb
  exact T
theorem zfi {h:AH} {p:Nat} {ps:List Pc} {x:Str} (S:ShelfAt h p ps) (g:Good ps) (px:yaE x=true) (N:Nat) (hN:8*N<x.length+8) (hx:x.length<=10000) (hz:ps.length+N<16000000) (all:List AV) (js:List Nat) (en:En) (hj:js.map (fun j=>(en[j]?).join)=[some (.ref p),some (.str x)]) :
  ∃ (ns:List Nat) (ps':List Pc) (h':AH),yaQ js en none all sYes (yam 0 yaJ (sVar 1) (yab (sCut (sVar 2) (some (sVar 0)) (some (sOp2 fAdd (sVar 0) (sLit (.int 8))))) sNil)) ((List.range N).map fun m:Nat=>AV.int (0+(m:Int)*8)) [] h = .ok (ivs ns) h'/\Dd p h h' ps ps' N/\LS ps' ns ((List.range N).map (ycU x)):=by
 obtain ⟨zs,h',c1,ns,ps',e1,D,LL⟩:=yg4 (js:=js) (en:=en) (all:=all) (e:=yam 0 yaJ (sVar 1) (yab (sCut (sVar 2) (some (sVar 0)) (some (sOp2 fAdd (sVar 0) (sLit (.int 8))))) sNil)) (xs:=(List.range N).map fun m:Nat=>AV.int (0+(m:Int)*8)) (h:=h)
  (fun j ys h' => ∃ (ns:List Nat) (ps':List Pc),ys=ivs ns/\Dd p h h' ps ps' j/\LS ps' ns ((List.range j).map (ycU x))) ⟨[],ps,rfl,Dd.refl S g,rfl,fun i n w a _=>by simp at a⟩ (by
   rintro j v ys h' hv ⟨ns,ps',rfl,D,LL⟩
   obtain ⟨jN,rfl⟩:=zd8 hv
   have z:=D.len
   have lc:=zd7 x j
   have sc:ybF (ycU x j)=true:=by
    unfold ybF
    rw [zfh px j,lc]
    simp;lia
   obtain ⟨n,ps2,h2,d2,T⟩:=zbz D.sh D.gd sc (by lia)
   have i1:(0:Int)+(j:Int)*8=((8*j:Nat):Int):=by lia
   have i2:((8*j:Nat):Int)+8=((8*j+8:Nat):Int):=by lia
   have ct:ybb (.str x) (some ((8*j:Nat):Int)) (some ((8*j+8:Nat):Int)) h' = .ok (.str (ycU x j)) h' := rfl
   have ev:=d2.ev
   rw [hj]
   have e:yam 0 yaJ (sVar 1) (yab (sCut (sVar 2) (some (sVar 0)) (some (sOp2 fAdd (sVar 0) (sLit (.int 8))))) sNil) [some (.int (0+(j:Int)*8)),some (.ref p),some (.str x)] h' = .ok (.int n) h2:=by
    rw [i1]
    have ad:fAdd (.int ((8*j:Nat):Int)) (.int 8) h' = .ok (.int ((8*j+8:Nat):Int)) h' := by rw [<- i2];rfl
    generalize ((8*j:Nat):Int)=B1 at *
    generalize ((8*j+8:Nat):Int)=B2 at *
    simp [D.sh.ob,ad,ct,ev,-fAdd,-ybb]
   rw [e]
   refine ⟨ns++[n],ps2,by simp [ivs],D.trans d2.dd (by lia),?_⟩
   rw [List.range_succ,List.map_append]
   exact LL.snoc d2.dd.pre T) (by simp;exact Nat.le_trans (show N<=10000 by lia) (by decide))
 rw [List.length_map,List.length_range] at D LL
 exact ⟨ns,ps',h',by rw [c1,e1],D,LL⟩
theorem zjF {h:AH} {p:Nat} {ps:List Pc} {x:Str} (S:ShelfAt h p ps) (g:Good ps) (px:yaE x=true) (hx:x.length<=10000) (hz:ps.length+2*x.length<16000000) :
  ∃ (n:Nat) (ps':List Pc) (h':AH),ydR [.ref p,.str x] h = .ok (.int n) h'/\Dd p h h' ps ps' (2*x.length)/\TxZ ps' n x:=by
 have sl:x.length<=sizeLine:=Nat.le_trans hx (by decide)
 have fp:=zfY x h sl
 rw [px] at fp
 have c1 : ¬ (10000:Int)<x.length:=by lia
 by_cases q:x.length=0
 ·have xe:x = "" := zae (by rw [zad] at q;rw [List.length_eq_zero_iff.mp q];rfl)
  subst xe
  refine ⟨0,ps,h,?_,{ Dd.refl S g with len:=by lia },.inl ⟨rfl,rfl⟩⟩
  simp [ydR,fp,c1]
 ·obtain ⟨N,eN⟩:∃ N,N=(x.length-1) / 8+1:=⟨_,rfl⟩
  obtain ⟨ns,ps1,h1,e1,D1,LL⟩:=zfi S g px N (by lia) hx (by lia) ((List.range N).map fun m:Nat=>AV.int (0+(m:Int)*8)) [0,1] [some (.ref p),some (.str x),none] rfl
  have z1:=D1.len
  have ln:ns.length=N:=by rw [LL.1];simp
  obtain ⟨n,ps2,h2,m,f,l,H,b1,b2,b3,_⟩:=zcZ (p:=p) 20 11 D1.sh D1.gd LL (by lia) (by rw [ln];have:(2:Nat) ^ 11=2048:=rfl;lia) (by decide) (fun i w ew hi=>by
   obtain ⟨iN,rfl⟩:=zd8 ew
   rw [List.length_map,List.length_range] at hi
   rw [zd7];(clear ew iN ln z1 LL D1 e1 q c1 fp sl hz hx px g S;lia)) (by lia) (by lia)
  have rd:cat ((List.range N).map (ycU x))=x:=zae (by rw [zdk,List.take_of_length_le (by rw [<- zad];lia)])
  rw [rd] at b3
  have ir:yct (sLit (.int 0)) (yae fLen (yab (sVar 1) sNil)) (sLit (.int 8)) [some (.ref p),some (.str x),none] h = .ok ((List.range N).map (fun m:Nat=>AV.int (0+(m:Int)*8)),none) h:=by
   have r1:((if (0:Int)<x.length then ((x.length:Int)-0-1) / 8+1 else 0:Int)).toNat=N:=by
    rw [if_pos (by lia)];lia
   have r2:(0:Int).natAbs<2 ^ 40/\(x.length:Int).natAbs<2 ^ 40/\(0:Int)<8/\(8:Int)<2 ^ 20:=⟨by decide,by lia,by decide,by decide⟩
   show (if _ then _ else _)=_
   rw [if_pos r2,r1]
  have cp:yby [0,1] (yct (sLit (.int 0)) (yae fLen (yab (sVar 1) sNil)) (sLit (.int 8))) sYes (yam 0 yaJ (sVar 1) (yab (sCut (sVar 2) (some (sVar 0)) (some (sOp2 fAdd (sVar 0) (sLit (.int 8))))) sNil)) [some (.ref p),some (.str x),none] h = .ok (.fl (ivs ns)) h1:=by
   simp only [yby,ir,e1]
  have ne:fEq (.str x) (.str "") h = .ok (.bl false) h:=by
   have : ¬ x=Str.ofString "" := fun z=>q (by rw [z];rfl)
   simp [this]
  refine ⟨n,ps2,h2,?_,D1.trans b2 (by lia),.inr ⟨_,_,_,b3⟩⟩
  unfold ydR
  generalize yby [0,1] (yct (sLit (.int 0)) (yae fLen (yab (sVar 1) sNil)) (sLit (.int 8))) sYes (yam 0 yaJ (sVar 1) (yab (sCut (sVar 2) (some (sVar 0)) (some (sOp2 fAdd (sVar 0) (sLit (.int 8))))) sNil))=CP at *
  generalize ybQ 20=HV at *
  simp [fp,c1,ne,cp,b1,-fEq]
end Sk
namespace Sk
open PySem PySem.Spec L2 Sm
theorem zb6 {h:AH} {p:Nat} {ps:List Pc} {a b:Nat} {x y:Str} (S:ShelfAt h p ps) (g:Good ps) (A:TxZ ps a x) (B:TxZ ps b y) (hm:x.length+y.length<=1000000000000000000) (hz:ps.length<15000000) :
  ∃ (n:Nat) (ps':List Pc) (h':AH),Dn (yap [.ref p,.int a,.int b]) p h h' ps ps' (16*(max (htOf ps a) (htOf ps b)+1).toNat) n/\TxZ ps' n (x++y)/\htOf ps' n<=max (htOf ps a) (htOf ps b)+1:=by
 rcases A with ⟨rfl,rfl⟩ | ⟨ma,fa,la,A⟩
 ·obtain ⟨mb,eb,sb⟩:=B.meas
  have em:("" : Str)++y=y:=zae (by rw [zaf];rfl)
  have dv:Dn (yap [.ref p,.int (0:Nat),.int b]) p h h ps ps 0 b:=Dn.val S g fun hh pp S' _ pr=>jn_0 S' (zac pr eb) (by rw [sb];lia)
  exact ⟨b,ps,h,dv.as S g (fun _ _ _ _ _=>rfl) (Nat.zero_le _),by rw [em];exact B,by lia⟩
 ·rcases B with ⟨rfl,rfl⟩ | ⟨mb,fb,lb,B⟩
  ·have em:x++("" : Str)=x:=zae (by rw [zaf];simp;rfl)
   have dv:Dn (yap [.ref p,.int a,.int (0:Nat)]) p h h ps ps 0 a:=Dn.val S g fun hh pp S' _ pr=>jn_1 S' A.n1 (zac pr A.ms) A.ky.most
   exact ⟨a,ps,h,dv.as S g (fun _ _ _ _ _=>rfl) (Nat.zero_le _),by rw [em];exact .inr ⟨_,_,_,A⟩,by lia⟩
  ·have sa:=A.ky.sg
   have sb:=B.ky.sg
   have a0:=A.ky.ht
   have b0:=B.ky.ht
   have ha:=ht82 g A
   have hb:=ht82 g B
   rw [ybS A.ms,ybS B.ms]
   by_cases q:8<la.sg+fb.sg
   ·obtain ⟨n,ps',h',m,d,T,_,hu⟩:=zaR 90 (max ma.ht mb.ht).toNat S g A B q (by lia) (by lia) (by lia) (by lia)
    exact ⟨n,ps',h',d.as S g (fun hh pp S' _ pr=>by rw [jn_2 S' A.n1 B.n1 (zac pr A.ms) (zac pr B.ms) (zac pr A.ky.ll) (zac pr B.ky.fl) (by lia),if_pos q]) (by lia),.inr ⟨_,_,_,T⟩,by rw [ybS T.ms];exact hu⟩
   ·obtain ⟨n,ps',h',m,f,l,d,T,hu⟩:=zeQ S g A B q (by lia) hz
    exact ⟨n,ps',h',d.as S g (fun hh pp S' _ pr=>by rw [jn_2 S' A.n1 B.n1 (zac pr A.ms) (zac pr B.ms) (zac pr A.ky.ll) (zac pr B.ky.fl) (by lia),if_neg q]) (by lia),.inr ⟨_,_,_,T⟩,by rw [ybS T.ms];exact hu⟩
def tkS (x:Str) (a:Nat):Str:=⟨(x.cps.toList.take a).toArray⟩
def dpS (x:Str) (a:Nat):Str:=⟨(x.cps.toList.drop a).toArray⟩
theorem ycl (x:Str) (a:Nat):(tkS x a).cps.toList=x.cps.toList.take a:=rfl
theorem yb8 (x:Str) (a:Nat):(dpS x a).cps.toList=x.cps.toList.drop a:=rfl
theorem ybV {x:Str} {a:Nat} (h:a<=x.length):(tkS x a).length=a:=by
 rw [zad] at *
 rw [ycl,List.length_take];lia
theorem yb9 (x:Str) (a:Nat):(dpS x a).length=x.length-a:=by
 rw [zad,zad x,yb8,List.length_drop]
theorem tk_0 (x:Str):tkS x 0 = "" := zae rfl
theorem dp_0 (x:Str):dpS x 0=x:=zae rfl
theorem yhd {x:Str} {a:Nat} (h:x.length<=a):tkS x a=x:=zae (by rw [ycl,List.take_of_length_le (by rw [<- zad];exact h)])
theorem yhe {x:Str} {a:Nat} (h:x.length<=a):dpS x a = "" := zae (by rw [yb8,List.drop_of_length_le (by rw [<- zad];exact h)];rfl)
theorem tk_l {x y:Str} {a:Nat} (h:a<=x.length):tkS (x++y) a=tkS x a:=zae (by rw [ycl,zaf,ycl,List.take_append_of_le_length (by rw [<- zad];exact h)])
theorem tk_r {x y:Str} {a:Nat} (h:x.length<=a):tkS (x++y) a=x++tkS y (a-x.length):=zae (by
 rw [ycl,zaf,zaf,ycl,List.take_append,List.take_of_length_le (by rw [<- zad];exact h),<- zad])
theorem dp_l {x y:Str} {a:Nat} (h:a<=x.length):dpS (x++y) a=dpS x a++y:=zae (by rw [yb8,zaf,zaf,yb8,List.drop_append_of_le_length (by rw [<- zad];exact h)])
theorem dp_r {x y:Str} {a:Nat} (h:x.length<=a):dpS (x++y) a=dpS y (a-x.length):=zae (by
 rw [yb8,zaf,yb8,List.drop_append,List.drop_of_length_le (by rw [<- zad];exact h),<- zad];rfl)
theorem ziq {x:Str} (h:yaE x=true) (a:Nat):yaE (tkS x a)=true:=by
 unfold yaE at *
 rw [ycl,List.all_eq_true]
 rw [List.all_eq_true] at h
 exact fun c hc=>h c (List.mem_of_mem_take hc)
theorem zir {x:Str} (h:yaE x=true) (a:Nat):yaE (dpS x a)=true:=by
 unfold yaE at *
 rw [yb8,List.all_eq_true]
 rw [List.all_eq_true] at h
 exact fun c hc=>h c (List.mem_of_mem_drop hc)
theorem yfO {x:Str} {a:Nat} (h:AH):ybb (.str x) none (some (a:Int)) h = .ok (.str (tkS x a)) h:=by
 have:cutS x none (some (a:Int))=tkS x a:=zae (by
  unfold cutS
  rw [HT.sIx_nat,HT.sIx_none,ycl]
  show (x.cps.toList.drop 0).take (min a x.cps.toList.length-0)=_
  rw [List.drop_zero,Nat.sub_zero]
  by_cases q:a<=x.cps.toList.length
  ·rw [Nat.min_eq_left q]
  ·rw [Nat.min_eq_right (by lia),List.take_length,List.take_of_length_le (by lia)])
 simp only [ybb,this]
theorem yfP {x:Str} {a:Nat} (ha:a<=x.length) (h:AH):ybb (.str x) (some (a:Int)) none h = .ok (.str (dpS x a)) h:=by
 have:cutS x (some (a:Int)) none=dpS x a:=zae (by
  unfold cutS
  rw [HT.sIx_nat,HT.sIx_none,yb8]
  rw [zad] at ha
  rw [Nat.min_eq_left ha]
  show (x.cps.toList.drop a).take (x.cps.toList.length-a)=_
  rw [List.take_of_length_le (by rw [List.length_drop];exact Nat.le_refl _)])
 simp only [ybb,this]
def cst (z:Int):Nat:=8*((z+1).toNat*(z+2).toNat)
end Sk
namespace Sk
open PySem PySem.Spec L2 Sm
theorem zd9 {h:AH} {p:Nat} {ps:List Pc} {n:Nat} {y:Str} (S:ShelfAt h p ps) (t:TxZ ps n y):yaB [.ref p,.int n] h = .ok (.int (htOf ps n)) h:=by
 obtain ⟨m,em,_⟩:=t.meas
 rw [zag S em,ybS em]
theorem zaP {ps:List Pc} {n:Nat} {y:Str} (t:TxZ ps n y) : -1<=htOf ps n:=by
 rcases t with ⟨rfl,rfl⟩ | ⟨m,f,l,T⟩
 ·rw [zbj];lia
 ·rw [ybS T.ms];have:=T.ky.ht;lia
theorem TxZ.pos {ps:List Pc} {n:Nat} {y:Str} (t:TxZ ps n y) (hy:1<=y.length):∃ m f l,Tx ps n m y f l:=by
 rcases t with ⟨rfl,rfl⟩ | t
 ·exact absurd hy (by decide)
 ·exact t
theorem fr_0 {h:AH} {p d n:Nat}:yat (d+1) [.ref p,.int n,.int (0:Nat)] h = .ok (.int (0:Nat)) h:=by
 have z:fEq (.int 0) (.int 0) h = .ok (.bl true) h:=by simp
 simp [yat,yb4,z,-fEq]
theorem yhf {h:AH} {p d n a:Nat} {ps:List Pc} {m:Ms} (S:ShelfAt h p ps) (em:(meas ps)[n]? = some m) (a0 : ¬ a=0) (ea:a=m.sg):yat (d+1) [.ref p,.int n,.int a] h = .ok (.int n) h:=by
 have z:fEq (.int a) (.int 0) h = .ok (.bl false) h:=by simp [a0]
 have fs:=zai S em
 rw [<- ea] at fs
 have z2:fEq (.int a) (.int a) h = .ok (.bl true) h:=by simp
 simp [yat,yb4,z,S.ob,fs,z2,-fEq]
theorem zjG {h:AH} {p d n a:Nat} {ps:List Pc} {m:Ms} {x:Str} (S:ShelfAt h p ps) (n1:1<=n) (em:(meas ps)[n]? = some m) (ep:ps[n-1]? = some (.leaf x)) (a0 : ¬ a=0) (ea : ¬ a=m.sg):yat (d+1) [.ref p,.int n,.int a] h=yaJ [.ref p,.str (tkS x a)] h:=by
 have z:fEq (.int a) (.int 0) h = .ok (.bl false) h:=by simp [a0]
 have fs:=zai S em
 have z2:fEq (.int a) (.int m.sg) h = .ok (.bl false) h:=by
  have : ¬ (a:Int)=m.sg:=by lia
  simp [this]
 have ct:=yfO (x:=x) (a:=a) h
 generalize hF:yaJ [.ref p,.str (tkS x a)] h=R
 simp [yat,yb4,z,S.ob,fs,z2,zbi S n1 ep,i0L,eqL,i1L,ct,hF,-fEq,-fIx,-ybb]
 cases R<;>first | rfl | simp
theorem fr_l {h:AH} {p d n a c e:Nat} {ps:List Pc} {m mc:Ms} (S:ShelfAt h p ps) (n1:1<=n) (em:(meas ps)[n]? = some m) (ec:(meas ps)[c]? = some mc) (ep:ps[n-1]? = some (.fork c e)) (a0 : ¬ a=0) (ea : ¬ a=m.sg) (hl:a<=mc.sg):yat (d+1) [.ref p,.int n,.int a] h=yat d [.ref p,.int c,.int a] h:=by
 have z:fEq (.int a) (.int 0) h = .ok (.bl false) h:=by simp [a0]
 have fs:=zai S em
 have fc:=zai S ec
 have z2:fEq (.int a) (.int m.sg) h = .ok (.bl false) h:=by
  have : ¬ (a:Int)=m.sg:=by lia
  simp [this]
 have le:fLe (.int a) (.int mc.sg) h = .ok (.bl true) h:=by simp [hl]
 show yb4 (yat d) [.ref p,.int n,.int a] h=yat d [.ref p,.int c,.int a] h
 generalize yat d=G at *
 unfold yb4
 generalize hF:G [.ref p,.int c,.int a] h=R
 simp [z,S.ob,fs,fc,z2,zaA S n1 ep,i0F,eqF,i1,le,hF,-fEq,-fIx,-fLe]
 cases R<;>first | rfl | simp
theorem fr_r {h h1:AH} {p d n a c e:Nat} {v:Int} {ps:List Pc} {m mc:Ms} (S:ShelfAt h p ps) (n1:1<=n) (em:(meas ps)[n]? = some m) (ec:(meas ps)[c]? = some mc) (ep:ps[n-1]? = some (.fork c e)) (a0 : ¬ a=0) (ea : ¬ a=m.sg) (hl : ¬ a<=mc.sg) (ev:yat d [.ref p,.int e,.int (a-mc.sg:Nat)] h = .ok (.int v) h1) :
  yat (d+1) [.ref p,.int n,.int a] h=yap [.ref p,.int c,.int v] h1:=by
 have z:fEq (.int a) (.int 0) h = .ok (.bl false) h:=by simp [a0]
 have fs:=zai S em
 have fc:=zai S ec
 have z2:fEq (.int a) (.int m.sg) h = .ok (.bl false) h:=by
  have : ¬ (a:Int)=m.sg:=by lia
  simp [this]
 have le:fLe (.int a) (.int mc.sg) h = .ok (.bl false) h:=by
  simp;lia
 have sb:fSub (.int a) (.int mc.sg) h = .ok (.int (a-mc.sg:Nat)) h:=by
  have:(a:Int)-mc.sg=((a-mc.sg:Nat):Int):=by lia
  rw [<- this];rfl
 unfold yat yb4
 generalize yat d=G at *
 generalize ((a-mc.sg:Nat):Int)=AM at *
 generalize hF:yap [.ref p,.int c,.int v] h1=R
 simp [z,S.ob,fs,fc,z2,zaA S n1 ep,i0F,eqF,i1,i2,le,sb,ev,hF,-fEq,-fIx,-fLe,-fSub]
 cases R<;>first | rfl | simp
theorem bk_0 {h:AH} {p d n:Nat}:yaw (d+1) [.ref p,.int n,.int (0:Nat)] h = .ok (.int n) h:=by
 have z:fEq (.int 0) (.int 0) h = .ok (.bl true) h:=by simp
 simp [yaw,ycj,z,-fEq]
theorem yhg {h:AH} {p d n a:Nat} {ps:List Pc} {m:Ms} (S:ShelfAt h p ps) (em:(meas ps)[n]? = some m) (a0 : ¬ a=0) (ea:a=m.sg):yaw (d+1) [.ref p,.int n,.int a] h = .ok (.int (0:Nat)) h:=by
 have z:fEq (.int a) (.int 0) h = .ok (.bl false) h:=by simp [a0]
 have fs:=zai S em
 rw [<- ea] at fs
 have z2:fEq (.int a) (.int a) h = .ok (.bl true) h:=by simp
 simp [yaw,ycj,z,S.ob,fs,z2,-fEq]
theorem zjH {h:AH} {p d n a:Nat} {ps:List Pc} {m:Ms} {x:Str} (S:ShelfAt h p ps) (n1:1<=n) (em:(meas ps)[n]? = some m) (ep:ps[n-1]? = some (.leaf x)) (ax:a<=x.length) (a0 : ¬ a=0) (ea : ¬ a=m.sg):yaw (d+1) [.ref p,.int n,.int a] h=yaJ [.ref p,.str (dpS x a)] h:=by
 have z:fEq (.int a) (.int 0) h = .ok (.bl false) h:=by simp [a0]
 have fs:=zai S em
 have z2:fEq (.int a) (.int m.sg) h = .ok (.bl false) h:=by
  have : ¬ (a:Int)=m.sg:=by lia
  simp [this]
 have ct:=yfP (x:=x) ax h
 generalize hF:yaJ [.ref p,.str (dpS x a)] h=R
 simp [yaw,ycj,z,S.ob,fs,z2,zbi S n1 ep,i0L,eqL,i1L,ct,hF,-fEq,-fIx,-ybb]
 cases R<;>first | rfl | simp
theorem bk_r {h:AH} {p d n a c e:Nat} {ps:List Pc} {m mc:Ms} (S:ShelfAt h p ps) (n1:1<=n) (em:(meas ps)[n]? = some m) (ec:(meas ps)[c]? = some mc) (ep:ps[n-1]? = some (.fork c e)) (a0 : ¬ a=0) (ea : ¬ a=m.sg) (hl:mc.sg<=a):yaw (d+1) [.ref p,.int n,.int a] h=yaw d [.ref p,.int e,.int (a-mc.sg:Nat)] h:=by
 have z:fEq (.int a) (.int 0) h = .ok (.bl false) h:=by simp [a0]
 have fs:=zai S em
 have fc:=zai S ec
 have z2:fEq (.int a) (.int m.sg) h = .ok (.bl false) h:=by
  have : ¬ (a:Int)=m.sg:=by lia
  simp [this]
 have le:fGe (.int a) (.int mc.sg) h = .ok (.bl true) h:=by simp [hl]
 have sb:fSub (.int a) (.int mc.sg) h = .ok (.int (a-mc.sg:Nat)) h:=by
  have:(a:Int)-mc.sg=((a-mc.sg:Nat):Int):=by lia
  rw [<- this];rfl
 show ycj (yaw d) [.ref p,.int n,.int a] h=yaw d [.ref p,.int e,.int (a-mc.sg:Nat)] h
 generalize yaw d=G at *
 unfold ycj
 generalize ((a-mc.sg:Nat):Int)=AM at *
 generalize hF:G [.ref p,.int e,.int AM] h=R
 simp [z,S.ob,fs,fc,z2,zaA S n1 ep,i0F,eqF,i1,i2,le,sb,hF,-fEq,-fIx,-fGe,-fSub]
 cases R<;>first | rfl | simp
theorem bk_l {h h1:AH} {p d n a c e:Nat} {v:Int} {ps:List Pc} {m mc:Ms} (S:ShelfAt h p ps) (n1:1<=n) (em:(meas ps)[n]? = some m) (ec:(meas ps)[c]? = some mc) (ep:ps[n-1]? = some (.fork c e)) (a0 : ¬ a=0) (ea : ¬ a=m.sg) (hl : ¬ mc.sg<=a) (ev:yaw d [.ref p,.int c,.int a] h = .ok (.int v) h1) :
  yaw (d+1) [.ref p,.int n,.int a] h=yap [.ref p,.int v,.int e] h1:=by
 have z:fEq (.int a) (.int 0) h = .ok (.bl false) h:=by simp [a0]
 have fs:=zai S em
 have fc:=zai S ec
 have z2:fEq (.int a) (.int m.sg) h = .ok (.bl false) h:=by
  have : ¬ (a:Int)=m.sg:=by lia
  simp [this]
 have le:fGe (.int a) (.int mc.sg) h = .ok (.bl false) h:=by
  simp;lia
 unfold yaw ycj
 generalize yaw d=G at *
 generalize hF:yap [.ref p,.int v,.int e] h1=R
 simp [z,S.ob,fs,fc,z2,zaA S n1 ep,i0F,eqF,i1,i2,le,ev,hF,-fEq,-fIx,-fGe]
 cases R<;>first | rfl | simp
end Sk
namespace Sk
open PySem PySem.Spec L2 Sm
theorem zcp (z:Str) (n:Nat):(repS z n).cps.toList=(List.replicate n z.cps.toList).flatten:=rfl
theorem zcq (z:Str) (a b:Nat):repS z a++repS z b=repS z (a+b):=zae (by rw [zaf,zcp,zcp,zcp,<- List.flatten_append,List.replicate_append_replicate])
theorem zdG (z:Str):repS z 1=z:=zae (by rw [zcp];simp)
theorem zc0 (z:Str):repS z 0 = "" := zae rfl
theorem zdH (z:Str):∀ n,(repS z n).length=z.length*n
 | 0=>by rw [zc0];rfl
 | n+1=>by rw [<- zcq,zal,zdH z n,zdG,Nat.mul_succ]
theorem zf9:∀ n,repS "" n = ""
 | 0=>zc0 _
 | n+1=>by
  rw [<- zcq,zf9 n,zdG]
  exact zae (by rw [zaf];rfl)
theorem db_0 {h:AH} {p n d:Nat}:ya0 (d+1) [.ref p,.int n,.int (0:Nat)] h = .ok (.int (0:Nat)) h:=by
 have z:fEq (.int 0) (.int 0) h = .ok (.bl true) h:=by simp
 simp [ya0,ydA,z,-fEq]
theorem db_1 {h h1:AH} {p n d k:Nat} {a:Int} (hk : ¬ k=0) (hp:k % 2=0) (e1:ya0 d [.ref p,.int n,.int (k / 2:Nat)] h = .ok (.int a) h1):ya0 (d+1) [.ref p,.int n,.int k] h=yap [.ref p,.int a,.int a] h1:=by
 have z:fEq (.int k) (.int 0) h = .ok (.bl false) h:=by simp [hk]
 have dv:fDiv (.int k) (.int 2) h = .ok (.int (k / 2:Nat)) h:=rfl
 have md:∀ h,fMod (.int k) (.int 2) h = .ok (.int 0) h:=fun h=>by
  have:(k:Int) % 2=0:=by lia
  show Out.ok (AV.int ((k:Int) % 2)) h=_
  rw [this]
 have z2:∀ h,fEq (.int 0) (.int 0) h = .ok (.bl true) h:=fun h=>by simp
 unfold ya0 ydA
 generalize hF:yap [.ref p,.int a,.int a] h1=R
 generalize ((k / 2:Nat):Int)=K2 at *
 generalize ya0 d=G at *
 simp [z,dv,e1,hF,-fEq,-fDiv,-fMod]
 cases R with
 | ok v h2=>simp [md,z2,-fEq,-fMod]
 | ex c h2=>rfl
 | bad=>rfl
theorem db_2 {h h1:AH} {p n d k:Nat} {a:Int} (hk : ¬ k=0) (hp : ¬ k % 2=0) (e1:ya0 d [.ref p,.int n,.int (k / 2:Nat)] h = .ok (.int a) h1):ya0 (d+1) [.ref p,.int n,.int k] h=(yap [.ref p,.int a,.int a] h1).bind fun v h2=>yap [.ref p,v,.int n] h2:=by
 have z:fEq (.int k) (.int 0) h = .ok (.bl false) h:=by simp [hk]
 have dv:fDiv (.int k) (.int 2) h = .ok (.int (k / 2:Nat)) h:=rfl
 have md:∀ h,fMod (.int k) (.int 2) h = .ok (.int 1) h:=fun h=>by
  have:(k:Int) % 2=1:=by lia
  show Out.ok (AV.int ((k:Int) % 2)) h=_
  rw [this]
 have z2:∀ h,fEq (.int 1) (.int 0) h = .ok (.bl false) h:=fun h=>by simp
 unfold ya0 ydA
 generalize hF:yap [.ref p,.int a,.int a] h1=R
 generalize ((k / 2:Nat):Int)=K2 at *
 generalize ya0 d=G at *
 simp [z,dv,e1,hF,-fEq,-fDiv,-fMod]
 cases R with
 | ok v h2 =>
  simp [md,z2,-fEq,-fMod]
  cases yap [.ref p,v,.int n] h2<;>rfl
 | ex c h2=>rfl
 | bad=>rfl
theorem zc1 {ps:List Pc} (g:Good ps) {a b:Nat} {x y:Str} (A:TxZ ps a x) (B:TxZ ps b y):16*(max (htOf ps a) (htOf ps b)+1).toNat<=1400:=by
 have key:∀ {n:Nat} {y:Str},TxZ ps n y->htOf ps n<=82:=fun {n y} t=>by
  rcases t with ⟨rfl,rfl⟩ | ⟨m,f,l,T⟩
  ·rw [zbj];lia
  ·rw [ybS T.ms];exact ht82 g T
 have:=key A
 have:=key B
 lia
theorem zea {p:Nat}:∀ (d e:Nat) {h:AH} {ps:List Pc} {n k:Nat} {x:Str},ShelfAt h p ps->Good ps->TxZ ps n x->k<2 ^ e->e<d->x.length*k<=1000000000000000000->ps.length+2800*e<15000000 ->
  ∃ (m:Nat) (ps':List Pc) (h':AH),Dn (ya0 d [.ref p,.int n,.int k]) p h h' ps ps' (2800*e) m/\TxZ ps' m (repS x k)
 | 0,e,h,ps,n,k,x,S,g,T,hk,hd,hm,hz=>absurd hd (Nat.not_lt_zero _)
 | d+1,e,h,ps,n,k,x,S,g,T,hk,hd,hm,hz=>by
  by_cases k0:k=0
  ·subst k0
   have dv:Dn (ya0 (d+1) [.ref p,.int n,.int (0:Nat)]) p h h ps ps 0 0:=Dn.val S g fun hh pp S' _ pr=>db_0
   exact ⟨0,ps,h,dv.as S g (fun _ _ _ _ _=>rfl) (Nat.zero_le _),.inl ⟨rfl,zc0 x⟩⟩
  ·obtain ⟨e',rfl⟩:∃ e',e=e'+1:=by
    cases e with
    | zero=>simp at hk;lia
    | succ e' => exact ⟨e',rfl⟩
   rw [Nat.pow_succ] at hk
   have kk:x.length*(k / 2)+x.length*(k / 2)+x.length*(k % 2)=x.length*k:=by
    rw [<- Nat.mul_add,<- Nat.mul_add]
    congr 1
    lia
   obtain ⟨a,ps1,h1,d1,T1⟩:=zea d e' (k:=k / 2) S g T (by lia) (by lia) (by lia) (by lia)
   have z1:=d1.dd.len
   have l1:=zdH x (k / 2)
   obtain ⟨b,ps2,h2,d2,T2⟩:=zbO d1.dd.sh d1.dd.gd T1 T1 (by lia) (by lia)
   have w2:=zc1 d1.dd.gd T1 T1
   have z2:=d2.dd.len
   rw [zcq] at T2
   by_cases hp:k % 2=0
   ·have ek:k / 2+k / 2=k:=by lia
    rw [ek] at T2
    exact ⟨b,ps2,h2,Dn.seq' S g d1 d2 (fun hh hh1 pp S' _ pr ev=>db_1 k0 hp ev) (by lia),T2⟩
   ·have l2:=zdH x (k / 2+k / 2)
    rw [Nat.mul_add] at l2
    have km:x.length*(k % 2)=x.length:=by rw [show k % 2=1 by lia,Nat.mul_one]
    have p12:=d1.dd.pre.trans d2.dd.pre
    obtain ⟨c,ps3,h3,d3,T3⟩:=zbO d2.dd.sh d2.dd.gd T2 (T.pre p12) (by lia) (by lia)
    have w3:=zc1 d2.dd.gd T2 (T.pre p12)
    have ek:repS x (k / 2+k / 2)++x=repS x k:=by
     conv=>lhs;rhs;rw [<- zdG x]
     rw [zcq]
     congr 1
     lia
    rw [ek] at T3
    have d23:=Dn.seq (F:=fun hh=>(yap [.ref p,.int a,.int a] hh).bind fun v h2=>yap [.ref p,v,.int n] h2) (F2:=fun v h2=>yap [.ref p,v,.int n] h2) d1.dd.sh d1.dd.gd d2 d3 (fun _ _ _ _ _=>rfl) (k:=2800) (by lia)
    exact ⟨c,ps3,h3,Dn.seq' S g d1 d23 (fun hh hh1 pp S' _ pr ev=>db_2 k0 hp ev) (by lia),T3⟩
theorem yf9 {h:AH} {p n k:Nat} {ps:List Pc} {m:Ms} (S:ShelfAt h p ps) (em:(meas ps)[n]? = some m) (hk:k<2 ^ 63) (hm:m.sg*k<=1000000000000000000):yb5 [.ref p,.int n,.int k] h=if n=0 then .ok (.int (0:Nat)) h else ya0 64 [.ref p,.int n,.int k] h:=by
 have fs:=zai S em
 have lt:fLt (.int k) (.int 0) h = .ok (.bl false) h:=by
  have : ¬ (k:Int)<0:=by lia
  simp only [fLt,this,decide_false]
 have ml:fMul (.int m.sg) (.int k) h = .ok (.int ((m.sg*k:Nat):Int)) h:=by
  have h2:(k:Int).natAbs<2 ^ 64:=by
   have:(2:Nat) ^ 63<2 ^ 64:=by decide
   lia
  rw [ye5 h2];congr 2
 have ck:=zaZ (i:=((m.sg*k:Nat):Int)) (by lia) h
 unfold yb5
 generalize ya0 64=G at *
 generalize ((m.sg*k:Nat):Int)=MK at *
 by_cases z:n=0
 ·subst z
  have z0:fEq (.int 0) (.int 0) h = .ok (.bl true) h:=by simp
  have fs':yaz [.ref p,.int 0] h = .ok (.int m.sg) h:=fs
  simp [S.ob,fs',lt,ml,ck,z0,-fLt,-fMul,-fEq]
 ·have z0:fEq (.int n) (.int 0) h = .ok (.bl false) h:=by simp [z]
  rw [if_neg z]
  generalize hR:G [.ref p,.int n,.int k] h=R
  simp [S.ob,fs,lt,ml,ck,z0,hR,-fLt,-fMul,-fEq]
  cases R<;>rfl
theorem zgD {h:AH} {p:Nat} {ps:List Pc} {n k e:Nat} {x:Str} (S:ShelfAt h p ps) (g:Good ps) (T:TxZ ps n x) (hk:k<2 ^ e) (he:e<62) (hm:x.length*k<=1000000000000000000) (hz:ps.length+2800*e<15000000) :
  ∃ (m:Nat) (ps':List Pc) (h':AH),Dn (yb5 [.ref p,.int n,.int k]) p h h' ps ps' (2800*e) m/\TxZ ps' m (repS x k):=by
 obtain ⟨m,em,sm⟩:=T.meas
 have k63:k<2 ^ 63:=Nat.lt_of_lt_of_le hk (Nat.pow_le_pow_right (by decide) (by lia))
 by_cases z:n=0
 ·rcases T with ⟨_,rfl⟩ | ⟨_,_,_,T⟩
  ·have dv:Dn (yb5 [.ref p,.int n,.int k]) p h h ps ps 0 0:=Dn.val S g fun hh pp S' _ pr=>by rw [yf9 S' (zac pr em) k63 (by rw [sm];exact hm),if_pos z]
   exact ⟨0,ps,h,dv.as S g (fun _ _ _ _ _=>rfl) (Nat.zero_le _),.inl ⟨rfl,zf9 k⟩⟩
  ·exact absurd T.n1 (by lia)
 ·obtain ⟨c,ps',h',d,T'⟩:=zea 64 e S g T hk (by lia) hm hz
  exact ⟨c,ps',h',d.as S g (fun hh pp S' _ pr=>by rw [yf9 S' (zac pr em) k63 (by rw [sm];exact hm),if_neg z]) (Nat.le_refl _),T'⟩
theorem htZ {ps:List Pc} (g:Good ps) {n:Nat} {x:Str} (t:TxZ ps n x) : -1<=htOf ps n/\htOf ps n<=82:=by
 refine ⟨zaP t,?_⟩
 rcases t with ⟨rfl,rfl⟩ | ⟨m,f,l,T⟩
 ·rw [zbj];lia
 ·rw [ybS T.ms];exact ht82 g T
theorem zjI {h:AH} {p a b:Nat} {ps:List Pc} {x y:Str} (S:ShelfAt h p ps) (g:Good ps) (A:TxZ ps a x) (B:TxZ ps b y) (hm:x.length+y.length<=1000000000000000000) (hz:ps.length<15000000) :
  ∃ (n:Nat) (ps':List Pc) (h':AH),yap [.ref p,.int a,.int b] h = .ok (.int n) h'/\Dd p h h' ps ps' 1400/\TxZ ps' n (x++y):=by
 obtain ⟨n,ps',h',d,T⟩:=zbO S g A B hm hz
 exact ⟨n,ps',h',d.ev,{ d.dd with len:=Nat.le_trans d.dd.len (Nat.add_le_add_left (zc1 g A B) _) },T⟩
theorem zb7 {h:AH} {p n b e:Nat} {ps:List Pc} {m:Ms} (S:ShelfAt h p ps) (em:(meas ps)[n]? = some m) (be:b<=e) (hm:e<=m.sg):ybA [.ref p,.int n,.int b,.int e] h = .ok .non h:=by
 have fs:=zai S em
 have l1:fLe (.int 0) (.int b) h = .ok (.bl true) h:=by
  have:(0:Int)<=b:=by lia
  simp only [fLe,this,decide_true]
 have l2:fLe (.int b) (.int e) h = .ok (.bl true) h:=by
  have:(b:Int)<=e:=by lia
  simp only [fLe,this,decide_true]
 have l3:fLe (.int e) (.int m.sg) h = .ok (.bl true) h:=by
  have:(e:Int)<=m.sg:=by lia
  simp only [fLe,this,decide_true]
 simp [ybA,S.ob,fs,l1,l2,l3,-fLe]
theorem zga {h:AH} {p n t:Nat} {ps:List Pc} {m:Ms} (S:ShelfAt h p ps) (em:(meas ps)[n]? = some m) (hm:t<=m.sg):ycC [.ref p,.int n,.int t] h = .ok .non h:=by
 have fs:=zai S em
 have l1:fLe (.int 0) (.int t) h = .ok (.bl true) h:=by
  have:(0:Int)<=t:=by lia
  simp only [fLe,this,decide_true]
 have l2:fLe (.int t) (.int m.sg) h = .ok (.bl true) h:=by
  have:(t:Int)<=m.sg:=by lia
  simp only [fLe,this,decide_true]
 simp [ycC,S.ob,fs,l1,l2,-fLe]
end Sk
namespace Sk
open PySem PySem.Spec L2 Sm
theorem zht {h:AH} {p:Nat} {ps:List Pc} {a b:Nat} {ma mb fa la fb lb:Ms} {x y:Str} (S:ShelfAt h p ps) (g:Good ps) (A:Tx ps a ma x fa la) (B:Tx ps b mb y fb lb) (hc : ¬ 8<la.sg+fb.sg) (hm:ma.sg+mb.sg<=1000000000000000000) (hz:ps.length<15000000) :
  ∃ (n:Nat) (ps':List Pc) (h':AH) (m f l:Ms),Dn (yci [.ref p,.int a,.int b]) p h h' ps ps' (7*(max ma.ht mb.ht).toNat+2) n/\Tx ps' n m (x++y) f l/\m.ht<=max ma.ht mb.ht+1/\max ma.ht mb.ht-1<=m.ht/\fa.sg<=f.sg/\lb.sg<=l.sg:=by
 obtain ⟨_,w,u,l1,el,ex,lw⟩:=g.ends a a (Nat.le_refl _) A
 obtain ⟨⟨v,t,f1,ef,ey,lv⟩,_⟩:=g.ends b b (Nat.le_refl _) B
 have a0:=A.ky.ht
 have b0:=B.ky.ht
 have ha:=ht82 g A
 have hb:=ht82 g B
 have px:yaE x=true:=A.ky.pl
 have py:yaE y=true:=B.ky.pl
 have pw:yaE w=true:=by rw [ex,zaH,Bool.and_eq_true] at px;exact px.2
 have pv:yaE v=true:=by rw [ey,zaH,Bool.and_eq_true] at py;exact py.1
 have la1:=A.ky.l1
 have fb1:=B.ky.f1
 have sx:=A.ky.sg
 have sy:=B.ky.sg
 have lx:x.length=u.length+w.length:=by rw [ex,zal]
 have ly:y.length=v.length+t.length:=by rw [ey,zal]
 have lwv:(w++v).length=w.length+v.length:=zal w v
 obtain ⟨L,ps1,h1,d1,N⟩:=zbz S g (zd6 (w:=w) (v:=v) (by lia) (by lia) pw pv) (by lia)
 have z1:=d1.dd.len
 obtain ⟨n2,ps2,h2,m2,f2,u2,v2,d2,ex2,lv2,T2,k1,k2⟩:=zdD 90 d1.dd.sh d1.dd.gd (A.pre d1.dd.pre) N (by lia) (by lia) (by lia) (by lia)
 have z2:=d2.dd.len
 obtain ⟨rfl,rfl⟩:u=u2/\w=v2:=zeP (ex.symm.trans ex2) (by lia)
 have s2:m2.sg=u.length+(w.length+v.length):=by rw [T2.ky.sg,zal,zal]
 have p12:=d1.dd.pre.trans d2.dd.pre
 have lm:(lfMs (w++v) L).sg=w.length+v.length:=zal w v
 have tb:∀ q:Int,0<=q->q<=max ma.ht mb.ht->q.toNat<=(max ma.ht mb.ht).toNat:=fun q _ _=>by lia
 rcases zcY 90 d2.dd.sh d2.dd.gd (B.pre p12) (by lia) (by lia) with ⟨r1,r2,d3⟩ | ⟨r1,n3,ps3,h3,m3,f3,u3,v3,d3,ey3,lu3,T3,r2,r3,r4⟩
 ·have t0:t.length=0:=by lia
  have te:t = "" := zae (by rw [zad] at t0;rw [List.length_eq_zero_iff.mp t0];rfl)
  have rd:u++(w++v)=x++y:=by
   rw [ex,ey,te,zaj]
   congr 2
  rw [rd] at T2
  refine ⟨n2,ps2,h2,m2,f2,_,⟨?_,d1.dd.trans d2.dd (by lia),fun h4 ps4 S4 g4 p4=>?_⟩,T2,by lia,by lia,k2,?_⟩
  rotate_left 2
  ·obtain ⟨kk,cc⟩:=B.ky.cnt
   have:lb.sg<=mb.sg:=by rcases cc with cc | cc<;>lia
   lia
  ·rw [wd_1 S A.ms B.ms l1 f1 el ef (by lia) d1.ev d2.ev d3.ev];rfl
  ·have q1:=d1.re h4 ps4 S4 g4 (d2.dd.pre.trans p4)
   have q2:=d2.re h4 ps4 S4 g4 p4
   have q3:=d3.re h4 ps4 S4 g4 p4
   rw [wd_1 S4 (zac (p12.trans p4) A.ms) (zac (p12.trans p4) B.ms) l1 f1 (yaR (p12.trans p4) el) (yaR (p12.trans p4) ef) (by lia) q1 q2 q3];rfl
 ·obtain ⟨rfl,rfl⟩:v=u3/\t=v3:=zdE (ey.symm.trans ey3) (by lia)
  have z3:=d3.dd.len
  have s3:m3.sg=t.length:=T3.ky.sg
  have m30:=T3.ky.ht
  obtain ⟨n4,ps4,h4,m4,d4,T4,r5,r6⟩:=zaR 90 (max ma.ht mb.ht).toNat d3.dd.sh d3.dd.gd (T2.pre d3.dd.pre) T3 (by lia) (by lia) (by (clear m30 s3 ey3 T3 lu3 d3 lm p12 s2 ex2 lv2 T2 z2 k2 d2 z1 N d1 lwv ly lx sy sx fb1 la1 pv pw py px hb ha lv ey ef f1 lw ex el l1 hz hm hc B A g S;lia)) (by lia) (by lia)
  have rd:(u++(w++v))++t=x++y:=by rw [ex,ey,zaj,zaj,zaj]
  rw [rd] at T4
  have n3z : ¬ (n3:Int)=0:=by have:=T3.n1;lia
  have p123:=p12.trans d3.dd.pre
  refine ⟨n4,ps4,h4,m4,f2,lb,⟨?_,((d1.dd.trans d2.dd (Nat.le_refl _)).trans d3.dd (Nat.le_refl _)).trans d4.dd (by lia),fun h5 ps5 S5 g5 p5=>?_⟩,T4,by lia,by lia,k2,Nat.le_refl _⟩
  ·rw [wd_1 S A.ms B.ms l1 f1 el ef (by lia) d1.ev d2.ev d3.ev,if_neg n3z];exact d4.ev
  ·have p45:=d4.dd.pre.trans p5
   have q1:=d1.re h5 ps5 S5 g5 (d2.dd.pre.trans (d3.dd.pre.trans p45))
   have q2:=d2.re h5 ps5 S5 g5 (d3.dd.pre.trans p45)
   have q3:=d3.re h5 ps5 S5 g5 p45
   have q4:=d4.re h5 ps5 S5 g5 p5
   have pa:=p123.trans p45
   rw [wd_1 S5 (zac pa A.ms) (zac pa B.ms) l1 f1 (yaR pa el) (yaR pa ef) (by lia) q1 q2 q3,if_neg n3z];exact q4
theorem zgb {h:AH} {p:Nat} {ps:List Pc} {a b:Nat} {ma mb fa la fb lb:Ms} {x y:Str} (S:ShelfAt h p ps) (g:Good ps) (A:Tx ps a ma x fa la) (B:Tx ps b mb y fb lb) (q:8<la.sg+fb.sg) (hm:ma.sg+mb.sg<=1000000000000000000) (hz:ps.length<15000000) :
  ∃ (n:Nat) (ps':List Pc) (h':AH) (m:Ms),Dn (yap [.ref p,.int a,.int b]) p h h' ps ps' (3*(ma.ht-mb.ht).natAbs+1) n/\Tx ps' n m (x++y) fa lb/\max ma.ht mb.ht<=m.ht/\m.ht<=max ma.ht mb.ht+1:=by
 have a0:=A.ky.ht
 have b0:=B.ky.ht
 have ha:=ht82 g A
 have hb:=ht82 g B
 obtain ⟨n,ps',h',m,d,T,h1,h2⟩:=zaR 90 (ma.ht-mb.ht).natAbs S g A B q hm (Nat.le_refl _) (by lia) (by lia)
 exact ⟨n,ps',h',m,d.as S g (fun hh pp S' _ pr=>by rw [jn_2 S' A.n1 B.n1 (zac pr A.ms) (zac pr B.ms) (zac pr A.ky.ll) (zac pr B.ky.fl) hm,if_pos q]) (Nat.le_refl _),T,h1,h2⟩
theorem zgc {h:AH} {p:Nat} {ps:List Pc} {a b:Nat} {ma mb fa la fb lb:Ms} {x y:Str} (S:ShelfAt h p ps) (g:Good ps) (A:Tx ps a ma x fa la) (B:Tx ps b mb y fb lb) (q : ¬ 8<la.sg+fb.sg) (hm:ma.sg+mb.sg<=1000000000000000000) (hz:ps.length<15000000) :
  ∃ (n:Nat) (ps':List Pc) (h':AH) (m f l:Ms),Dn (yap [.ref p,.int a,.int b]) p h h' ps ps' (7*(max ma.ht mb.ht).toNat+2) n/\Tx ps' n m (x++y) f l/\m.ht<=max ma.ht mb.ht+1/\max ma.ht mb.ht-1<=m.ht/\fa.sg<=f.sg/\lb.sg<=l.sg:=by
 obtain ⟨n,ps',h',m,f,l,d,T,h1,h2,h3,h4⟩:=zht S g A B q hm hz
 exact ⟨n,ps',h',m,f,l,d.as S g (fun hh pp S' _ pr=>by rw [jn_2 S' A.n1 B.n1 (zac pr A.ms) (zac pr B.ms) (zac pr A.ky.ll) (zac pr B.ky.fl) hm,if_neg q]) (Nat.le_refl _),T,h1,h2,h3,h4⟩
theorem ln_a {h1 h2 hc he H:Int} (c0:0<=hc) (e0:0<=he) (r0:0<=h1) (w1 : -1<=hc-he) (w2:hc-he<=1) (hH:H=max hc he+1) (r1:h1<=he) (g1:max hc h1<=h2):(7*h1.toNat+9*he.toNat+1)+(3*(hc-h1).natAbs+1)<=7*h2.toNat+9*H.toNat+1:=by (clear e0;lia)
theorem ln_b {h2 hc he H:Int} (c0:0<=hc) (e0:0<=he) (hH:H=max hc he+1) (g1:max hc 0-1<=h2):(7*(0:Int).toNat+9*he.toNat+1)+(7*(max hc 0).toNat+2)<=7*h2.toNat+9*H.toNat+1:=by (clear e0;lia)
theorem zc2 {p:Nat}:∀ (d:Nat) {h:AH} {ps:List Pc} {n a:Nat} {m f l:Ms} {x:Str},ShelfAt h p ps->Good ps->Tx ps n m x f l->1<=a->a<=x.length->m.ht.toNat<d->ps.length+16*m.ht.toNat+1<14900000 ->
  ∃ (r:Nat) (ps':List Pc) (h':AH) (m' f' l':Ms),Dn (yat d [.ref p,.int n,.int a]) p h h' ps ps' (7*m'.ht.toNat+9*m.ht.toNat+1) r/\Tx ps' r m' (tkS x a) f' l'/\m'.ht<=m.ht/\(m'.ht=0\/f.sg<=f'.sg)
 | 0,h,ps,n,a,m,f,l,x,S,g,T1,a1,ha,hd,hz=>absurd hd (Nat.not_lt_zero _)
 | d+1,h,ps,n,a,m,f,l,x,S,g,T1,a1,ha,hd,hz=>by
  have a0 : ¬ a=0:=by lia
  have sg:=T1.ky.sg
  have m0:=T1.ky.ht
  by_cases ea:a=m.sg
  ·have dv:Dn (yat (d+1) [.ref p,.int n,.int a]) p h h ps ps 0 n:=Dn.val S g fun hh pp S' _ pr=>yhf S' (zac pr T1.ms) a0 ea
   exact ⟨n,ps,h,m,f,l,dv.as S g (fun _ _ _ _ _=>rfl) (Nat.zero_le _),by rw [yhd (by lia)];exact T1,Int.le_refl _,.inr (Nat.le_refl _)⟩
  ·rcases g.kind T1 with ⟨e1,e2,e3,e4,e5⟩ | ⟨_,_,mx,my,_,_,_,_,_,_,_,_,_,X,Y,_,e5,_⟩
   ·have lt:=ybV ha
    obtain ⟨r,ps',h',d1,L⟩:=zbz S g (x:=tkS x a) (by
     unfold ybF
     rw [ziq T1.ky.pl,lt]
     simp;lia) (by lia)
    exact ⟨r,ps',h',_,_,_,d1.as S g (fun hh pp S' _ pr=>zjG S' T1.n1 (zac pr T1.ms) (yaR pr e1) a0 ea) (by lia),L,by show (0:Int)<=_;omega,.inl rfl⟩
   ·have hpos:0<m.ht:=by
     have:=congrArg Ms.ht e5
     rw [fmH] at this
     have:=X.ky.ht
     (clear e5 Y X ea m0 sg a0 hz hd ha a1 T1 g S;omega)
    obtain ⟨c,e,mc,me,y1,y2,lc,fe,ep,C,E,rfl,em,w1,w2,w3⟩:=g.cut T1 hpos
    have hh:m.ht=max mc.ht me.ht+1:=by rw [em];rfl
    have c0:=C.ky.ht
    have e0:=E.ky.ht
    have sc:=C.ky.sg
    have se:=E.ky.sg
    have la:=zal y1 y2
    by_cases hl:a<=mc.sg
    ·obtain ⟨r,ps',h',m',f',l',d1,T',q1,q2⟩:=zc2 d (n:=c) (a:=a) (x:=y1) S g C a1 (by lia) (by lia) (by lia)
     exact ⟨r,ps',h',m',f',l',d1.as S g (fun hh pp S' _ pr=>fr_l S' T1.n1 (zac pr T1.ms) (zac pr C.ms) (yaR pr ep) a0 ea hl) (by lia),by rw [tk_l (by lia)];exact T',by (clear q2 T' d1 hl la se sc e0 c0 w3 w2 w1 em sg ha T1 E C ep e5 Y X ea m0 a0 hz hd a1 g S;lia),q2⟩
    ·obtain ⟨r,ps1,h1,m1,f1,l1,d1,T',q1,q2⟩:=zc2 d (n:=e) (a:=a-mc.sg) (x:=y2) S g E (by lia) (by lia) (by lia) (by lia)
     have z1:=d1.dd.len
     have r0:=T'.ky.ht
     have lt:=ybV (x:=y2) (a:=a-mc.sg) (by lia)
     have s1:=T'.ky.sg
     have most:=T1.ky.most
     have C' := C.pre d1.dd.pre
     have tr:tkS (y1++y2) a=y1++tkS y2 (a-mc.sg):=by rw [tk_r (by lia),<- sc]
     rw [tr]
     by_cases q:8<lc.sg+f1.sg
     ·obtain ⟨s,ps2,h2,m2,d2,T2,g1,g2⟩:=zgb d1.dd.sh d1.dd.gd C' T' q (by lia) (by lia)
      exact ⟨s,ps2,h2,m2,f,l1,Dn.seq' S g d1 d2 (fun hh hh1 pp S' _ pr ev=>fr_r S' T1.n1 (zac pr T1.ms) (zac pr C.ms) (yaR pr ep) a0 ea hl ev) (ln_a c0 e0 r0 w1 w2 hh q1 g1),T2,by (clear g1 T2 d2 q tr C' most s1 lt r0 z1 T' d1 hl la se sc e0 c0 w3 w2 w1 em sg T1 E C ep e5 Y X ea m0 g S;lia),.inr (Nat.le_refl _)⟩
     ·have z:m1.ht=0:=by
       rcases q2 with q2 | q2
       ·exact q2
       ·lia
      obtain ⟨s,ps2,h2,m2,f2,l2,d2,T2,g2,g1,g3,g4⟩:=zgc d1.dd.sh d1.dd.gd C' T' q (by lia) (by lia)
      rw [z] at d1 d2 g1 g2
      exact ⟨s,ps2,h2,m2,f2,l2,Dn.seq' S g d1 d2 (fun hh hh1 pp S' _ pr ev=>fr_r S' T1.n1 (zac pr T1.ms) (zac pr C.ms) (yaR pr ep) a0 ea hl ev) (ln_b c0 e0 hh g1),T2,by (clear g4 g3 g1 T2 q tr C' most s1 lt r0 q2 q1 T' hl la se sc c0 w3 w2 w1 em sg ha T1 E C ep e5 Y X ea m0 a0 hz a1 g S;lia),.inr g3⟩
theorem ln_c {h1 h2 hc he H:Int} (c0:0<=hc) (e0:0<=he) (r0:0<=h1) (w1 : -1<=hc-he) (w2:hc-he<=1) (hH:H=max hc he+1) (r1:h1<=hc) (g1:max h1 he<=h2):(7*h1.toNat+9*hc.toNat+1)+(3*(h1-he).natAbs+1)<=7*h2.toNat+9*H.toNat+1:=by (clear c0;lia)
theorem ln_d {h2 hc he H:Int} (c0:0<=hc) (e0:0<=he) (hH:H=max hc he+1) (g1:max 0 he-1<=h2):(7*(0:Int).toNat+9*hc.toNat+1)+(7*(max 0 he).toNat+2)<=7*h2.toNat+9*H.toNat+1:=by (clear e0;lia)
theorem zdI {p:Nat}:∀ (d:Nat) {h:AH} {ps:List Pc} {n a:Nat} {m f l:Ms} {x:Str},ShelfAt h p ps->Good ps->Tx ps n m x f l->a<x.length->m.ht.toNat<d->ps.length+16*m.ht.toNat+1<14900000 ->
  ∃ (r:Nat) (ps':List Pc) (h':AH) (m' f' l':Ms),Dn (yaw d [.ref p,.int n,.int a]) p h h' ps ps' (7*m'.ht.toNat+9*m.ht.toNat+1) r/\Tx ps' r m' (dpS x a) f' l'/\m'.ht<=m.ht/\(m'.ht=0\/l.sg<=l'.sg)
 | 0,h,ps,n,a,m,f,l,x,S,g,T1,ha,hd,hz=>absurd hd (Nat.not_lt_zero _)
 | d+1,h,ps,n,a,m,f,l,x,S,g,T1,ha,hd,hz=>by
  have sg:=T1.ky.sg
  have m0:=T1.ky.ht
  by_cases a0:a=0
  ·subst a0
   have dv:Dn (yaw (d+1) [.ref p,.int n,.int (0:Nat)]) p h h ps ps 0 n:=Dn.val S g fun hh pp S' _ pr=>bk_0
   exact ⟨n,ps,h,m,f,l,dv.as S g (fun _ _ _ _ _=>rfl) (Nat.zero_le _),by rw [dp_0];exact T1,Int.le_refl _,.inr (Nat.le_refl _)⟩
  ·have ea : ¬ a=m.sg:=by lia
   rcases g.kind T1 with ⟨e1,e2,e3,e4,e5⟩ | ⟨_,_,mx,my,_,_,_,_,_,_,_,_,_,X,Y,_,e5,_⟩
   ·have lt:=yb9 x a
    obtain ⟨r,ps',h',d1,L⟩:=zbz S g (x:=dpS x a) (by
     unfold ybF
     rw [zir T1.ky.pl,lt]
     simp;lia) (by lia)
    exact ⟨r,ps',h',_,_,_,d1.as S g (fun hh pp S' _ pr=>zjH S' T1.n1 (zac pr T1.ms) (yaR pr e1) (by lia) a0 ea) (by lia),L,by show (0:Int)<=_;omega,.inl rfl⟩
   ·have hpos:0<m.ht:=by
     have:=congrArg Ms.ht e5
     rw [fmH] at this
     have:=X.ky.ht
     (clear e5 Y X ea a0 m0 sg hz hd ha T1 g S;omega)
    obtain ⟨c,e,mc,me,y1,y2,lc,fe,ep,C,E,rfl,em,w1,w2,w3⟩:=g.cut T1 hpos
    have hh:m.ht=max mc.ht me.ht+1:=by rw [em];rfl
    have c0:=C.ky.ht
    have e0:=E.ky.ht
    have sc:=C.ky.sg
    have se:=E.ky.sg
    have la:=zal y1 y2
    by_cases hl:mc.sg<=a
    ·obtain ⟨r,ps',h',m',f',l',d1,T',q1,q2⟩:=zdI d (n:=e) (a:=a-mc.sg) (x:=y2) S g E (by lia) (by lia) (by lia)
     refine ⟨r,ps',h',m',f',l',d1.as S g (fun hh pp S' _ pr=>bk_r S' T1.n1 (zac pr T1.ms) (zac pr C.ms) (yaR pr ep) a0 ea hl) (by lia),?_,by (clear q2 T' d1 hl la se sc e0 c0 w3 w2 w1 em sg ha T1 E C ep e5 Y X ea a0 m0 hz hd g S;lia),q2⟩
     rw [dp_r (by lia),<- sc]
     exact T'
    ·obtain ⟨r,ps1,h1,m1,f1,l1,d1,T',q1,q2⟩:=zdI d (n:=c) (a:=a) (x:=y1) S g C (by lia) (by lia) (by lia)
     have z1:=d1.dd.len
     have r0:=T'.ky.ht
     have lt:=yb9 y1 a
     have s1:=T'.ky.sg
     have most:=T1.ky.most
     have E' := E.pre d1.dd.pre
     have tr:dpS (y1++y2) a=dpS y1 a++y2:=dp_l (by lia)
     rw [tr]
     by_cases q:8<l1.sg+fe.sg
     ·obtain ⟨s,ps2,h2,m2,d2,T2,g1,g2⟩:=zgb d1.dd.sh d1.dd.gd T' E' q (by lia) (by (clear q tr E' most s1 lt q2 T' d1 hl la se sc e0 c0 w3 w2 em sg ha T1 E C ep e5 Y X ea a0 m0 hd g S;lia))
      exact ⟨s,ps2,h2,m2,f1,l,Dn.seq' S g d1 d2 (fun hh hh1 pp S' _ pr ev=>bk_l S' T1.n1 (zac pr T1.ms) (zac pr C.ms) (yaR pr ep) a0 ea hl ev) (ln_c c0 e0 r0 w1 w2 hh q1 g1),T2,by (clear g1 T2 d2 q tr E' most s1 r0 z1 T' d1 hl la se sc e0 c0 w3 em sg ha T1 E C ep e5 Y X ea a0 m0 hz hd g S;lia),.inr (Nat.le_refl _)⟩
     ·have z:m1.ht=0:=by
       rcases q2 with q2 | q2
       ·exact q2
       ·lia
      obtain ⟨s,ps2,h2,m2,f2,l2,d2,T2,g2,g1,g3,g4⟩:=zgc d1.dd.sh d1.dd.gd T' E' q (by lia) (by lia)
      rw [z] at d1 d2 g1 g2
      exact ⟨s,ps2,h2,m2,f2,l2,Dn.seq' S g d1 d2 (fun hh hh1 pp S' _ pr ev=>bk_l S' T1.n1 (zac pr T1.ms) (zac pr C.ms) (yaR pr ep) a0 ea hl ev) (ln_d c0 e0 hh g1),T2,by (clear g4 g3 g1 T2 d2 z q tr E' most s1 lt r0 z1 q2 q1 T' d1 hl la se sc c0 w3 w1 em sg ha T1 E C ep e5 Y X ea a0 m0 hz hd g S;lia),.inr g4⟩
end Sk
namespace Sk
open PySem PySem.Spec L2 Sm
theorem zjJ (c k:Int) (h:AH):∃ m,ybW [.int c,.int k] h = .ok (.int m) h:=by
 have b1:0<=(c % 1000000007+7919*k+101)*48271 % 2147483647:=Int.emod_nonneg _ (by decide)
 have b2:(c % 1000000007+7919*k+101)*48271 % 2147483647<2147483647:=Int.emod_lt_of_pos _ (by decide)
 refine ⟨(c % 1000000007+7919*k+101)*48271 % 2147483647*((c % 1000000007+7919*k+101)*48271 % 2147483647) % 2147483629*69621 % 2147483647,?_⟩
 generalize he:(c % 1000000007+7919*k+101)*48271 % 2147483647=v at *
 have c1:v.natAbs<18446744073709551616:=by lia
 simp [ybW,he,c1]
theorem yhh {i j:Int} {h:AH} (hi:i.natAbs<2 ^ 4000) (hj:j.natAbs<2 ^ 4000):fMul (.int i) (.int j) h = .ok (.int (i*j)) h:=if_pos (.inr ⟨hi,hj⟩)
theorem zdl (ns:List Int):yed (ns.map AV.int)=some ns:=by
 induction ns with
 | nil=>rfl
 | cons n r ih=>simp [ih]
abbrev T60:Int:=1000000000000000000000000000000000000000000000000000000000000000000000000000000000000000000000000000000000000000000000000
theorem yhi:(10:Nat) ^ 720<2 ^ 4000:=by decide +kernel
theorem yid:T60.natAbs<2 ^ 4000:=by decide +kernel
theorem zfj (ns:List Int) (k:Nat) (i:Nat) (c:Nat) (o:Option AV) (h:AH) (hi:i<6) (hc:c<10 ^ (120*i)) (hj:k+i*12<ns.length) :
  ∃ c':Nat,c'<10 ^ (120*(i+1))/\ybJ [some (.fl (ns.map AV.int)),some (.int k),some (.int c),some (.int ((k:Int)+i*12)),o] h = .nx [some (.fl (ns.map AV.int)),some (.int k),some (.int c'),some (.int ((k:Int)+i*12)),o] h:=by
 obtain ⟨s,es⟩:∃ s,ns[k+i*12]? = some s:=⟨ns[k+i*12],by simp [hj]⟩
 have ix:fIx (.fl (ns.map AV.int)) (.int ((k:Int)+i*12)) h = .ok (.int s) h:=by
  rw [show ((k:Int)+i*12)=((k+i*12:Nat):Int) by simp]
  simp only [fIx,zcV es]
 have p1:(10:Nat) ^ (120*i)<=10 ^ 720:=Nat.pow_le_pow_right (by decide) (by lia)
 have m1:((c:Int)).natAbs<2 ^ 4000:=by
  have:=yhi
  exact Nat.lt_trans (show c<10 ^ 720 by lia) this
 have mu:fMul (.int c) (.int T60) h = .ok (.int (c*T60)) h:=yhh m1 yid
 have r0:0<=s % T60:=Int.emod_nonneg _ (by decide)
 have r1:s % T60<T60:=Int.emod_lt_of_pos _ (by decide)
 obtain ⟨r,er⟩:∃ r:Nat,s % T60=(r:Int):=⟨(s % T60).toNat,(Int.toNat_of_nonneg r0).symm⟩
 have rl:r<10 ^ 120:=by
  have:(r:Int)<T60:=er▸r1
  have e:T60=((10 ^ 120:Nat):Int):=by decide +kernel
  rw [e] at this;exact Int.ofNat_lt.mp this
 obtain ⟨c',ec,lc⟩:∃ c':Nat,(c:Int)*T60+r=(c':Int)/\c'<10 ^ (120*(i+1)):=by
  refine ⟨c*10 ^ 120+r,?_,?_⟩
  ·have e:T60=((10 ^ 120:Nat):Int):=by decide +kernel
   rw [e,Int.natCast_add,Int.natCast_mul]
  ·rw [show 120*(i+1)=120*i+120 by lia,Nat.pow_add]
   have:(c+1)*10 ^ 120<=10 ^ (120*i)*10 ^ 120:=Nat.mul_le_mul_right _ hc
   have e2:(c+1)*10 ^ 120=c*10 ^ 120+10 ^ 120:=Nat.succ_mul _ _
   lia
 refine ⟨c',lc,?_⟩
 have pw:(sOp2 fMul (sOp2 fPow (sLit (.int 10)) (sLit (.int 60))) (sOp2 fPow (sLit (.int 10)) (sLit (.int 60)))) [some (.fl (ns.map AV.int)),some (.int k),some (.int c),some (.int ((k:Int)+i*12)),o] h = .ok (.int T60) h:=by simp
 have md:fMod (.int s) (.int T60) h = .ok (.int r) h:=by simp only [fMod];rw [if_pos (by decide),er]
 clear p1 m1 r0 r1 er rl hc lc hi
 unfold ybJ
 generalize sOp2 fMul (sOp2 fPow (sLit (.int 10)) (sLit (.int 60))) (sOp2 fPow (sLit (.int 10)) (sLit (.int 60)))=PW at *
 generalize T60=t60 at *
 simp [pw,mu,ix,md,ec,-fMul,-fIx,-fMod]
theorem zeR (en0:Option AV) (ns:List Int) (k c f j:Int) (h:AH):∃ f',ybK [some (.fl (ns.map AV.int)),some (.int k),some (.int c),some (.int j),some (.int f)] h = .nx [some (.fl (ns.map AV.int)),some (.int k),some (.int c),some (.int j),some (.int f')] h:=by
 obtain ⟨m,hm⟩:=zjJ (c+1009*k+ns.length) j h
 refine ⟨f*2147483647+m,?_⟩
 have m1:fMul (.int f) (.int 2147483647) h = .ok (.int (f*2147483647)) h:=ye5 (by decide)
 have m2:fMul (.int 1009) (.int k) h = .ok (.int (1009*k)) h:=yfJ (by decide)
 simp [ybK,hm,m1,m2,-fMul]
theorem zeS (ns:List Int) (hl:ns.length<=63) (k:Nat) (hk:k<=10) (h:AH):∃ N:Int,ybr [.fl (ns.map AV.int),.int k] h = .ok (.ref h.length) (h++[.lst [.int N]]):=by
 obtain ⟨M,eM⟩:∃ M:Nat,M=(if (k:Int)<(ns.length:Int) then ((ns.length:Int)-k-1) / 12+1 else 0).toNat:=⟨_,rfl⟩
 have hM:M<=6/\∀ i,i<M->k+i*12<ns.length:=by
  rw [eM]
  split
  ·refine ⟨by (clear eM hk;lia),fun i hi=>by (clear eM hk hl;omega)⟩
  ·refine ⟨by lia,fun i hi=>by simp at hi⟩
 obtain ⟨e1,h1,r1,r2⟩:=ycv (w:=none) (all:=(List.range M).map (fun m:Nat=>AV.int ((k:Int)+m*12))) (t:=.nm 3) (b:=ybJ) (xs:=(List.range M).map (fun m:Nat=>AV.int ((k:Int)+m*12))) (en:=[some (.fl (ns.map AV.int)),some (.int k),some (.int 0),none,none]) (h:=h)
  (fun i en h' => h'=h/\∃ (c:Nat) (o:Option AV),c<10 ^ (120*i)/\en=[some (.fl (ns.map AV.int)),some (.int k),some (.int c),o,none]) ⟨rfl,0,none,by decide,rfl⟩ (fun _ _ _ _=>rfl) (by
   rintro j x en h' hx ⟨rfl,c,o,hc,rfl⟩
   rw [List.getElem?_map] at hx
   obtain ⟨m,em,rfl⟩:=Option.map_eq_some_iff.mp hx
   have hj:j<M:=by
    have:=(List.getElem?_eq_some_iff.mp em).1;simpa using this
   rw [List.getElem?_range hj] at em
   cases em
   obtain ⟨c',l',e⟩:=zfj ns k j c none h' (by have:=hM.1;(clear this hx hc eM hk hl;lia)) hc (hM.2 j hj)
   show thn (ybJ [some (.fl (ns.map AV.int)),some (.int k),some (.int c),some (.int ((k:Int)+j*12)),none] h') _
   rw [e]
   exact ⟨rfl,c',_,l',rfl⟩)
 obtain ⟨rfl,c,o,hc,rfl⟩:=r2
 have z1:(k:Int).natAbs<1099511627776:=by (clear r1 hc hM eM hl;omega)
 have z2:((ns.length:Nat):Int).natAbs<1099511627776:=by (clear z1 r1 hc hM eM hk;omega)
 have it3:yct (sVar 1) (yae fLen (yab (sVar 0) sNil)) (sLit (.int 12)) [some (.fl (ns.map AV.int)),some (.int k),some (.int 0),none,none] h1 = .ok ((List.range M).map (fun m:Nat=>AV.int ((k:Int)+m*12)),none) h1:=by
  simp only [yct,sVar,yae,yab,sNil,sLit,Out.bind,fLen,List.getElem?_cons_zero,List.getElem?_cons_succ,lenA]
  rw [if_pos ⟨z1,z2,by decide,by decide⟩,<- eM]
 have f1:=(yb2 (t:=.nm 3) (b:=ybJ) it3).trans r1
 clear r1 it3
 by_cases hb:(1000000000000000000:Int)<=c
 ·exact ⟨c,by simp [ybr,f1,hb,-sFor]⟩
 ·have cm:=zii (js:=[]) (en:=[some (.fl (ns.map AV.int)),some (.int k),some (.int c),o,none]) (w:=none) (all:=ns.map AV.int) (e:=sOp2 fMod (sVar 0) (sOp2 fPow (sLit (.int 10)) (sLit (.int 18)))) (g:=AV.int) (f:=fun i=>AV.int (i % 1000000000000000000)) (h:=h1) rfl ns [] (by intro i _;simp) (by
    simp only [List.length_nil];exact Nat.le_trans (show 0+ns.length<=63 by lia) (by decide))
  have im:(ns.map fun i=>AV.int (i % 1000000000000000000))=(ns.map fun i=>i % 1000000000000000000).map AV.int:=by simp
  obtain ⟨S,eS⟩:∃ S:Int,S=(ns.map fun i=>i % 1000000000000000000).sum:=⟨_,rfl⟩
  have sm:fSum [.fl (ns.map fun i=>AV.int (i % 1000000000000000000))] h1 = .ok (.int S) h1:=by
   rw [im,eS];simp only [fSum,zdl]
  obtain ⟨e2,h2,s1,s2⟩:=ycv (w:=none) (all:=yaX 0 12) (t:=.nm 3) (b:=ybK) (xs:=yaX 0 12) (en:=[some (.fl (ns.map AV.int)),some (.int k),some (.int (c+S)),o,some (.int 0)]) (h:=h1)
   (fun i en h' => h'=h1/\∃ (f:Int) (o:Option AV),en=[some (.fl (ns.map AV.int)),some (.int k),some (.int (c+S)),o,some (.int f)]) ⟨rfl,0,o,rfl⟩ (fun _ _ _ _=>rfl) (by
    rintro j x en h' hx ⟨rfl,f,o,rfl⟩
    rw [zbc] at hx
    by_cases q:j<12
    ·rw [if_pos q] at hx
     cases hx
     obtain ⟨f',e⟩:=zeR none ns k (c+S) f (0+(j:Int)) h'
     show thn (ybK [some (.fl (ns.map AV.int)),some (.int k),some (.int (c+S)),some (.int (0+(j:Int))),some (.int f)] h') _
     rw [e]
     exact ⟨rfl,f',_,rfl⟩
    ·rw [if_neg q] at hx;cases hx)
  obtain ⟨rfl,f,o',rfl⟩:=s2
  have f2:=(yb2 (t:=.nm 3) (b:=ybK) (zbd (a:=sLit (.int 12)) (en:=[some (.fl (ns.map AV.int)),some (.int k),some (.int (c+S)),o,some (.int 0)]) (h:=h2) (n:=12) rfl (by decide))).trans s1
  refine ⟨f,?_⟩
  simp at cm
  simp [ybr,f1,hb,cm,sm,f2,-sFor,-fSum]
theorem zdJ {h:AH} {st:Nat} {n:Int} (m:Nat) (e:h[st]? = some (.lst [.int n])) (hm:0<m) (hm2:m<=10 ^ 50):∃ v:Nat,v<m/\yau [.ref st,.int m] h = .ok (.int v) (h.set st (.lst [.int (n / m)])):=by
 have a0:atI [AV.int n] 0=some (.int n):=rfl
 have i0:ixN 1 0=some 0:=rfl
 have hm0:(0:Int)<m:=Int.ofNat_lt.mpr hm
 have hm3:m<1606938044258990275541962092341162602522202993782792835301376:=Nat.lt_of_le_of_lt hm2 (by decide)
 refine ⟨(n % m).toNat,?_,?_⟩
 ·have:=Int.emod_lt_of_pos n hm0;have:=Int.emod_nonneg n (show (m:Int)≠0 by lia);lia
 ·rw [Int.toNat_of_nonneg (Int.emod_nonneg n (show (m:Int)≠0 by lia))]
  simp [yau,e,a0,hm0,hm,hm3,i0]
theorem zis {x:Str} {v:Nat} (hv:v<x.length) (hx:yaE x=true) (h:AH):∃ c,ydS c=true/\fIx (.str x) (.int v) h = .ok (.str ⟨#[c]⟩) h:=by
 have hv':v<x.cps.toList.length:=by rw [<- zad];exact hv
 refine ⟨x.cps.toList[v],List.all_eq_true.mp hx _ (List.getElem_mem hv'),?_⟩
 have e:x.cps.toList[v]? = some x.cps.toList[v]:=List.getElem?_eq_getElem hv'
 simp only [fIx,zdw e]
theorem za5 {hh:AH} {L:Nat} {N:Int} (m:Nat) (e:hh[L]? = some (.lst [.int N])) (hm:0<m) (hm2:m<=10 ^ 50):∃ (v:Nat) (N':Int),v<m/\yau [.ref L,.int m] hh = .ok (.int v) (hh.set L (.lst [.int N'])):=by
 obtain ⟨v,hv,e1⟩:=zdJ m e hm hm2
 exact ⟨v,N / m,hv,e1⟩
theorem zgE {y:Str} {c:Nat} (hy:yaE y=true) (hc:ydS c=true):yaE (y++⟨#[c]⟩)=true/\(y++(⟨#[c]⟩:Str)).length=y.length+1:=by
 refine ⟨?_,by rw [zal];rfl⟩
 rw [zaH,hy]
 simp [yaE,hc]
def lowS:Str := "abcdefghijklmnopqrstuvwxyz"
def upS:Str := "ABCDEFGHIJKLMNOPQRSTUVWXYZ"
def restS:Str := " !#$&'()*+,-./0123456789:;<=>?\x40[]^_{|}~\n\\"
def sg46:List Str:=["a", "ab", "ab\n", "a \n~",(lowS++upS)++restS]
theorem zbA:∀ x∈sg46,yaE x=true/\1<=x.length/\x.length<=200:=by decide +kernel
theorem yfQ:Txt.upper lowS=upS:=by decide +kernel
theorem mup (h:AH):yeF (.str lowS) [] h = .ok (.str upS) h:=by
 have c:(Txt.upper lowS).length<=sizeLine/\(Txt.upper lowS).cps.all (· < 0x110000)=true:=by rw [yfQ];decide +kernel
 show (if (Txt.upper lowS).length<=sizeLine/\(Txt.upper lowS).cps.all (· < 0x110000)=true then Out.ok (AV.str (Txt.upper lowS)) h else .bad)=_
 rw [if_pos c,yfQ]
theorem yhj (v:Nat) (hv:v<5):∃ z:Str,(∀ h,fIx (.fl [.str "a",.str "ab",.str "ab\n",.str "a \n~",.str ((lowS++upS)++restS)]) (.int (v:Int)) h = .ok (.str z) h)/\yaE z=true/\1<=z.length/\z.length<=200:=by
 have:v=0\/v=1\/v=2\/v=3\/v=4:=by lia
 rcases this with rfl | rfl | rfl | rfl | rfl
 ·exact ⟨_,fun _=>rfl,zbA _ (by simp [sg46])⟩
 ·exact ⟨_,fun _=>rfl,zbA _ (by simp [sg46])⟩
 ·exact ⟨_,fun _=>rfl,zbA _ (by simp [sg46])⟩
 ·exact ⟨_,fun _=>rfl,zbA _ (by simp [sg46])⟩
 ·exact ⟨_,fun _=>rfl,zbA _ (by simp [sg46])⟩
theorem zhu {hh:AH} {L:Nat} {N:Int} (most:Nat) (hm:most<=1000) (e:hh[L]? = some (.lst [.int N])):∃ (y:Str) (N':Int),ycA [.ref L,.int most] hh = .ok (.str y) (hh.set L (.lst [.int N']))/\yaE y=true/\y.length<=most:=by
 have Ll:=yaP e
 obtain ⟨v,N1,hv,t1⟩:=za5 5 e (by decide) (by decide)
 have t1':yau [.ref L,.int 5] hh = .ok (.int v) (hh.set L (.lst [.int N1])):=t1
 obtain ⟨z,ez,pz,z1,z2⟩:=yhj v hv
 have e1:(hh.set L (.lst [.int N1]))[L]? = some (.lst [.int N1]):=List.getElem?_set_self Ll
 obtain ⟨k,N2,hk,t2⟩:=za5 (most+1) e1 (Nat.succ_pos _) (Nat.le_trans (Nat.succ_le_succ hm) (by decide))
 rw [List.set_set] at t2
 have t2':yau [.ref L,.int ((most:Int)+1)] (hh.set L (.lst [.int N1])) = .ok (.int k) (hh.set L (.lst [.int N2])):=by
  have:=t2;rw [Int.natCast_succ] at this;exact this
 obtain ⟨W3,eW3⟩:∃ W3:Str,W3=(lowS++upS)++restS:=⟨_,rfl⟩
 rw [<- eW3] at ez
 obtain ⟨e',h',r1,y,N3,o4,r2,r3,r4,r5⟩:=ycv (w:=none) (all:=yaX 0 k) (t:=.nm 6) (b:=ybB) (xs:=yaX 0 k) (en:=[some (.ref L),some (.int most),some (.str lowS),some (.str W3),some (.str z),some (.str ""),none]) (h:=hh.set L (.lst [.int N2]))
  (fun j en h' => ∃ (y:Str) (N':Int) (o4:Option AV),en=[some (.ref L),some (.int most),some (.str lowS),some (.str W3),some (.str z),some (.str y),o4]/\h'=hh.set L (.lst [.int N'])/\yaE y=true/\y.length=j) ⟨"",N2,none,rfl,rfl,rfl,rfl⟩ (fun _ _ _ _=>rfl) (by
   rintro j u en h' hu ⟨y,N',o4,rfl,rfl,py,ly⟩
   have jk:j<k:=by have:=(List.getElem?_eq_some_iff.mp hu).1;rwa [zaX] at this
   have e3:(hh.set L (.lst [.int N']))[L]? = some (.lst [.int N']):=List.getElem?_set_self Ll
   obtain ⟨t,N4,ht,et⟩:=za5 z.length e3 (by lia) (Nat.le_trans z2 (by decide))
   rw [List.set_set] at et
   obtain ⟨c,pc,ec⟩:=zis ht pz (hh.set L (.lst [.int N4]))
   have ad:fAdd (.str y) (.str ⟨#[c]⟩) (hh.set L (.lst [.int N4])) = .ok (.str (y++⟨#[c]⟩)) (hh.set L (.lst [.int N4])):=by
    have:y.length+(⟨#[c]⟩:Str).length<=sizeLine:=Nat.le_trans (m:=1001) (by show y.length+1<=_;lia) (by decide)
    simp only [fAdd,this,if_true]
   have es:ybB [some (.ref L),some (.int most),some (.str lowS),some (.str W3),some (.str z),some (.str y),some u] (hh.set L (.lst [.int N'])) = .nx [some (.ref L),some (.int most),some (.str lowS),some (.str W3),some (.str z),some (.str (y++⟨#[c]⟩)),some u] (hh.set L (.lst [.int N4])):=by
    generalize hh.set L (.lst [.int N4])=h2 at *
    generalize hh.set L (.lst [.int N'])=h1 at *
    simp [ybB,et,ec,ad,-fIx,-fAdd]
   show thn (ybB [some (.ref L),some (.int most),some (.str lowS),some (.str W3),some (.str z),some (.str y),some u] (hh.set L (.lst [.int N']))) _
   rw [es]
   obtain ⟨q1,q2⟩:=zgE py pc
   exact ⟨_,N4,_,rfl,rfl,q1,by rw [q2,ly]⟩)
 rw [zaX] at r5
 have f1:=(yb2 (t:=.nm 6) (b:=ybB) (zbd (a:=yae yau (yab (sVar 0) (yab (sOp2 fAdd (sVar 1) (sLit (.int 1))) sNil))) (en:=[some (.ref L),some (.int most),some (.str lowS),some (.str W3),some (.str z),some (.str ""),none]) (h:=hh.set L (.lst [.int N1])) (n:=k) (by simp [t2']) (by lia))).trans r1
 refine ⟨y,N3,?_,r4,by lia⟩
 rw [<- r3]
 subst r2
 have a1:fAdd (.str lowS) (.str upS) hh = .ok (.str (lowS++upS)) hh:=by
  have:lowS.length+upS.length<=sizeLine:=by decide +kernel
  simp only [fAdd,this,if_true]
 have a2:fAdd (.str (lowS++upS)) (.str restS) hh = .ok (.str W3) hh:=by
  have:(lowS++upS).length+restS.length<=sizeLine:=by decide +kernel
  rw [eW3]
  simp only [fAdd,this,if_true]
 have mu:=mup hh
 have el:Str.ofString "abcdefghijklmnopqrstuvwxyz" = lowS:=rfl
 have er:Str.ofString " !#$&'()*+,-./0123456789:;<=>?\x40[]^_{|}~\n\\" = restS:=rfl
 unfold ycA
 rw [el,er]
 generalize sFor (ybT (yae yau (yab (sVar 0) (yab (sOp2 fAdd (sVar 1) (sLit (.int 1))) sNil)))) (.nm 6) ybB=F1 at *
 generalize hh.set L (.lst [.int N1])=h1 at *
 generalize lowS=LO at *
 generalize upS=UP at *
 generalize restS=RS at *
 generalize LO++UP=LU at *
 simp [mu,a1,a2,t1',ez,f1,-fAdd,-fIx]
end Sk
namespace Sk
open PySem PySem.Spec L2 Sm
abbrev yaL (s:Nat×Nat):AV:=.tup [.int s.1,.int s.2]
def clip (b e:Nat) (z:List Nat) (s:Nat):List Nat:=(z.take (e-s)).drop (b-s)
theorem zc3 (b e s:Nat) (y z:List Nat):clip b e (y++z) s=clip b e y s++clip b e z (s+y.length):=by
 unfold clip
 rw [List.take_append,List.drop_append,List.length_take]
 congr 1
 by_cases q:e-s<y.length
 ·rw [show e-s-y.length=0 by omega,show e-(s+y.length)=0 by omega];simp
 ·rw [Nat.min_eq_right (Nat.le_of_not_lt q),Nat.sub_sub,Nat.sub_sub]
theorem zhv {b e s:Nat} {z:List Nat} (h:e<=s\/s+z.length<=b):clip b e z s=[]:=by
 unfold clip
 rcases h with h | h
 ·rw [Nat.sub_eq_zero_of_le h];simp
 ·apply List.drop_of_length_le
  rw [List.length_take]
  exact Nat.le_trans (Nat.min_le_right _ _) (Nat.le_sub_of_add_le (by rw [Nat.add_comm];exact h))
theorem zeT {b e s:Nat} {z:List Nat} (h1:s<e) (h2:b<s+z.length) (be:b<e) (hz:1<=z.length):1<=(clip b e z s).length:=by
 unfold clip
 rw [List.length_drop,List.length_take]
 omega
def hnOf (ps:List Pc) (n:Nat):Nat:=((meas ps).getD n ms0).ht.toNat
def ptOf (b e:Nat) (z:List Nat) (s H:Nat):Nat:=if e<=s\/s+z.length<=b then 1 else 2*(max (clip b e z s).length 1*(H+1))+1
theorem yee (b e:Nat) (z:List Nat) (s H:Nat):1<=ptOf b e z s H:=by
 unfold ptOf
 split
 ·exact Nat.le_refl _
 ·exact Nat.le_add_left _ _
theorem yga {A B h H:Nat} (ab:A<=B) (hh:h+1<=H) (b1:1<=B):2*(A*(h+1))+1+1<2*(B*(H+1))+1:=by
 have q1:A*(h+1)<=B*H:=Nat.mul_le_mul ab hh
 have q2:B*(H+1)=B*H+B:=Nat.mul_succ B H
 lia
theorem yie {A B C h g H:Nat} (ab:A+B<=C) (hh:h+1<=H) (gg:g+1<=H) (b1:1<=C):2*(A*(h+1))+1+(2*(B*(g+1))+1)<2*(C*(H+1))+1:=by
 have q1:A*(h+1)<=A*H:=Nat.mul_le_mul_left A hh
 have q3:B*(g+1)<=B*H:=Nat.mul_le_mul_left B gg
 have q4:(A+B)*H<=C*H:=Nat.mul_le_mul_right H ab
 have q5:(A+B)*H=A*H+B*H:=Nat.add_mul A B H
 have q2:C*(H+1)=C*H+C:=Nat.mul_succ C H
 lia
theorem zjK {b e s h g H:Nat} {y z:List Nat} (hy:1<=y.length) (hz:1<=z.length) (n : ¬ (e<=s\/s+(y++z).length<=b)) (hh:h+1<=H) (gg:g+1<=H) (be:b<=e):ptOf b e y s h+ptOf b e z (s+y.length) g<ptOf b e (y++z) s H:=by
 have ca:=congrArg List.length (zc3 b e s y z)
 rw [List.length_append] at ca
 unfold ptOf
 rw [if_neg n]
 generalize hX:(clip b e (y++z) s).length=X at *
 have m1:1<=max X 1:=Nat.le_max_right _ _
 by_cases sy:e<=s\/s+y.length<=b
 ·rw [if_pos sy]
  by_cases sz:e<=s+y.length\/s+y.length+z.length<=b
  ·rw [if_pos sz]
   have:1<=max X 1*(H+1):=Nat.mul_pos m1 (Nat.succ_pos H)
   lia
  ·rw [if_neg sz]
   have:=yga (A:=max (clip b e z (s+y.length)).length 1) (B:=max X 1) (h:=g) (H:=H) (by lia) gg m1
   lia
 ·rw [if_neg sy]
  by_cases sz:e<=s+y.length\/s+y.length+z.length<=b
  ·rw [if_pos sz]
   exact yga (by lia) hh m1
  ·rw [if_neg sz]
   have c1:=zeT (b:=b) (e:=e) (s:=s) (z:=y) (by lia) (by lia) (by lia) hy
   have c2:=zeT (b:=b) (e:=e) (s:=s+y.length) (z:=z) (by lia) (by lia) (by lia) hz
   exact yie (by lia) hh gg m1
inductive Stk (ps:List Pc) (b e:Nat):List (Nat×Nat)->List Nat->Nat->Prop
 | nil:Stk ps b e [] [] 0
 | cons {n s:Nat} {x:Str} {st:List (Nat×Nat)} {r:List Nat} {k:Nat}:TxZ ps n x->(0<x.length\/s=0)->Stk ps b e st r k->Stk ps b e ((n,s)::st) (clip b e x.cps.toList s++r) (ptOf b e x.cps.toList s (hnOf ps n)+k)
theorem Stk.len {ps:List Pc} {b e:Nat} {st:List (Nat×Nat)} {r:List Nat} {k:Nat} (t:Stk ps b e st r k):st.length<=k:=by
 induction t with
 | nil=>exact Nat.le_refl _
 | @cons n s x st r k _ _ _ ih =>
  have:=yee b e x.cps.toList s (hnOf ps n)
  rw [List.length_cons];lia
theorem yem {ps:List Pc} {n:Nat} {m:Ms} (e:(meas ps)[n]? = some m):hnOf ps n=m.ht.toNat:=by unfold hnOf;rw [zaU e]
theorem zeb (h:AH):∀ st:List (Nat×Nat),toDs (toD 7 h) (st.map yaL)=some (st.map fun s=>PyData.tuple [.int (s.1:Int),.int (s.2:Int)])
 | []=>rfl
 | s::st=>by
  rw [List.map_cons,List.map_cons]
  show (match toD 7 h (yaL s),toDs (toD 7 h) (st.map yaL) with | some d,some ds=>some (d::ds) | _,_=>none)=_
  rw [zeb h st];rfl
theorem zjL {h:AH} {L:Nat} {st:List (Nat×Nat)} (e:h[L]? = some (.lst (st.map yaL))):fNe (.ref L) (.fl []) h = .ok (.bl (!st.isEmpty)) h:=by
 have t:toD 8 h (.ref L)=some (.list (st.map fun s=>PyData.tuple [.int (s.1:Int),.int (s.2:Int)])):=by
  show (match h[L]? with | some (.lst xs)=>(toDs (toD 7 h) xs).map PyData.list | _=>none)=_
  rw [e]
  show (toDs (toD 7 h) (st.map yaL)).map PyData.list=_
  rw [zeb];rfl
 have q:eqA (.ref L) (.fl []) h=some st.isEmpty:=by
  show (match toD 8 h (.ref L),toD 8 h (.fl []) with | some d,some e=>some (PyData.eqv d e) | _,_=>none)=_
  rw [t]
  show some (PyData.eqv (.list _) (.list []))=_
  cases st with
  | nil=>simp [PyData.eqv,PyData.eqvAll]
  | cons a b=>simp [PyData.eqv,PyData.eqvAll]
 show (match eqA (.ref L) (.fl []) h with | some b=>Out.ok (AV.bl (!b)) h | none=>Out.bad)=_
 rw [q]
theorem zit {b e s:Nat} {y:Str} (hs:s<e):(cutS y (some (((b-s:Nat)):Int)) (some ((e-s:Nat):Int))).cps.toList=clip b e y.cps.toList s:=by
 simp only [cutS,HT.sIx_nat,clip]
 rw [List.drop_take]
 generalize y.cps.toList=l
 apply List.ext_getElem?
 intro i
 simp only [List.getElem?_take,List.getElem?_drop]
 by_cases c:i<e-s-(b-s)
 ·by_cases d:b-s<=l.length
  ·rw [Nat.min_eq_left d,if_pos c]
   by_cases f:e-s<=l.length
   ·rw [Nat.min_eq_left f,if_pos c]
   ·rw [Nat.min_eq_right (Nat.le_of_not_le f)]
    by_cases g:i<l.length-(b-s)
    ·rw [if_pos g]
    ·rw [if_neg g,List.getElem?_eq_none (by (clear f d c hs;lia))]
  ·have:min (e-s) l.length-min (b-s) l.length=0:=by (clear c hs;lia)
   rw [this,if_neg (Nat.not_lt_zero _),if_pos c,List.getElem?_eq_none (by lia)]
 ·have : ¬ i<min (e-s) l.length-min (b-s) l.length:=by lia
  rw [if_neg c,if_neg this]
abbrev sbEn (p:Nat) (o1:Option AV) (b e L1 L2:Nat) (o6 o7 o8 o9:Option AV):En:=[some (.ref p),o1,some (.int b),some (.int e),some (.ref L1),some (.ref L2),o6,o7,o8,o9]
theorem zdK {h:AH} {p:Nat} {ps:List Pc} (S:ShelfAt h p ps) {L:Nat} (hL:p+8<L) (o:AO):ShelfAt (h.set L o) p ps :=
 S.keep fun i _ b=>List.getElem?_set_ne (Nat.ne_of_gt (Nat.lt_of_le_of_lt b hL))
theorem zjM {h:AH} {p:Nat} {ps:List Pc} (S:ShelfAt h p ps) {n s b e L1 L2:Nat} {m:Ms} (em:(meas ps)[n]? = some m) (h2:p+8<L2) {ys:List AV} (e2:h[L2]? = some (.lst (ys++[yaL (n,s)]))) (c:e<=s\/s+m.sg<=b) (o1 o6 o7 o8 o9:Option AV) :
  ∃ o6' o7' o8',yaN (sbEn p o1 b e L1 L2 o6 o7 o8 o9) h = .ct (sbEn p o1 b e L1 L2 o6' o7' o8' o9) (h.set L2 (.lst ys)):=by
 have S' := zdK S h2 (.lst ys)
 have fs:=zai S' em
 have ob:=S'.ob
 have i0:∀ h,fIx (yaL (n,s)) (.int 0) h=Out.ok (.int n) h:=fun h=>rfl
 have i1:∀ h,fIx (yaL (n,s)) (.int 1) h=Out.ok (.int s) h:=fun h=>rfl
 have pp:mPop (.ref L2) [] h = .ok (yaL (n,s)) (h.set L2 (.lst ys)):=by
  simp only [mPop,e2]
  simp
 have ls:yax (.ref L2) h=true:=by simp only [yax,ybw,e2];rfl
 refine ⟨some (yaL (n,s)),some (.int n),some (.int s),?_⟩
 generalize yaL (n,s)=W at *
 generalize h.set L2 (.lst ys)=h' at *
 by_cases c1:(e:Int)<=s
 ·simp [yaN,pp,ls,i0,i1,c1,-fIx,-mPop,-yax]
 ·have c2:(s:Int)+m.sg<=b:=by lia
  simp [yaN,pp,ls,i0,i1,c1,c2,ob,fs,-fIx,-mPop,-yax]
theorem zjN {h:AH} {p:Nat} {ps:List Pc} (S:ShelfAt h p ps) {n s b e L1 L2:Nat} {y:Str} {m:Ms} (em:(meas ps)[n]? = some m) (n1:1<=n) (ey:ps[n-1]? = some (.leaf y)) (h1:p+8<L1) (h2:p+8<L2) (h12:L1≠L2) {ys fs:List AV} (e1:h[L1]? = some (.lst fs)) (e2:h[L2]? = some (.lst (ys++[yaL (n,s)]))) (c1:s<e) (c2:b<s+m.sg) (hf:fs.length<16000000) (o1 o6 o7 o8 o9:Option AV) :
  ∃ o6' o7' o8' o9',yaN (sbEn p o1 b e L1 L2 o6 o7 o8 o9) h = .nx (sbEn p o1 b e L1 L2 o6' o7' o8' o9') ((h.set L2 (.lst ys)).set L1 (.lst (fs++[.str (cutS y (some ((b-s:Nat):Int)) (some ((e-s:Nat):Int)))]))):=by
 have S' := zdK S h2 (.lst ys)
 have fg:=zai S' em
 have fp:=zbN S' n1 ey
 have ob:=S'.ob
 have i0:∀ h,fIx (yaL (n,s)) (.int 0) h=Out.ok (.int n) h:=fun h=>rfl
 have i1:∀ h,fIx (yaL (n,s)) (.int 1) h=Out.ok (.int s) h:=fun h=>rfl
 have j0:∀ h,fIx (Pc.leaf y).av (.int 0) h=Out.ok (.str "leaf") h:=fun h=>rfl
 have j1:∀ h,fIx (Pc.leaf y).av (.int 1) h=Out.ok (.str y) h:=fun h=>rfl
 have pp:mPop (.ref L2) [] h = .ok (yaL (n,s)) (h.set L2 (.lst ys)):=by
  simp only [mPop,e2]
  simp
 have ls:yax (.ref L2) h=true:=by simp only [yax,ybw,e2];rfl
 have e1':(h.set L2 (.lst ys))[L1]? = some (.lst fs):=by rw [List.getElem?_set_ne (Ne.symm h12)];exact e1
 have fl:fs.length<sizeLine:=Nat.lt_trans hf (by decide)
 have ls1:yax (.ref L1) (h.set L2 (.lst ys))=true:=by simp only [yax,ybw,e1'];rfl
 have d1 : ¬ (e:Int)<=s:=by lia
 have d2 : ¬ (s:Int)+m.sg<=b:=by lia
 have mx:∀ h,ybG [.int ((b:Int)-s),.int 0] h = .ok (.int ((b-s:Nat):Int)) h:=fun h=>by
  simp
  lia
 have es:(e:Int)-s=((e-s:Nat):Int):=by lia
 refine ⟨some (yaL (n,s)),some (.int n),some (.int s),some (Pc.leaf y).av,?_⟩
 generalize yaL (n,s)=W at *
 generalize (Pc.leaf y).av=V at *
 generalize h.set L2 (.lst ys)=h' at *
 simp [yaN,pp,ls,i0,i1,d1,d2,ob,fg,fp,j0,j1,mx,es,e1',fl,ls1,-fIx,-mPop,-yax,-ybG]
theorem zjO {h:AH} {p:Nat} {ps:List Pc} (S:ShelfAt h p ps) {n s b e L1 L2 c d:Nat} {m mc:Ms} (em:(meas ps)[n]? = some m) (n1:1<=n) (ey:ps[n-1]? = some (.fork c d)) (ec:(meas ps)[c]? = some mc) (h1:p+8<L1) (h2:p+8<L2) {ys:List AV} (e2:h[L2]? = some (.lst (ys++[yaL (n,s)]))) (c1:s<e) (c2:b<s+m.sg) (hf:ys.length<16000000) (o1 o6 o7 o8 o9:Option AV) :
  ∃ o6' o7' o8' o9',yaN (sbEn p o1 b e L1 L2 o6 o7 o8 o9) h = .nx (sbEn p o1 b e L1 L2 o6' o7' o8' o9') (h.set L2 (.lst (ys++[yaL (d,s+mc.sg)]++[yaL (c,s)]))):=by
 have S' := zdK S h2 (.lst ys)
 have fg:=zai S' em
 have fp:=zbN S' n1 ey
 have fc:=zai S' ec
 have ob:=S'.ob
 have bl:=yaP e2
 have i0:∀ h,fIx (yaL (n,s)) (.int 0) h=Out.ok (.int n) h:=fun h=>rfl
 have i1:∀ h,fIx (yaL (n,s)) (.int 1) h=Out.ok (.int s) h:=fun h=>rfl
 have j0:∀ h,fIx (Pc.fork c d).av (.int 0) h=Out.ok (.str "fork") h:=fun h=>rfl
 have j1:∀ h,fIx (Pc.fork c d).av (.int 1) h=Out.ok (.int c) h:=fun h=>rfl
 have j2:∀ h,fIx (Pc.fork c d).av (.int 2) h=Out.ok (.int d) h:=fun h=>rfl
 have pp:mPop (.ref L2) [] h = .ok (yaL (n,s)) (h.set L2 (.lst ys)):=by
  simp only [mPop,e2]
  simp
 have ls:yax (.ref L2) h=true:=by simp only [yax,ybw,e2];rfl
 have nf:(Str.ofString "fork")≠(Str.ofString "leaf"):=by decide +kernel
 have g0:(h.set L2 (.lst ys))[L2]? = some (.lst ys):=List.getElem?_set_self bl
 have g1:((h.set L2 (.lst ys)).set L2 (.lst (ys++[yaL (d,s+mc.sg)])))[L2]? = some (.lst (ys++[yaL (d,s+mc.sg)])):=List.getElem?_set_self (by simpa using bl)
 have l0:ys.length<sizeLine:=Nat.lt_trans hf (by decide)
 have l1:ys.length+1<sizeLine:=Nat.lt_of_le_of_lt (Nat.succ_le_of_lt hf) (by decide)
 have d1 : ¬ (e:Int)<=s:=by lia
 have d2 : ¬ (s:Int)+m.sg<=b:=by lia
 have sv:AV.tup [.int d,.int ((s:Int)+mc.sg)]=yaL (d,s+mc.sg):=by simp [yaL]
 have sw:AV.tup [.int c,.int (s:Int)]=yaL (c,s):=rfl
 have ss:∀ o o',(h.set L2 o).set L2 o'=h.set L2 o' := fun o o' => by simp
 refine ⟨some (yaL (n,s)),some (.int n),some (.int s),some (Pc.fork c d).av,?_⟩
 have ap1:yaA (.ref L2) [yaL (d,s+mc.sg)] (h.set L2 (.lst ys)) = .ok .non (h.set L2 (.lst (ys++[yaL (d,s+mc.sg)]))):=by
  simp only [yaA,g0,l0,if_true,ss]
 rw [ss] at g1
 have ap2:yaA (.ref L2) [yaL (c,s)] (h.set L2 (.lst (ys++[yaL (d,s+mc.sg)]))) = .ok .non (h.set L2 (.lst (ys++[yaL (d,s+mc.sg)]++[yaL (c,s)]))):=by
  simp only [yaA,g1,List.length_append,List.length_cons,List.length_nil,Nat.zero_add,l1,if_true,ss]
 have is0:yax (.ref L2) (h.set L2 (.lst ys))=true:=by simp only [yax,ybw,g0];rfl
 have is1:yax (.ref L2) (h.set L2 (.lst (ys++[yaL (d,s+mc.sg)])))=true:=by simp only [yax,ybw,g1];rfl
 generalize yaL (n,s)=W at *
 generalize (Pc.fork c d).av=V at *
 generalize h.set L2 (.lst (ys++[yaL (d,s+mc.sg)]++[yaL (c,s)]))=h3 at *
 generalize h.set L2 (.lst (ys++[yaL (d,s+mc.sg)]))=h2 at *
 generalize h.set L2 (.lst ys)=h' at *
 simp [yaN,pp,ls,i0,i1,d1,d2,ob,fg,fp,fc,j0,j1,j2,nf,sv,sw,is0,is1,ap1,ap2,-fIx,-mPop,-yax,-yaA]
end Sk
namespace Sk
open PySem PySem.Spec L2 Sm
theorem TxZ.ne0 {ps:List Pc} {n:Nat} {y:Str} (t:TxZ ps n y) (h:0<y.length):∃ m f l,Tx ps n m y f l:=by
 rcases t with ⟨_,rfl⟩ | t
 ·exact absurd h (by decide)
 ·exact t
theorem zeU:∀ fs:List Str,ydP (fs.map AV.str)=some fs
 | []=>rfl
 | f::fs=>by simp [zeU fs]
theorem zc4 (b e s:Nat) (z:List Nat):(clip b e z s).length<=e-b:=by
 unfold clip
 rw [List.length_drop,List.length_take]
 lia
theorem zhw {h:AH} {p:Nat} {ps:List Pc} (S:ShelfAt h p ps) (g:Good ps) {n b e:Nat} {x:Str} (t:TxZ ps n x) (be:b<=e) (w:e-b<=10000) :
  ∃ (z:Str) (r:AH),yce [.ref p,.int n,.int b,.int e] h = .ok (.str z) (h++r)/\z.cps.toList=clip b e x.cps.toList 0:=by
 have b8:=yaP S.h8
 obtain ⟨K0,eK⟩:∃ K0,K0=ptOf b e x.cps.toList 0 (hnOf ps n):=⟨_,rfl⟩
 have hK:K0<=5000000:=by
  have cl:=zc4 b e 0 x.cps.toList
  have hh:hnOf ps n<=200:=by
   rcases t with ⟨rfl,_⟩ | ⟨m,f,l,T⟩
   ·rw [yem (zbe ps)];decide
   ·rw [yem T.ms];exact zim g T
  rw [eK];unfold ptOf
  split
  ·decide
  ·have:max (clip b e x.cps.toList 0).length 1*(hnOf ps n+1)<=10000*201:=Nat.mul_le_mul (by (clear hh eK b8 be t g S;lia)) (by lia)
   lia
 obtain ⟨e',h',q1,fs,q2,o6,o7,o8,o9,q3,q4⟩:=zjx (c:=yao (sOp2 fNe (sVar 5) (sLst sNil))) (b:=yaN) (fuel:=yeE) (n:=K0) (en:=sbEn p (some (.int n)) b e h.length (h.length+1) none none none none) (h:=h++[.lst [],.lst [yaL (n,0)]])
  (fun k en h' => ∃ (fs:List Str) (st:List (Nat×Nat)) (r:List Nat) (o6 o7 o8 o9:Option AV),en=sbEn p (some (.int n)) b e h.length (h.length+1) o6 o7 o8 o9/\h'=h++[.lst (fs.map AV.str),.lst (st.reverse.map yaL)]/\Stk ps b e st r k/\(fs.map fun f:Str=>f.cps.toList).flatten++r=clip b e x.cps.toList 0/\fs.length+k<=K0)
  (fun en h' => ∃ (fs:List Str),h'=h++[.lst (fs.map AV.str),.lst []]/\∃ o6 o7 o8 o9,en=sbEn p (some (.int n)) b e h.length (h.length+1) o6 o7 o8 o9/\(fs.map fun f:Str=>f.cps.toList).flatten=clip b e x.cps.toList 0)
  ⟨[],[(n,0)],clip b e x.cps.toList 0++[],none,none,none,none,rfl,rfl,eK ▸ .cons t (.inr rfl) .nil,by simp,by simp⟩ (Nat.lt_of_le_of_lt hK (by decide)) (by
   rintro k en h' ⟨fs,st,r,o6,o7,o8,o9,rfl,rfl,st0,fl,fk⟩
   obtain ⟨hc,ec⟩:∃ hc,hc=h++[AO.lst (fs.map AV.str),.lst (st.reverse.map yaL)]:=⟨_,rfl⟩
   have S':ShelfAt hc p ps:=ec▸S.app _
   have g1:hc[h.length]? = some (.lst (fs.map AV.str)):=by rw [ec];simp
   have g2:hc[h.length+1]? = some (.lst (st.reverse.map yaL)):=by rw [ec];simp
   have nn:=zjL g2
   have sl:=st0.len
   have hset:∀ (A B:AO),(h++[AO.lst (fs.map AV.str),B]).set (h.length+1) A=h++[AO.lst (fs.map AV.str),A]:=fun A B=>by simp
   rw [<- ec]
   cases st0 with
   | nil =>
    have c:(yao (sOp2 fNe (sVar 5) (sLst sNil))) (sbEn p (some (.int n)) b e h.length (h.length+1) o6 o7 o8 o9) hc = .ok false hc:=by
     have nn':fNe (.ref (h.length+1)) (.fl []) hc = .ok (.bl false) hc:=nn
     simp [sbEn,nn',-fNe]
    rw [c]
    exact ⟨fs,ec,o6,o7,o8,o9,rfl,by simpa using fl⟩
   | @cons n' s x' st r k t' ts st1 =>
    have c:(yao (sOp2 fNe (sVar 5) (sLst sNil))) (sbEn p (some (.int n)) b e h.length (h.length+1) o6 o7 o8 o9) hc = .ok true hc:=by
     have nn':fNe (.ref (h.length+1)) (.fl []) hc = .ok (.bl true) hc:=by rw [nn];simp
     simp [sbEn,nn',-fNe]
    rw [c]
    have g2':hc[h.length+1]? = some (.lst (st.reverse.map yaL++[yaL (n',s)])):=by rw [g2];simp
    obtain ⟨m,em,sm⟩:=t'.meas
    have lx:x'.cps.toList.length=m.sg:=(zad x').symm.trans sm.symm
    have sl1:=st1.len
    show thn (yaN (sbEn p (some (.int n)) b e h.length (h.length+1) o6 o7 o8 o9) hc) _
    by_cases sk:e<=s\/s+x'.cps.toList.length<=b
    ·obtain ⟨a6,a7,a8,eb⟩:=zjM (L1:=h.length) S' em (show p+8<h.length+1 by lia) g2' (by rw [<- lx];exact sk) (some (.int n)) o6 o7 o8 o9
     rw [eb,ec,hset]
     refine ⟨k,?_,fs,st,r,a6,a7,a8,o9,rfl,rfl,st1,?_,?_⟩
     ·have:=yee b e x'.cps.toList s (hnOf ps n');lia
     ·rw [<- fl,zhv sk];rfl
     ·have:=yee b e x'.cps.toList s (hnOf ps n');lia
    ·have sk1:s<e:=by lia
     have sk2:b<s+m.sg:=by lia
     obtain ⟨m',f',l',T⟩:=t'.ne0 (by rcases ts with ts | ts<;>lia)
     have z:=em.symm.trans T.ms;cases z
     rcases g.kind T with ⟨e1,e2,e3,_⟩ | ⟨c1,c2,mc,md,y,z,fa,la,fb,lb,e1,e2,e3,A,B,e4,e5,e6⟩
     ·obtain ⟨a6,a7,a8,a9,eb⟩:=zjN S' em T.n1 e1 (show p+8<h.length by omega) (show p+8<h.length+1 by lia) (by lia) g1 g2' sk1 sk2 (by simp;lia) (some (.int n)) o6 o7 o8 o9
      rw [eb,ec,hset]
      refine ⟨k,?_,fs++[cutS x' (some ((b-s:Nat):Int)) (some ((e-s:Nat):Int))],st,r,a6,a7,a8,a9,rfl,by simp,st1,?_,?_⟩
      ·have:=yee b e x'.cps.toList s (hnOf ps n');lia
      ·rw [<- fl,<- zit (y:=x') sk1];simp
      ·have:=yee b e x'.cps.toList s (hnOf ps n');simp;lia
     ·obtain ⟨a6,a7,a8,a9,eb⟩:=zjO (L1:=h.length) S' em T.n1 e1 A.ms (show p+8<h.length by omega) (show p+8<h.length+1 by lia) g2' sk1 sk2 (by simp;lia) (some (.int n)) o6 o7 o8 o9
      have ly:y.cps.toList.length=mc.sg:=(zad y).symm.trans A.ky.sg.symm
      have y1:=A.ky.sg1
      have z1:=B.ky.sg1
      have lz:z.cps.toList.length=md.sg:=(zad z).symm.trans B.ky.sg.symm
      have ex:x'.cps.toList=y.cps.toList++z.cps.toList:=by rw [e4,zaf]
      obtain ⟨j,ej,ja,jb,_⟩:=hs1 (show m.ht=max mc.ht md.ht+1 by rw [e5];rfl) A.ky.ht B.ky.ht
      have pf:=zjK (b:=b) (e:=e) (s:=s) (h:=hnOf ps c1) (g:=hnOf ps c2) (H:=hnOf ps n') (y:=y.cps.toList) (z:=z.cps.toList) (by lia) (by lia) (ex▸sk) (by rw [yem A.ms,yem em];lia) (by rw [yem B.ms,yem em];lia) be
      rw [<- ex,ly] at pf
      rw [eb,ec,hset]
      refine ⟨ptOf b e y.cps.toList s (hnOf ps c1)+(ptOf b e z.cps.toList (s+mc.sg) (hnOf ps c2)+k),by lia,fs,(c1,s)::(c2,s+mc.sg)::st,_,a6,a7,a8,a9,rfl,by simp,.cons (.inr ⟨_,_,_,A⟩) (.inl (A.ky.sg▸y1)) (.cons (.inr ⟨_,_,_,B⟩) (.inl (B.ky.sg▸z1)) st1),?_,by lia⟩
      rw [<- fl,ex,zc3,ly];simp)
 subst q2;subst q3
 refine ⟨⟨((fs.map fun f:Str=>f.cps.toList).flatten).toArray⟩,[.lst (fs.map AV.str),.lst []],?_,by rw [<- q4]⟩
 have fl:((fs.map fun f:Str=>f.cps.toList).flatten).length<=1000000:=by
  rw [q4];exact Nat.le_trans (zc4 _ _ _ _) (Nat.le_trans w (by decide))
 have g1:(h++[AO.lst (fs.map AV.str),.lst []])[h.length]? = some (.lst (fs.map AV.str)):=by simp
 have jn:yc6 (.str "") [.ref h.length] (h++[AO.lst (fs.map AV.str),.lst []]) = .ok (.str ⟨((fs.map fun f:Str=>f.cps.toList).flatten).toArray⟩) (h++[AO.lst (fs.map AV.str),.lst []]):=by
  have e:(Str.ofString "")=Str.empty:=by decide +kernel
  unfold yc6
  simp only [e,if_true,ybw,g1,zeU]
  rw [if_pos fl]
 have q1':ybZ (yao (sOp2 fNe (sVar 5) (sLst sNil))) yaN yeE [some (.ref p),some (.int n),some (.int b),some (.int e),some (.ref h.length),some (.ref (h.length+1)),none,none,none,none] (h++[.lst [],.lst [.tup [.int n,.int 0]]])=_:=q1
 unfold yce
 generalize ybZ (yao (sOp2 fNe (sVar 5) (sLst sNil))) yaN yeE=W at q1' ⊢
 generalize hH:(h++[AO.lst (fs.map AV.str),.lst []])=H at *
 have a1:h++[AO.lst []]++[AO.lst [AV.tup [.int n,.int 0]]]=h++[.lst [],.lst [.tup [.int n,.int 0]]]:=by simp
 simp [q1',jn,sbEn,-yc6]
theorem zhx {h:AH} {p:Nat} {ps:List Pc} (S:ShelfAt h p ps) (g:Good ps) {n b e:Nat} {x:Str} (t:TxZ ps n x) (be:b<=e) (ex:e<=x.length) (w:e-b<=10000) :
  ∃ (z:Str) (r:AH),ycS [.ref p,.int n,.int b,.int e] h = .ok (.str z) (h++r)/\z.cps.toList=clip b e x.cps.toList 0:=by
 obtain ⟨m,em,sm⟩:=t.meas
 have ck:=zb7 S em be (sm▸ex)
 obtain ⟨z,r,e1,e2⟩:=zhw S g t be w
 refine ⟨z,r,?_,e2⟩
 have w' : ¬ (10000:Int)<(e:Int)-b:=by lia
 simp [ycS,ck,w',e1]
end Sk
namespace Sk
open PySem PySem.Spec L2 Sm
def rp (B:List Nat) (t:Nat):List Nat:=(List.replicate t B).flatten
theorem rp_s (B:List Nat) (t:Nat):rp B (t+1)=B++rp B t:=by
 unfold rp;rw [List.replicate_succ,List.flatten_cons]
theorem rp_a (B:List Nat):∀ a b:Nat,rp B a++rp B b=rp B (a+b)
 | 0,b=>by rw [Nat.zero_add];rfl
 | a+1,b=>by rw [rp_s,List.append_assoc,rp_a B a b,Nat.add_right_comm,rp_s]
theorem rp_1 (B:List Nat):rp B 1=B:=by rw [rp_s];exact List.append_nil _
theorem yef (B:List Nat):∀ t:Nat,(rp B t).length=B.length*t
 | 0=>rfl
 | t+1=>by rw [rp_s,List.length_append,yef B t,Nat.mul_succ,Nat.add_comm]
theorem zc5 (P:List Nat) {q m:Nat} (h:q<m):rp P m=rp P q++(P++rp P (m-q-1)):=by
 rw [<- rp_s,rp_a];congr 1;omega
theorem rpcA {P:List Nat} {m q r t:Nat} (ht:t<=P.length) (hq:q<m):((rp P m).take (P.length*q+t)).drop (P.length*q+r)=(P.take t).drop r:=by
 rw [zc5 P hq,<- yef P q,List.take_length_add_append,List.take_append_of_le_length ht,List.drop_length_add_append]
theorem rpcB {P:List Nat} {m q1 q2 r t:Nat} (hr:r<=P.length) (ht:t<=P.length) (h:q1<q2) (hq:q2<m):((rp P m).take (P.length*q2+t)).drop (P.length*q1+r)=P.drop r++(rp P (q2-q1-1)++P.take t):=by
 rw [zc5 P hq,<- yef P q2,List.take_length_add_append,List.take_append_of_le_length ht]
 rw [zc5 P h,List.append_assoc,List.append_assoc,<- yef P q1,List.drop_length_add_append,List.drop_append_of_le_length hr]
abbrev Bk:=Str×Nat
def fB:List Bk->List Nat
 | []=>[]
 | x::r=>rp x.1.cps.toList x.2++fB r
theorem yca:∀ a b:List Bk,fB (a++b)=fB a++fB b
 | [],b=>rfl
 | x::a,b=>by rw [List.cons_append,fB,fB,yca a b,List.append_assoc]
theorem ydp (x:Bk):fB [x]=rp x.1.cps.toList x.2:=by rw [fB,fB,List.append_nil]
theorem zaV (x:Bk):(rp x.1.cps.toList x.2).length=x.1.length*x.2:=by rw [yef,<- zad]
theorem ye6:∀ {bs:List Bk} {x:Bk},x∈bs->x.1.length*x.2<=(fB bs).length
 | y::r,x,h=>by
  rw [fB,List.length_append,zaV]
  rcases List.mem_cons.mp h with rfl | h
  ·lia
  ·have:=ye6 h;lia
structure Ok (x:Bk):Prop where
 a:1<=x.1.length
 b:x.1.length<=20
 c:1<=x.2
def pt2 (p:Str) (lo hi:Nat):List Bk :=
 if lo / p.length=(hi-1) / p.length then [(dpS (tkS p (hi-lo / p.length*p.length)) (lo-lo / p.length*p.length),1)]
 else (dpS p (lo-lo / p.length*p.length),1)::((if lo / p.length+1<(hi-1) / p.length then [(p,(hi-1) / p.length-lo / p.length-1)] else [])++[(tkS p (hi-(hi-1) / p.length*p.length),1)])
structure Fg (n lo hi q1 q2 r t:Nat):Prop where
 e1:lo / n=q1
 e2:(hi-1) / n=q2
 e3:lo=n*q1+r
 e4:hi=n*q2+t
 r1:r<n
 t1:1<=t
 t2:t<=n
 le:q1<=q2
theorem figs {n lo hi:Nat} (hn:1<=n) (h:lo<hi):∃ q1 q2 r t,Fg n lo hi q1 q2 r t:=by
 have a:=Nat.div_add_mod lo n
 have b:=Nat.mod_lt lo (show 0<n by lia)
 have c:=Nat.div_add_mod (hi-1) n
 have d:=Nat.mod_lt (hi-1) (show 0<n by lia)
 exact ⟨lo / n,(hi-1) / n,lo % n,(hi-1) % n+1,rfl,rfl,by lia,by lia,b,by lia,by lia,Nat.div_le_div_right (by lia)⟩
theorem Fg.q {n lo hi q1 q2 r t m:Nat} (f:Fg n lo hi q1 q2 r t) (h:hi<=n*m):q2<m:=by
 have:=f.e4
 have:=f.t1
 exact Nat.lt_of_mul_lt_mul_left (a:=n) (by lia)
theorem Fg.lo_ {n lo hi q1 q2 r t:Nat} (f:Fg n lo hi q1 q2 r t):lo-lo / n*n=r:=by
 rw [f.e1,f.e3,Nat.mul_comm q1 n];lia
theorem Fg.hi_ {n lo hi q1 q2 r t:Nat} (f:Fg n lo hi q1 q2 r t):hi-(hi-1) / n*n=t:=by
 have:=f.e4
 rw [f.e2,Nat.mul_comm q2 n];omega
theorem ye7 {p:Str} {lo hi q1 q2 r t:Nat} (f:Fg p.length lo hi q1 q2 r t):pt2 p lo hi=if q1=q2 then [(dpS (tkS p t) r,1)] else (dpS p r,1)::((if q1+1<q2 then [(p,q2-q1-1)] else [])++[(tkS p t,1)]):=by
 unfold pt2
 rw [f.lo_,f.hi_]
 have e:(hi-lo / p.length*p.length)=if q1=q2 then t else hi-lo / p.length*p.length:=by
  split
  ·rename_i q
   have:=f.hi_
   rw [f.e2,<- q,<- f.e1] at this
   exact this
  ·rfl
 rw [f.e1,f.e2] at *
 by_cases q:q1=q2
 ·rw [if_pos q,if_pos q,e,if_pos q]
 ·rw [if_neg q,if_neg q]
theorem yhk {p:Str} {m lo hi:Nat} (hp:1<=p.length) (h1:lo<hi) (h2:hi<=p.length*m):fB (pt2 p lo hi)=((rp p.cps.toList m).take hi).drop lo:=by
 obtain ⟨q1,q2,r,t,f⟩:=figs hp h1
 have hq:=f.q h2
 rw [ye7 f]
 have ln:=zad p
 have t2:=f.t2
 have r1:=f.r1
 by_cases q:q1=q2
 ·rw [if_pos q,ydp,rp_1,f.e3,f.e4,q,ln,rpcA (by lia) hq]
  rfl
 ·rw [if_neg q,f.e3,f.e4,ln,rpcB (by lia) (by lia) (by have:=f.le;lia) hq]
  rw [fB,rp_1,yca,ydp,rp_1]
  congr 2
  by_cases z:q1+1<q2
  ·rw [if_pos z,ydp]
  ·rw [if_neg z]
   have:q2-q1-1=0:=by lia
   rw [this];rfl
theorem yhl {p:Str} {lo hi:Nat} (hp:1<=p.length) (hp2:p.length<=20) (h1:lo<hi):∀ x∈pt2 p lo hi,Ok x:=by
 obtain ⟨q1,q2,r,t,f⟩:=figs hp h1
 rw [ye7 f]
 have t1:=f.t1
 have t2:=f.t2
 have r1:=f.r1
 intro x hx
 by_cases q:q1=q2
 ·rw [if_pos q,List.mem_singleton] at hx
  subst hx
  have rt:r<t:=by
   have e3:=f.e3
   have e4:=f.e4
   rw [q] at e3
   lia
  exact ⟨by rw [yb9,ybV (by lia)];lia,by rw [yb9,ybV (by lia)];lia,Nat.le_refl _⟩
 ·rw [if_neg q] at hx
  rcases List.mem_cons.mp hx with rfl | hx
  ·exact ⟨by rw [yb9];lia,by rw [yb9];lia,Nat.le_refl _⟩
  ·rcases List.mem_append.mp hx with hx | hx
   ·split at hx
    ·rw [List.mem_singleton] at hx
     subst hx
     exact ⟨hp,hp2,by show 1<=q2-q1-1;lia⟩
    ·cases hx
   ·rw [List.mem_singleton] at hx
    subst hx
    exact ⟨by rw [ybV (by lia)];lia,by rw [ybV (by lia)];lia,Nat.le_refl _⟩
theorem zjP (p:Str) (lo hi:Nat):(pt2 p lo hi).length<=3:=by
 unfold pt2
 split
 ·simp
 ·split<;>simp
def pn (b e s:Nat) (x:Bk):List Bk:=if b-s<min (e-s) (x.1.length*x.2) then pt2 x.1 (b-s) (min (e-s) (x.1.length*x.2)) else []
def prt (b e:Nat):Nat->List Bk->List Bk
 | _,[]=>[]
 | s,x::r=>pn b e s x++prt b e (s+x.1.length*x.2) r
theorem yif {b e s:Nat} {x:Bk} (hx:1<=x.1.length):fB (pn b e s x)=clip b e (rp x.1.cps.toList x.2) s:=by
 have ln:=zaV x
 unfold pn clip
 split
 ·rename_i q
  rw [yhk hx q (Nat.min_le_right _ _)]
  congr 1
  rw [<- ln,<- List.take_eq_take_min]
 ·rename_i q
  refine (List.eq_nil_of_length_eq_zero ?_).symm
  rw [List.length_drop,List.length_take,ln]
  lia
theorem ydT {b e:Nat}:∀ (bs:List Bk) (s:Nat),(∀ x∈bs,Ok x)->fB (prt b e s bs)=clip b e (fB bs) s
 | [],s,_=>by unfold prt fB clip;simp
 | x::r,s,h=>by
  rw [prt,yca,fB,zc3,yif (h x (List.mem_cons_self ..)).a,zaV,ydT r _ fun y hy=>h y (List.mem_cons_of_mem _ hy)]
theorem zgd {b e:Nat}:∀ (xs ys:List Bk) (s:Nat),prt b e s (xs++ys)=prt b e s xs++prt b e (s+(fB xs).length) ys
 | [],ys,s=>by unfold fB;rw [List.nil_append,List.length_nil,Nat.add_zero];rfl
 | x::xs,ys,s=>by rw [List.cons_append,prt,prt,zgd xs ys,List.append_assoc,fB,List.length_append,zaV,Nat.add_assoc]
theorem yig {b e s:Nat} {x:Bk} (h:Ok x):∀ y∈pn b e s x,Ok y:=by
 intro y hy
 unfold pn at hy
 split at hy
 ·rename_i q
  exact yhl h.a h.b q y hy
 ·cases hy
theorem yhm (b e s:Nat) (x:Bk):(pn b e s x).length<=3:=by
 unfold pn
 split
 ·exact zjP _ _ _
 ·simp
theorem ycD {b e:Nat}:∀ (bs:List Bk) (s:Nat),(∀ x∈bs,Ok x)->∀ y∈prt b e s bs,Ok y
 | [],_,_,y,hy=>by cases hy
 | x::r,s,h,y,hy=>by
  rw [prt] at hy
  rcases List.mem_append.mp hy with hy | hy
  ·exact yig (h x (List.mem_cons_self ..)) y hy
  ·exact ycD r _ (fun z hz=>h z (List.mem_cons_of_mem _ hz)) y hy
theorem zaG {b e:Nat}:∀ (bs:List Bk) (s:Nat),(prt b e s bs).length<=3*bs.length
 | [],_=>by simp [prt]
 | x::r,s=>by
  rw [prt,List.length_append,List.length_cons]
  have:=yhm b e s x
  have:=zaG (b:=b) (e:=e) r (s+x.1.length*x.2)
  lia
end Sk
namespace Sk
open PySem PySem.Spec L2 Sm
abbrev bv (x:Bk):AV:=.tup [.str x.1,.int x.2]
theorem zcr {α:Type} {xs:List α} {j:Nat} {w:α} (e:xs[j]? = some w):xs.take (j+1)=xs.take j++[w]:=by
 rw [List.take_succ,e];rfl
theorem ziu {h:AH} {R:Nat} {o:AO} (e:h[R]? = some o):h.set R o=h:=by
 refine List.ext_getElem? fun i=>?_
 by_cases q:R=i
 ·subst q;rw [List.getElem?_set_self (yaP e),e]
 ·exact List.getElem?_set_ne q
theorem ap1 {h:AH} {R:Nat} {fs:List AV} (e:h[R]? = some (.lst fs)) (hf:fs.length<=2000) (v:AV):yaA (.ref R) [v] h = .ok .non (h.set R (.lst (fs++[v]))):=by
 have:fs.length<sizeLine:=Nat.lt_of_le_of_lt hf (by decide)
 simp only [yaA,e,this,if_true]
theorem yih (a b:Nat) (h:AH):ybG [.int a,.int b] h = .ok (.int ((max a b:Nat):Int)) h:=by
 have:ybG [.int a,.int b] h = .ok (.int (if (b:Int) > a then (b:Int) else a)) h:=rfl
 rw [this]
 by_cases q:a<b
 ·rw [if_pos (by lia)];congr 2;lia
 ·rw [if_neg (by lia)];congr 2;lia
theorem yfk (a b:Nat) (h:AH):yb3 [.int a,.int b] h = .ok (.int ((min a b:Nat):Int)) h:=by
 have:yb3 [.int a,.int b] h = .ok (.int (if (b:Int)<a then (b:Int) else a)) h:=rfl
 rw [this]
 by_cases q:b<a
 ·rw [if_pos (by lia)];congr 2;lia
 ·rw [if_neg (by lia)];congr 2;lia
theorem ydB {a b c:Nat} (e:a=b+c) (h:AH):fSub (.int a) (.int b) h = .ok (.int c) h:=by
 have:(a:Int)-b=c:=by lia
 simp only [fSub,this]
theorem ydY {a b c:Nat} (e:a+b=c) (h:AH):fAdd (.int a) (.int b) h = .ok (.int c) h:=by
 have:(a:Int)+b=c:=by lia
 simp only [fAdd,this]
theorem yfl {a b c:Nat} (ha:a<=1000000) (e:a*b=c) (h:AH):fMul (.int a) (.int b) h = .ok (.int c) h:=by
 rw [yfJ (Nat.lt_of_le_of_lt (m:=1000000) (by lia) (by decide)),<- e];rfl
theorem ye8 {a b c:Nat} (hb:b<=1000000) (e:a*b=c) (h:AH):fMul (.int a) (.int b) h = .ok (.int c) h:=by
 rw [ye5 (Nat.lt_of_le_of_lt (m:=1000000) (by lia) (by decide)),<- e];rfl
theorem yeH {a b c:Nat} (h0:1<=b) (hb:b<=1000000) (e:a / b=c) (h:AH):fDiv (.int a) (.int b) h = .ok (.int c) h:=by
 have q:0<(b:Int)/\(b:Int).natAbs<2 ^ 200:=⟨by lia,Nat.lt_of_le_of_lt (m:=1000000) (by lia) (by decide)⟩
 simp only [fDiv]
 rw [if_pos q,<- e];rfl
theorem yhn {x:Str} {b e:Nat} (be:b<=e) (ex:e<=x.length) (h:AH):ybb (.str x) (some (b:Int)) (some (e:Int)) h = .ok (.str (dpS (tkS x e) b)) h:=by
 have:cutS x (some (b:Int)) (some (e:Int))=dpS (tkS x e) b:=zae (by
  unfold cutS
  rw [HT.sIx_nat,HT.sIx_nat,yb8,ycl]
  rw [zad] at ex
  rw [Nat.min_eq_left ex,Nat.min_eq_left (by lia)]
  show (x.cps.toList.drop b).take (e-b)=_
  rw [List.drop_take])
 simp only [ybb,this]
abbrev eT (v0:Option AV) (b e:Nat) (R s:Nat) (o5 o6 o7 o8 o9 o10 o11 o12:Option AV):En:=[v0,some (.int b),some (.int e),some (.ref R),some (.int s),o5,o6,o7,o8,o9,o10,o11,o12]
theorem zhy {hh:AH} {R b e s:Nat} {x:Bk} {fs:List AV} {v0:Option AV} (eR:hh[R]? = some (.lst fs)) (hf:fs.length<=1000) (k:Ok x) (o7 o8 o9 o10 o11 o12:Option AV) :
  ∃ c7 c8 c9 c10 c11 c12,yba (eT v0 b e R s (some (.str x.1)) (some (.int x.2)) o7 o8 o9 o10 o11 o12) hh = .nx (eT v0 b e R (s+x.1.length*x.2) (some (.str x.1)) (some (.int x.2)) c7 c8 c9 c10 c11 c12) (hh.set R (.lst (fs++(pn b e s x).map bv))):=by
 obtain ⟨p,m⟩:=x
 obtain ⟨k1,k2,k3⟩:=k
 dsimp only at k1 k2 k3 ⊢
 obtain ⟨n,en⟩:∃ n,n=p.length:=⟨_,rfl⟩
 obtain ⟨Z,eZ⟩:∃ Z,Z=n*m:=⟨_,rfl⟩
 have ln:∀ h,fLen [.str p] h = .ok (.int n) h:=fun h=>by rw [en];rfl
 have ml:∀ h,fMul (.int n) (.int m) h = .ok (.int Z) h:=yfl (by lia) eZ.symm
 have mx:∀ h,ybG [.int b,.int s] h = .ok (.int ((max b s:Nat):Int)) h:=yih b s
 have sb1:∀ h,fSub (.int ((max b s:Nat):Int)) (.int s) h = .ok (.int ((b-s:Nat):Int)) h:=ydB (by (clear mx ml ln eZ en k3 k2 k1 hf eR;lia))
 have ad1:∀ h,fAdd (.int s) (.int Z) h = .ok (.int ((s+Z:Nat):Int)) h:=ydY rfl
 have mn:∀ h,yb3 [.int e,.int ((s+Z:Nat):Int)] h = .ok (.int ((min e (s+Z):Nat):Int)) h:=yfk _ _
 obtain ⟨H,eH⟩:∃ H:Int,H=((min e (s+Z):Nat):Int)-s:=⟨_,rfl⟩
 have sb2:∀ h,fSub (.int ((min e (s+Z):Nat):Int)) (.int s) h = .ok (.int H) h:=fun h=>by rw [eH];rfl
 have lt:∀ h,fLt (.int ((b-s:Nat):Int)) (.int H) h = .ok (.bl (decide (((b-s:Nat):Int)<H))) h:=fun h=>by simp
 rw [<- en]
 rw [<- eZ]
 have pe:pn b e s (p,m)=if b-s<min (e-s) Z then pt2 p (b-s) (min (e-s) Z) else []:=by rw [eZ,en];rfl
 rw [pe]
 by_cases q:b-s<min (e-s) Z
 ·rw [if_pos q]
  obtain ⟨lo,elo⟩:∃ lo,lo=b-s:=⟨_,rfl⟩
  obtain ⟨hi,ehi⟩:∃ hi,hi=min (e-s) Z:=⟨_,rfl⟩
  have Hh:H=(hi:Int):=by (clear elo pe lt sb2 mn ad1 mx ml ln eZ en k3 k2 k1 hf eR;lia)
  rw [<- elo,Hh] at lt
  rw [Hh] at sb2
  rw [<- elo] at sb1
  rw [<- elo,<- ehi] at q ⊢
  have lt1:∀ h,fLt (.int (lo:Int)) (.int (hi:Int)) h = .ok (.bl true) h:=fun h=>by rw [lt h,decide_eq_true (by (clear Hh ehi lt sb2 elo sb1 pe eH mn ad1 mx ml ln eZ en k3 k2 k1 hf eR;lia))]
  obtain ⟨q1,q2,r,t,f⟩:=figs k1 q
  rw [ye7 f]
  obtain ⟨f1,f2,f3,f4,f5,f6,f7,f8⟩:=f
  rw [<- en] at f1 f2 f3 f4 f5 f7
  have dv1:∀ h,fDiv (.int lo) (.int n) h = .ok (.int q1) h:=yeH (by lia) (by lia) f1
  have sb3:∀ h,fSub (.int hi) (.int 1) h = .ok (.int ((hi-1:Nat):Int)) h:=fun h=>ydB (b:=1) (by (clear dv1 f8 f7 f6 f5 f4 f3 f2 f1 lt1 Hh ehi lt sb2 elo sb1 pe eH mn ad1 mx ml ln eZ en k3 k2 k1 hf eR;lia)) h
  have dv2:∀ h,fDiv (.int ((hi-1:Nat):Int)) (.int n) h = .ok (.int q2) h:=yeH (by lia) (by lia) f2
  have ml2:∀ h,fMul (.int q1) (.int n) h = .ok (.int ((n*q1:Nat):Int)) h:=ye8 (by lia) (Nat.mul_comm _ _)
  have sb4:∀ h,fSub (.int lo) (.int ((n*q1:Nat):Int)) h = .ok (.int r) h:=ydB f3
  by_cases z:q1=q2
  ·rw [if_pos z]
   have rt:r<=t:=by rw [z] at f3;(clear z sb4 ml2 dv2 sb3 dv1 f8 f7 f6 f5 f2 f1 lt1 Hh lt sb2 elo sb1 pe eH mn ad1 mx ml ln eZ en k3 k2 k1 hf eR;lia)
   have eq:∀ h,fEq (.int q1) (.int q2) h = .ok (.bl true) h:=fun h=>by simp [z]
   have sb5:∀ h,fSub (.int hi) (.int ((n*q1:Nat):Int)) h = .ok (.int t) h:=ydB (by rw [z];exact f4)
   have ct:=yhn (x:=p) (b:=r) (e:=t) rt (by (clear sb5 eq rt z sb4 ml2 dv2 sb3 dv1 f8 f6 f5 f4 f3 f2 f1 lt1 Hh ehi lt sb2 q elo sb1 pe eH mn ad1 mx ml ln eZ k3 k2 k1 hf eR;lia)) hh
   have ap:=ap1 eR (by lia) (.tup [.str (dpS (tkS p t) r),.int 1])
   have isl:yax (.ref R) hh=true:=by simp [eR]
   refine ⟨some (.int Z),some (.int lo),some (.int hi),some (.int q1),some (.int q2),some (.int ((n*q1:Nat):Int)),?_⟩
   show _=OutS.nx _ (hh.set R (.lst (fs++[.tup [.str (dpS (tkS p t) r),.int 1]])))
   clear f1 f2 f3 f4 f5 f6 f7 f8 pe eH Hh elo ehi eZ en lt
   simp only [eT]
   generalize ((n*q1:Nat):Int)=NQ at *
   generalize ((hi-1:Nat):Int)=HI1 at *
   generalize ((min e (s+Z):Nat):Int)=MN at *
   generalize ((max b s:Nat):Int)=MX at *
   generalize ((s+Z:Nat):Int)=SZ at *
   simp [yba,eT,ln,ml,mx,sb1,ad1,mn,sb2,lt1,dv1,sb3,dv2,ml2,eq,sb4,sb5,ct,isl,ap,-fLen,-fMul,-ybG,-fSub,-fAdd,-yb3,-fLt,-fDiv,-fEq,-yaA,-yax,-ybb]
  ·rw [if_neg z]
   have eq:∀ h,fEq (.int q1) (.int q2) h = .ok (.bl false) h:=fun h=>by simp;(clear sb4 ml2 dv2 sb3 dv1 f8 f7 f6 f5 f4 f3 f2 f1 lt1 Hh ehi lt sb2 q elo sb1 pe eH mn ad1 mx ml ln eZ en k3 k2 k1 hf eR;lia)
   have ct1:∀ h,ybb (.str p) (some (r:Int)) none h = .ok (.str (dpS p r)) h:=yfP (by lia)
   have ap:=ap1 eR (by lia) (.tup [.str (dpS p r),.int 1])
   have isl:yax (.ref R) hh=true:=by simp [eR]
   obtain ⟨h1,eh1⟩:∃ h1,h1=hh.set R (.lst (fs++[.tup [.str (dpS p r),.int 1]])):=⟨_,rfl⟩
   have eR1:h1[R]? = some (.lst (fs++[.tup [.str (dpS p r),.int 1]])):=by rw [eh1];exact List.getElem?_set_self (yaP eR)
   have isl1:yax (.ref R) h1=true:=by simp [eR1]
   rw [<- eh1] at ap
   have ad2:∀ h,fAdd (.int q1) (.int 1) h = .ok (.int ((q1+1:Nat):Int)) h:=fun h=>ydY (b:=1) rfl h
   have gt:∀ h,fGt (.int q2) (.int ((q1+1:Nat):Int)) h = .ok (.bl (decide (q1+1<q2))) h:=fun h=>by simp;(clear ad2 isl1 eR1 eh1 ap isl ct1 eq z sb4 ml2 dv2 sb3 dv1 f8 f7 f6 f5 f4 f3 f2 f1 lt1 Hh ehi lt sb2 q elo sb1 pe eH mn ad1 mx ml ln eZ en k3 k2 k1 hf eR;lia)
   have ml3:∀ h,fMul (.int q2) (.int n) h = .ok (.int ((n*q2:Nat):Int)) h:=ye8 (by lia) (Nat.mul_comm _ _)
   have sb7:∀ h,fSub (.int hi) (.int ((n*q2:Nat):Int)) h = .ok (.int t) h:=ydB f4
   have ct2:∀ h,ybb (.str p) none (some (t:Int)) h = .ok (.str (tkS p t)) h:=yfO
   by_cases y:q1+1<q2
   ·rw [if_pos y]
    have sb5:∀ h,fSub (.int q2) (.int q1) h = .ok (.int ((q2-q1:Nat):Int)) h:=ydB (by (clear y ct2 sb7 ml3 gt ad2 isl1 eR1 eh1 ap isl ct1 eq sb4 ml2 dv2 sb3 dv1 f7 f6 f5 f4 f3 f2 f1 lt1 Hh ehi lt sb2 q elo sb1 pe eH mn ad1 mx ml ln eZ en k3 k2 k1 hf eR;lia))
    have sb6:∀ h,fSub (.int ((q2-q1:Nat):Int)) (.int 1) h = .ok (.int ((q2-q1-1:Nat):Int)) h:=fun h=>ydB (b:=1) (by (clear y ct2 sb7 ml3 gt ad2 isl1 eR1 eh1 ap isl ct1 eq sb4 ml2 dv2 sb3 dv1 f7 f6 f5 f4 f2 f1 lt1 Hh ehi lt sb2 q elo sb1 pe eH mn mx ml ln eZ en k3 k2 k1 eR;lia)) h
    have ap2:=ap1 eR1 (by simp;lia) (.tup [.str p,.int ((q2-q1-1:Nat):Int)])
    obtain ⟨h2,eh2⟩:∃ h2,h2=h1.set R (.lst (fs++[.tup [.str (dpS p r),.int 1]]++[.tup [.str p,.int ((q2-q1-1:Nat):Int)]])):=⟨_,rfl⟩
    have eR2:h2[R]? = some (.lst (fs++[.tup [.str (dpS p r),.int 1]]++[.tup [.str p,.int ((q2-q1-1:Nat):Int)]])):=by rw [eh2];exact List.getElem?_set_self (yaP eR1)
    have isl2:yax (.ref R) h2=true:=by simp [eR2]
    rw [<- eh2] at ap2
    have ap3:=ap1 eR2 (by simp;lia) (.tup [.str (tkS p t),.int 1])
    have fin:h2.set R (.lst (fs++[.tup [.str (dpS p r),.int 1]]++[.tup [.str p,.int ((q2-q1-1:Nat):Int)]]++[.tup [.str (tkS p t),.int 1]]))=hh.set R (.lst (fs++(((dpS p r,1)::([(p,q2-q1-1)]++[(tkS p t,1)])):List Bk).map bv)):=by
     rw [eh2,eh1,List.set_set,List.set_set,List.append_assoc,List.append_assoc]
     rfl
    rw [fin] at ap3
    refine ⟨some (.int Z),some (.int lo),some (.int hi),some (.int q1),some (.int q2),some (.int ((n*q1:Nat):Int)),?_⟩
    generalize hh.set R (.lst (fs++(((dpS p r,1)::([(p,q2-q1-1)]++[(tkS p t,1)])):List Bk).map bv))=HF at *
    rw [decide_eq_true y] at gt
    clear f1 f2 f3 f4 f5 f6 f7 f8 pe eH Hh elo ehi eZ en lt eR eR1 eR2 eh1 eh2 fin
    simp only [eT]
    generalize ((q2-q1-1:Nat):Int)=QD at *
    generalize ((q2-q1:Nat):Int)=QE at *
    generalize ((q1+1:Nat):Int)=QF at *
    generalize ((n*q1:Nat):Int)=NQ at *
    generalize ((n*q2:Nat):Int)=NR at *
    generalize ((hi-1:Nat):Int)=HI1 at *
    generalize ((min e (s+Z):Nat):Int)=MN at *
    generalize ((max b s:Nat):Int)=MX at *
    generalize ((s+Z:Nat):Int)=SZ at *
    simp [yba,eT,ln,ml,mx,sb1,ad1,mn,sb2,lt1,dv1,sb3,dv2,ml2,eq,sb4,ct1,isl,ap,ad2,gt,sb5,sb6,isl1,ap2,ml3,sb7,ct2,isl2,ap3,-fLen,-fMul,-ybG,-fSub,-fAdd,-yb3,-fLt,-fGt,-fDiv,-fEq,-yaA,-yax,-ybb]
   ·rw [if_neg y]
    have ap3:=ap1 eR1 (by simp;lia) (.tup [.str (tkS p t),.int 1])
    have fin:h1.set R (.lst (fs++[.tup [.str (dpS p r),.int 1]]++[.tup [.str (tkS p t),.int 1]]))=hh.set R (.lst (fs++(((dpS p r,1)::([]++[(tkS p t,1)])):List Bk).map bv)):=by
     rw [eh1,List.set_set,List.append_assoc]
     rfl
    rw [fin] at ap3
    refine ⟨some (.int Z),some (.int lo),some (.int hi),some (.int q1),some (.int q2),some (.int ((n*q1:Nat):Int)),?_⟩
    generalize hh.set R (.lst (fs++(((dpS p r,1)::([]++[(tkS p t,1)])):List Bk).map bv))=HF at *
    rw [decide_eq_false y] at gt
    clear f1 f2 f3 f4 f5 f6 f7 f8 pe eH Hh elo ehi eZ en lt eR eR1 eh1 fin
    simp only [eT]
    generalize ((q1+1:Nat):Int)=QF at *
    generalize ((n*q1:Nat):Int)=NQ at *
    generalize ((n*q2:Nat):Int)=NR at *
    generalize ((hi-1:Nat):Int)=HI1 at *
    generalize ((min e (s+Z):Nat):Int)=MN at *
    generalize ((max b s:Nat):Int)=MX at *
    generalize ((s+Z:Nat):Int)=SZ at *
    simp [yba,eT,ln,ml,mx,sb1,ad1,mn,sb2,lt1,dv1,sb3,dv2,ml2,eq,sb4,ct1,isl,ap,ad2,gt,isl1,ml3,sb7,ct2,ap3,-fLen,-fMul,-ybG,-fSub,-fAdd,-yb3,-fLt,-fGt,-fDiv,-fEq,-yaA,-yax,-ybb]
 ·rw [if_neg q]
  have lt1:∀ h,fLt (.int ((b-s:Nat):Int)) (.int H) h = .ok (.bl false) h:=fun h=>by rw [lt h,decide_eq_false (by (clear lt sb2 ad1 sb1 mx ml ln eZ en k2 eR;lia))]
  refine ⟨some (.int Z),some (.int ((b-s:Nat):Int)),some (.int H),o10,o11,o12,?_⟩
  rw [List.map_nil,List.append_nil,ziu eR]
  clear pe eH eZ en lt eR
  simp only [eT]
  generalize ((b-s:Nat):Int)=LO at *
  generalize ((min e (s+Z):Nat):Int)=MN at *
  generalize ((max b s:Nat):Int)=MX at *
  generalize ((s+Z:Nat):Int)=SZ at *
  simp [yba,eT,ln,ml,mx,sb1,ad1,mn,sb2,lt1,-fLen,-fMul,-ybG,-fSub,-fAdd,-yb3,-fLt]
end Sk
namespace Sk
open PySem PySem.Spec L2 Sm
inductive Src (h:AH) (bs:List Bk):AV->Option Nat->Prop
 | ref {B:Nat} (e:h[B]? = some (.lst (bs.map bv))):Src h bs (.ref B) (some B)
 | fl:Src h bs (.fl (bs.map bv)) none
theorem Src.live {h:AH} {bs:List Bk} {v:AV} {w:Option Nat} (s:Src h bs v w):ybx w (bs.map bv) h=true:=by
 cases s with
 | ref e=>simp [e]
 | fl=>rfl
theorem Src.app {h:AH} {bs:List Bk} {v:AV} {w:Option Nat} (s:Src h bs v w) (r:AH):Src (h++r) bs v w:=by
 cases s with
 | ref e=>exact .ref (by rw [List.getElem?_append_left (yaP e)];exact e)
 | fl=>exact .fl
theorem Src.it {h:AH} {bs:List Bk} {v:AV} {w:Option Nat} (s:Src h bs v w) {en:En} {i:Nat} (e:en[i]? = some (some v)):ya4 (sVar i) en h = .ok (bs.map bv,w) h:=by
 cases s with
 | ref q=>simp [e,q]
 | fl =>
  generalize bs.map bv=Z at *
  simp [e]
theorem za6 {h:AH} {b e:Nat} {bs:List Bk} {v:AV} {w:Option Nat} (sr:Src h bs v w) (ok:∀ x∈bs,Ok x) (hl:bs.length<=300):yaF [v,.int b,.int e] h = .ok (.ref h.length) (h++[.lst ((prt b e 0 bs).map bv)]):=by
 obtain ⟨e',h',r1,r2⟩:=ycv (w:=w) (all:=bs.map bv) (t:=.tup [5,6]) (b:=yba) (xs:=bs.map bv) (en:=eT (some v) b e h.length 0 none none none none none none none none) (h:=h++[.lst []])
  (fun j en hh=>(∃ o:AO,hh=h++[o])/\(j<=bs.length->∃ o5 o6 o7 o8 o9 o10 o11 o12,en=eT (some v) b e h.length (fB (bs.take j)).length o5 o6 o7 o8 o9 o10 o11 o12/\hh=h++[.lst ((prt b e 0 (bs.take j)).map bv)]))
  ⟨⟨_,rfl⟩,fun _=>⟨_,_,_,_,_,_,_,_,rfl,rfl⟩⟩ (fun _ _ _ p=>by obtain ⟨o,rfl⟩:=p.1;exact (sr.app [o]).live) (by
   rintro j u en hh hu ⟨p1,p2⟩
   rw [List.getElem?_map] at hu
   obtain ⟨x,ex,rfl⟩:=Option.map_eq_some_iff.mp hu
   have hj:=(List.getElem?_eq_some_iff.mp ex).1
   obtain ⟨o5,o6,o7,o8,o9,o10,o11,o12,rfl,rfl⟩:=p2 (by lia)
   have eR:(h++[AO.lst ((prt b e 0 (bs.take j)).map bv)])[h.length]? = some (.lst ((prt b e 0 (bs.take j)).map bv)):=by simp
   have pl:=zaG (b:=b) (e:=e) (bs.take j) 0
   rw [List.length_take] at pl
   obtain ⟨c7,c8,c9,c10,c11,c12,ev⟩:=zhy (v0:=some v) (b:=b) (e:=e) (s:=(fB (bs.take j)).length) (x:=x) eR (by rw [List.length_map];lia) (ok x (List.mem_of_getElem? ex)) o7 o8 o9 o10 o11 o12
   show thn (yba (eT (some v) b e h.length (fB (bs.take j)).length (some (.str x.1)) (some (.int x.2)) o7 o8 o9 o10 o11 o12) _) _
   rw [ev]
   have e1:(fB (bs.take (j+1))).length=(fB (bs.take j)).length+x.1.length*x.2:=by
    rw [zcr ex,yca,ydp,List.length_append,zaV]
   have e2:prt b e 0 (bs.take (j+1))=prt b e 0 (bs.take j)++pn b e (fB (bs.take j)).length x:=by
    rw [zcr ex,zgd,Nat.zero_add,prt,prt,List.append_nil]
   refine ⟨?_,fun _=>⟨some (.str x.1),some (.int x.2),c7,c8,c9,c10,c11,c12,by rw [e1],?_⟩⟩
   ·exact ⟨.lst ((prt b e 0 (bs.take j)).map bv++(pn b e (fB (bs.take j)).length x).map bv),by simp⟩
   ·rw [e2,List.map_append];simp)
 rw [List.length_map] at r2
 obtain ⟨o5,o6,o7,o8,o9,o10,o11,o12,rfl,rfl⟩:=r2.2 (Nat.le_refl _)
 rw [List.take_length] at r1
 have it:ya4 (sVar 0) (eT (some v) b e h.length 0 none none none none none none none none) (h++[.lst []]) = .ok (bs.map bv,w) (h++[.lst []]):=(sr.app _).it rfl
 have f1:=(yb2 (t:=.tup [5,6]) (b:=yba) it).trans r1
 unfold yaF
 generalize sFor (ya4 (sVar 0)) (.tup [5,6]) yba=F1 at *
 generalize h++[.lst ((prt b e 0 bs).map bv)]=H2 at *
 simp only [eT] at f1
 have f1':F1 [some v,some (.int b),some (.int e),some (.ref h.length),some (.int 0),none,none,none,none,none,none,none,none] (h++[.lst []]) = .nx [some v,some (.int b),some (.int e),some (.ref h.length),some (.int (fB bs).length),o5,o6,o7,o8,o9,o10,o11,o12] H2:=f1
 simp [f1']
theorem zeV:∀ bs:List Bk,ydP (bs.map fun x:Bk=>AV.str (repS x.1 x.2))=some (bs.map fun x:Bk=>repS x.1 x.2)
 | []=>rfl
 | x::r=>by simp [zeV r]
theorem zc6:∀ bs:List Bk,((bs.map fun x:Bk=>repS x.1 x.2).map fun z:Str=>z.cps.toList).flatten=fB bs
 | []=>rfl
 | x::r=>by rw [List.map_cons,List.map_cons,List.flatten_cons,zc6 r,fB];rfl
theorem zfk {h:AH} {b e:Nat} {bs:List Bk} {v:AV} {u:Option Nat} (sr:Src h bs v u) (ok:∀ x∈bs,Ok x) (hl:bs.length<=300) (w:e-b<=10000) :
  ∃ (z:Str) (o:AO),ycF [v,.int b,.int e] h = .ok (.str z) (h++[o])/\z.cps.toList=clip b e (fB bs) 0:=by
 have fp:=za6 (b:=b) (e:=e) sr ok hl
 have ok' := ycD (b:=b) (e:=e) bs 0 ok
 have pf:=ydT (b:=b) (e:=e) bs 0 ok
 have pl:=zaG (b:=b) (e:=e) bs 0
 have cl:=zc4 b e 0 (fB bs)
 generalize prt b e 0 bs=qs at *
 obtain ⟨H,eH⟩:∃ H,H=h++[AO.lst (qs.map bv)]:=⟨_,rfl⟩
 have eR:H[h.length]? = some (.lst (qs.map bv)):=by rw [eH];simp
 rw [<- eH] at fp
 have lv:ybx (some h.length) (qs.map bv) H=true:=by simp [eR]
 have cp:=zaT (js:=[]) (en:=[some v,some (.int b),some (.int e)]) (w:=some h.length) (all:=qs.map bv) (c:=un2 sYes) (p:=fun _=>true) (e:=un2 (sOp2 ydy (sVar 0) (sVar 1))) (g:=bv) (f:=fun x:Bk=>AV.str (repS x.1 x.2)) (h:=H) lv qs [] (fun _ _=>rfl) (by
  intro x hx _
  have a:=ye6 hx
  have k:=ok' x hx
  have ka:=k.a
  have kc:=k.c
  have m1:x.2<=x.1.length*x.2:=by
   have:=Nat.mul_le_mul_right x.2 ka
   lia
  have lf:(fB qs).length<=e-b:=by rw [pf];exact cl
  have c1:(x.2:Int).natAbs<2 ^ 40:=by
   rw [Int.natAbs_natCast]
   exact Nat.lt_of_le_of_lt (m:=10000) (by lia) (by decide)
  have c2:x.1.length*(x.2:Int).toNat<=1000000:=by rw [Int.toNat_natCast];lia
  show ydy (.str x.1) (.int x.2) H=_
  simp only [ydy]
  rw [if_pos ⟨c1,c2⟩,Int.toNat_natCast]) (Nat.le_trans (m:=900) (by simp;lia) (by decide))
 rw [List.nil_append,List.filter_eq_self.mpr (fun _ _=>rfl)] at cp
 have lf:(((qs.map fun x:Bk=>repS x.1 x.2).map fun z:Str=>z.cps.toList).flatten).length<=1000000:=by
  rw [zc6,pf];lia
 have jn:yc6 (.str "") [.fl (qs.map fun x:Bk=>AV.str (repS x.1 x.2))] H = .ok (.str ⟨(fB qs).toArray⟩) H:=by
  have e:(Str.ofString "")=Str.empty:=by decide +kernel
  unfold yc6
  simp only [e,if_true,ybw,zeV]
  rw [if_pos lf,zc6]
 refine ⟨⟨(fB qs).toArray⟩,.lst (qs.map bv),?_,pf⟩
 rw [<- eH]
 have it:ya4 (yae yaF (yab (sVar 0) (yab (sVar 1) (yab (sVar 2) sNil)))) [some v,some (.int b),some (.int e)] h = .ok (qs.map bv,some h.length) H:=by
  simp [fp,eR]
 have sc:yb1 [] (ya4 (yae yaF (yab (sVar 0) (yab (sVar 1) (yab (sVar 2) sNil))))) sYes (sOp2 ydy (sVar 0) (sVar 1)) [some v,some (.int b),some (.int e)] h = .ok (.fl (qs.map fun x:Bk=>AV.str (repS x.1 x.2))) H:=by
  simp only [yb1,yby,it,cp]
 unfold ycF
 generalize yb1 [] (ya4 (yae yaF (yab (sVar 0) (yab (sVar 1) (yab (sVar 2) sNil))))) sYes (sOp2 ydy (sVar 0) (sVar 1))=SC at *
 simp [sc,jn,-yc6]
theorem sumB:∀ bs:List Bk,(bs.map fun x:Bk=>((x.1.length*x.2:Nat):Int)).sum=((fB bs).length:Int)
 | []=>rfl
 | x::r=>by rw [List.map_cons,List.sum_cons,sumB r,fB,List.length_append,zaV];lia
theorem zb8 {h:AH} {bs:List Bk} {v:AV} {w:Option Nat} (sr:Src h bs v w) (ok:∀ x∈bs,Ok x) (hl:bs.length<=300):ybe [v] h = .ok (.int (fB bs).length) h:=by
 have c1:=zaT (js:=[]) (en:=[some v]) (w:=w) (all:=bs.map bv) (c:=un2 sYes) (e:=un2 (sOp2 fMul (yae fLen (yab (sVar 0) sNil)) (sVar 1))) (g:=bv) (f:=fun x:Bk=>AV.int ((x.1.length*x.2:Nat):Int)) (p:=fun _=>true) (h:=h) sr.live bs [] (fun _ _=>rfl) (by
  intro x hx _
  have b:=(ok x hx).b
  exact yfl (a:=x.1.length) (b:=x.2) (by lia) rfl h) (by exact Nat.le_trans (m:=300) (by simpa using hl) (by decide))
 rw [List.filter_eq_self.mpr (fun _ _=>rfl),List.nil_append] at c1
 have it:ya4 (sVar 0) [some v] h = .ok (bs.map bv,w) h:=sr.it rfl
 have e:(bs.map fun x:Bk=>AV.int ((x.1.length*x.2:Nat):Int))=(bs.map fun x:Bk=>((x.1.length*x.2:Nat):Int)).map AV.int:=by rw [List.map_map];rfl
 rw [e] at c1
 have cp:yb1 [] (ya4 (sVar 0)) sYes (sOp2 fMul (yae fLen (yab (sVar 0) sNil)) (sVar 1)) [some v] h = .ok (.fl ((bs.map fun x:Bk=>((x.1.length*x.2:Nat):Int)).map AV.int)) h:=by
  simp only [yb1,yby,it,c1]
 have sm:fSum [.fl ((bs.map fun x:Bk=>((x.1.length*x.2:Nat):Int)).map AV.int)] h = .ok (.int (fB bs).length) h:=by
  simp only [fSum,zdl,sumB]
 unfold ybe
 generalize yb1 [] (ya4 (sVar 0)) sYes (sOp2 fMul (yae fLen (yab (sVar 0) sNil)) (sVar 1))=CP at *
 generalize (bs.map fun x:Bk=>((x.1.length*x.2:Nat):Int)).map AV.int=Z at *
 simp [cp,sm,-fSum]
end Sk
namespace Sk
open PySem PySem.Spec L2 Sm
structure Fr (L:Nat) (h h':AH):Prop where
 fr:∀ i,i<h.length->i≠L->h'[i]? = h[i]?
 hl:h.length<=h'.length
 ro:∃ N:Int,h'[L]? = some (.lst [.int N])
theorem Fr.trans {L:Nat} {h h' h'':AH} (a:Fr L h h') (b:Fr L h' h''):Fr L h h'' :=
 ⟨fun i hi n=>(b.fr i (Nat.lt_of_lt_of_le hi a.hl) n).trans (a.fr i hi n),Nat.le_trans a.hl b.hl,b.ro⟩
theorem Fr.app {L:Nat} {h h':AH} (a:Fr L h h') (r:AH):Fr L h (h' ++ r):=by
 obtain ⟨N,e⟩:=a.ro
 exact ⟨fun i hi n=>by rw [List.getElem?_append_left (Nat.lt_of_lt_of_le hi a.hl)];exact a.fr i hi n,by rw [List.length_append];have:=a.hl;lia,N,by rw [List.getElem?_append_left (yaP e)];exact e⟩
theorem Fr.set {L:Nat} {h h':AH} (a:Fr L h h') (N':Int):Fr L h (h'.set L (.lst [.int N'])):=by
 obtain ⟨N,e⟩:=a.ro
 exact ⟨fun i hi n=>by rw [List.getElem?_set_ne (Ne.symm n)];exact a.fr i hi n,by rw [List.length_set];exact a.hl,N',List.getElem?_set_self (yaP e)⟩
theorem Fr.new {L R:Nat} {h h':AH} (a:Fr L h h') (hR:h.length<=R) (hL:L<h.length) (o:AO):Fr L h (h'.set R o):=by
 obtain ⟨N,e⟩:=a.ro
 exact ⟨fun i hi n=>by rw [List.getElem?_set_ne (by lia)];exact a.fr i hi n,by rw [List.length_set];exact a.hl,N,by rw [List.getElem?_set_ne (by lia)];exact e⟩
theorem Fr.take {L:Nat} {h h':AH} (a:Fr L h h') (m:Nat) (hm:0<m) (hm2:m<=10 ^ 50):∃ (v:Nat) (N:Int),v<m/\yau [.ref L,.int m] h' = .ok (.int v) (h'.set L (.lst [.int N]))/\Fr L h (h'.set L (.lst [.int N])):=by
 obtain ⟨N,e⟩:=a.ro
 obtain ⟨v,N',hv,t⟩:=za5 m e hm hm2
 exact ⟨v,N',hv,t,a.set N'⟩
abbrev nvz (l:List Nat):List AV:=l.map fun k:Nat=>AV.int k
theorem zdL {h:AH} {E:Nat} {xs:List AV} {v:AV} (e:h[E]? = some (.lst (xs++[v]))):fIx (.ref E) (.int (-1)) h = .ok v h:=by
 simp only [fIx,e,zhS]
theorem Src.fr {L:Nat} {h h':AH} {bs:List Bk} {v:AV} {w:Option Nat} (s:Src h bs v w) (n:v ≠ .ref L) (f:Fr L h h'):Src h' bs v w:=by
 cases s with
 | ref e=>exact .ref ((f.fr _ (yaP e) (fun z=>n (by rw [z]))).trans e)
 | fl=>exact .fl
theorem zgF {h:AH} {L:Nat} {bs:List Bk} {v:AV} {w:Option Nat} (sr:Src h bs v w) (ok:∀ x∈bs,Ok x) (hl:bs.length<=300) :
  ∃ (es:List Nat) (c3 c4:Option AV),es.length<=bs.length/\sFor (ya4 (sVar 0)) (.tup [3,4]) ybm [some v,some (.ref L),some (.ref h.length),none,none,none,none,none] (h++[.lst [.int 0]]) = .nx [some v,some (.ref L),some (.ref h.length),c3,c4,none,none,none] (h++[.lst (nvz es++[.int (fB bs).length])]):=by
 obtain ⟨e',h',r1,r2⟩:=ycv (w:=w) (all:=bs.map bv) (t:=.tup [3,4]) (b:=ybm) (xs:=bs.map bv) (en:=[some v,some (.ref L),some (.ref h.length),none,none,none,none,none]) (h:=h++[.lst [.int 0]])
  (fun j en hh=>(∃ o:AO,hh=h++[o])/\(j<=bs.length->∃ (es:List Nat) (c3 c4:Option AV),es.length<=j/\en=[some v,some (.ref L),some (.ref h.length),c3,c4,none,none,none]/\hh=h++[.lst (nvz es++[.int (fB (bs.take j)).length])]))
  ⟨⟨_,rfl⟩,fun _=>⟨[],none,none,Nat.le_refl _,rfl,rfl⟩⟩ (fun _ _ _ p=>by obtain ⟨o,rfl⟩:=p.1;exact (sr.app [o]).live) (by
   rintro j u en hh hu ⟨p1,p2⟩
   rw [List.getElem?_map] at hu
   obtain ⟨x,ex,rfl⟩:=Option.map_eq_some_iff.mp hu
   have hj:=(List.getElem?_eq_some_iff.mp ex).1
   obtain ⟨es,c3,c4,le,rfl,rfl⟩:=p2 (by lia)
   obtain ⟨S,eS⟩:∃ S,S=(fB (bs.take j)).length:=⟨_,rfl⟩
   rw [<- eS]
   have eE:(h++[AO.lst (nvz es++[.int S])])[h.length]? = some (.lst (nvz es++[.int S])):=by simp
   have e1:(fB (bs.take (j+1))).length=S+x.1.length*x.2:=by
    rw [zcr ex,yca,ydp,List.length_append,zaV,eS]
   have b:=(ok x (List.mem_of_getElem? ex)).b
   have hset:(h++[AO.lst (nvz es++[.int S])]).set h.length (.lst (nvz es++[.int S]++[.int ((S+x.1.length*x.2:Nat):Int)]))=h++[.lst (nvz (es++[S])++[.int ((S+x.1.length*x.2:Nat):Int)])]:=by simp [nvz]
   obtain ⟨hc,ec⟩:∃ hc,hc=h++[AO.lst (nvz es++[.int S])]:=⟨_,rfl⟩
   rw [<- ec] at eE hset ⊢
   have ml:=yfl (a:=x.1.length) (b:=x.2) (by lia) rfl hc
   have ad:=ydY (a:=S) (b:=x.1.length*x.2) rfl hc
   have la:=zdL eE
   have ap:=ap1 eE (by simp;lia) (.int ((S+x.1.length*x.2:Nat):Int))
   rw [hset] at ap
   have isl:yax (.ref h.length) hc=true:=by simp [eE]
   have ln:fLen [.str x.1] hc = .ok (.int x.1.length) hc:=rfl
   show thn (ybm [some v,some (.ref L),some (.ref h.length),some (.str x.1),some (.int x.2),none,none,none] hc) _
   have ev:ybm [some v,some (.ref L),some (.ref h.length),some (.str x.1),some (.int x.2),none,none,none] hc = .nx [some v,some (.ref L),some (.ref h.length),some (.str x.1),some (.int x.2),none,none,none] (h++[.lst (nvz (es++[S])++[.int ((S+x.1.length*x.2:Nat):Int)])]):=by
    generalize h++[.lst (nvz (es++[S])++[.int ((S+x.1.length*x.2:Nat):Int)])]=HF at *
    clear hset eE ec e1
    generalize ((S+x.1.length*x.2:Nat):Int)=SX at *
    generalize ((x.1.length*x.2:Nat):Int)=XM at *
    generalize (x.1.length:Int)=XL at *
    simp [ybm,isl,la,ln,ml,ad,ap,-yax,-fIx,-fLen,-fMul,-fAdd,-yaA]
   rw [ev]
   exact ⟨⟨_,rfl⟩,fun _=>⟨es++[S],_,_,by simp;lia,rfl,by rw [e1]⟩⟩)
 rw [List.length_map] at r2
 obtain ⟨es,c3,c4,le,rfl,rfl⟩:=r2.2 (Nat.le_refl _)
 rw [List.take_length] at r1
 have it:ya4 (sVar 0) [some v,some (.ref L),some (.ref h.length),none,none,none,none,none] (h++[.lst [.int 0]]) = .ok (bs.map bv,w) (h++[.lst [.int 0]]):=(sr.app _).it rfl
 exact ⟨es,c3,c4,le,(yb2 it).trans r1⟩
end Sk
namespace Sk
open PySem PySem.Spec L2 Sm
abbrev ePl (v:AV) (L E:Nat) (c3 c4:Option AV) (P:Nat) (o6 o7:Option AV):En:=[some v,some (.ref L),some (.ref E),c3,c4,some (.ref P),o6,o7]
structure Pq (L:Nat) (h:AH) (ES:List AV) (hh:AH) (qs:List Int):Prop where
 f:Fr L h hh
 e:hh[h.length]? = some (.lst ES)
 p:hh[h.length+1]? = some (.lst (qs.map AV.int))
theorem ziv {L:Nat} {v:AV} {h hh:AH} {ES:List AV} {qs:List Int} {k:Nat} {c3 c4 o7:Option AV} (q:Pq L h ES hh qs) (hL:L<h.length) (lq:qs.length<=1800) :
  ∃ (h':AH) (ws:List Int),ws.length=5/\(k:Int)∈ws/\ybn (ePl v L h.length c3 c4 (h.length+1) (some (.int k)) o7) hh = .nx (ePl v L h.length c3 c4 (h.length+1) (some (.int k)) o7) h'/\Pq L h ES h' (qs++ws):=by
 obtain ⟨v1,N1,hv1,t1,f1⟩:=q.f.take 40 (by decide) (by decide)
 obtain ⟨h1,eh1⟩:∃ h1,h1=hh.set L (.lst [.int N1]):=⟨_,rfl⟩
 rw [<- eh1] at t1 f1
 have t1':yau [.ref L,.int 40] hh = .ok (.int v1) h1:=t1
 obtain ⟨v2,N2,hv2,t2,f2⟩:=f1.take 40 (by decide) (by decide)
 obtain ⟨h2,eh2⟩:∃ h2,h2=h1.set L (.lst [.int N2]):=⟨_,rfl⟩
 rw [<- eh2] at t2 f2
 have t2':yau [.ref L,.int 40] h1 = .ok (.int v2) h2:=t2
 have E2:h2[h.length]? = some (.lst ES):=by rw [eh2,List.getElem?_set_ne (by lia),eh1,List.getElem?_set_ne (by lia)];exact q.e
 have P2:h2[h.length+1]? = some (.lst (qs.map AV.int)):=by rw [eh2,List.getElem?_set_ne (by lia),eh1,List.getElem?_set_ne (by lia)];exact q.p
 obtain ⟨ws,ews⟩:∃ ws:List Int,ws=[(k:Int),(k:Int)-1,(k:Int)+1,(k:Int)-v1,(k:Int)+v2]:=⟨_,rfl⟩
 obtain ⟨h3,eh3⟩:∃ h3,h3=h2++[AO.lst (ws.map AV.int)]:=⟨_,rfl⟩
 have P3:h3[h.length+1]? = some (.lst (qs.map AV.int)):=by rw [eh3,List.getElem?_append_left (yaP P2)];exact P2
 have W3:h3[h2.length]? = some (.lst (ws.map AV.int)):=by rw [eh3];simp
 have E3:h3[h.length]? = some (.lst ES):=by rw [eh3,List.getElem?_append_left (yaP E2)];exact E2
 have lw:ws.length=5:=by rw [ews];rfl
 have xt:yel (.ref (h.length+1)) [.ref h2.length] h3 = .ok .non (h3.set (h.length+1) (.lst ((qs++ws).map AV.int))):=by
  have:(qs.map AV.int).length+(ws.map AV.int).length<=sizeLine:=Nat.le_trans (m:=2000) (by simp;lia) (by decide)
  simp only [yel,P3,W3,this,if_true,List.map_append]
 have isl:yax (.ref (h.length+1)) hh=true:=by simp [q.p]
 refine ⟨h3.set (h.length+1) (.lst ((qs++ws).map AV.int)),ws,lw,by rw [ews];simp,?_,⟨(eh3▸f2.app _).new (by lia) hL _,by rw [List.getElem?_set_ne (by lia)];exact E3,List.getElem?_set_self (yaP P3)⟩⟩
 generalize h3.set (h.length+1) (.lst ((qs++ws).map AV.int))=HF at *
 have s1:∀ hx,fSub (.int k) (.int 1) hx = .ok (.int ((k:Int)-1)) hx:=fun hx=>rfl
 have s2:∀ hx,fAdd (.int k) (.int 1) hx = .ok (.int ((k:Int)+1)) hx:=fun hx=>rfl
 have s3:∀ hx,fSub (.int k) (.int v1) hx = .ok (.int ((k:Int)-v1)) hx:=fun hx=>rfl
 have s4:∀ hx,fAdd (.int k) (.int v2) hx = .ok (.int ((k:Int)+v2)) hx:=fun hx=>rfl
 have hw:ws.map AV.int=[.int k,.int ((k:Int)-1),.int ((k:Int)+1),.int ((k:Int)-v1),.int ((k:Int)+v2)]:=by rw [ews];rfl
 rw [hw] at eh3
 clear q f1 f2 E2 P2 P3 W3 E3 t1 t2 eh1 eh2 hw ews
 simp only [ePl]
 generalize (k:Int)-1=K1 at *
 generalize (k:Int)+1=K2 at *
 generalize (k:Int)-v1=K3 at *
 generalize (k:Int)+v2=K4 at *
 simp [ybn,isl,s1,s2,t1',s3,t2',s4,<- eh3,xt,-yax,-fSub,-fAdd,-yel]
theorem ziw {L T:Nat} {v:AV} {h hh:AH} {es:List AV} {qs:List Int} {c3 c4 o6 o7:Option AV} (q:Pq L h (es++[.int T]) hh qs) (hL:L<h.length) (lq:qs.length<=1800) (hT:T<=1000000000000000000) :
  ∃ (h':AH) (w:Int),ybo (ePl v L h.length c3 c4 (h.length+1) o6 o7) hh = .nx (ePl v L h.length c3 c4 (h.length+1) o6 o7) h'/\Pq L h (es++[.int T]) h' (qs++[w]):=by
 obtain ⟨v1,N1,hv1,t1,f1⟩:=q.f.take (T+1) (by lia) (Nat.le_trans (m:=1000000000000000001) (by lia) (by decide))
 obtain ⟨h1,eh1⟩:∃ h1,h1=hh.set L (.lst [.int N1]):=⟨_,rfl⟩
 rw [<- eh1] at t1 f1
 have E1:h1[h.length]? = some (.lst (es++[.int T])):=by rw [eh1,List.getElem?_set_ne (by lia)];exact q.e
 have P1:h1[h.length+1]? = some (.lst (qs.map AV.int)):=by rw [eh1,List.getElem?_set_ne (by lia)];exact q.p
 have la:=zdL q.e
 have ad:=ydY (a:=T) (b:=1) rfl hh
 have ad':fAdd (.int T) (.int 1) hh = .ok (.int ((T+1:Nat):Int)) hh:=ad
 have ap:=ap1 P1 (by simp;lia) (.int v1)
 have isl:yax (.ref (h.length+1)) hh=true:=by simp [q.p]
 refine ⟨h1.set (h.length+1) (.lst ((qs++[(v1:Int)]).map AV.int)),v1,?_,⟨f1.new (by lia) hL _,by rw [List.getElem?_set_ne (by lia)];exact E1,List.getElem?_set_self (yaP P1)⟩⟩
 rw [List.map_append]
 have ap':yaA (.ref (h.length+1)) [.int v1] h1 = .ok .non (h1.set (h.length+1) (.lst (qs.map AV.int++[(v1:Int)].map AV.int))):=ap
 generalize h1.set (h.length+1) (.lst (qs.map AV.int++[(v1:Int)].map AV.int))=HF at *
 clear q f1 E1 P1 eh1 ap ad
 simp only [ePl]
 generalize ((T+1:Nat):Int)=T1 at *
 simp [ybo,isl,la,ad',t1,ap',-yax,-fIx,-fAdd,-yaA]
theorem zec {h:AH} {L:Nat} {bs:List Bk} {v:AV} {w:Option Nat} (sr:Src h bs v w) (eL:∃ N:Int,h[L]? = some (.lst [.int N])) (ok:∀ x∈bs,Ok x) (hl:bs.length<=300) (hT:(fB bs).length<=1000000000000000000) :
  ∃ (h':AH) (qs:List Int),ybu [v,.ref L] h = .ok (.fl (qs.map AV.int)) h'/\Fr L h h'/\(∀ q∈qs,0<=q/\q<=(fB bs).length)/\qs.length<=1800/\1<=qs.length:=by
 obtain ⟨N0,eN⟩:=eL
 have hL:=yaP eN
 obtain ⟨es,c3,c4,le,l1⟩:=zgF (L:=L) sr ok hl
 obtain ⟨T,eT_⟩:∃ T,T=(fB bs).length:=⟨_,rfl⟩
 rw [<- eT_] at l1 hT ⊢
 obtain ⟨H1,eH1⟩:∃ H1,H1=h++[AO.lst (nvz es++[.int T])]:=⟨_,rfl⟩
 have n1:H1.length=h.length+1:=by rw [eH1];simp
 have F0:Fr L h h:=⟨fun _ _ _=>rfl,Nat.le_refl _,N0,eN⟩
 have Q0:Pq L h (nvz es++[.int T]) (H1++[.lst []]) []:=by
  refine ⟨by rw [eH1,List.append_assoc];exact F0.app _,by rw [List.getElem?_append_left (by lia),eH1];simp,by rw [<- n1];simp⟩
 obtain ⟨ks,eks⟩:∃ ks:List Nat,ks=es++[T]:=⟨_,rfl⟩
 have ek:nvz es++[.int T]=nvz ks:=by rw [eks];simp [nvz]
 have lk:ks.length<=301:=by rw [eks];simp;lia
 obtain ⟨e',H2,r1,r2⟩:=ycv (w:=some h.length) (all:=nvz ks) (t:=.nm 6) (b:=ybn) (xs:=nvz ks) (en:=ePl v L h.length c3 c4 (h.length+1) none none) (h:=H1++[.lst []])
  (fun j en hh=>hh[h.length]? = some (.lst (nvz ks))/\(j<=ks.length->∃ (qs:List Int) (o6:Option AV),qs.length<=5*j/\(∀ i x,i<j->ks[i]? = some x->((x:Nat):Int)∈qs)/\en=ePl v L h.length c3 c4 (h.length+1) o6 none/\Pq L h (nvz es++[.int T]) hh qs))
  ⟨ek▸Q0.e,fun _=>⟨[],none,Nat.le_refl _,fun i x z=>absurd z (Nat.not_lt_zero _),rfl,Q0⟩⟩ (fun _ _ _ p=>by simp [p.1]) (by
   rintro j u en hh hu ⟨p1,p2⟩
   rw [List.getElem?_map] at hu
   obtain ⟨x,ex,rfl⟩:=Option.map_eq_some_iff.mp hu
   have hj:=(List.getElem?_eq_some_iff.mp ex).1
   obtain ⟨qs,o6,lq,mq,rfl,Q⟩:=p2 (by lia)
   obtain ⟨h',ws,lw,mw,ev,Q'⟩:=ziv (v:=v) (k:=x) (c3:=c3) (c4:=c4) (o7:=none) Q hL (by lia)
   show thn (ybn (ePl v L h.length c3 c4 (h.length+1) (some (.int x)) none) hh) _
   rw [ev]
   exact ⟨ek▸Q'.e,fun _=>⟨qs++ws,_,by rw [List.length_append];lia,fun i y hi hy=>(by
    by_cases z:i=j
    ·subst z
     rw [ex] at hy
     cases hy
     exact List.mem_append_right _ mw
    ·exact List.mem_append_left _ (mq i y (by lia) hy)),rfl,Q'⟩⟩)
 have lnk:(nvz ks).length=ks.length:=List.length_map ..
 rw [lnk] at r2
 obtain ⟨qs,o6,lq,mq,rfl,Q2⟩:=r2.2 (Nat.le_refl _)
 have mT:(T:Int)∈qs:=mq es.length T (by rw [eks];simp) (by rw [eks];simp)
 have it2:iVal (sVar 2) (ePl v L h.length c3 c4 (h.length+1) none none) (H1++[.lst []]) = .ok (nvz ks,some h.length) (H1++[.lst []]):=by
  have:=Q0.e
  rw [ek] at this
  simp [ePl,this]
 have l2:=(yb2 (t:=.nm 6) (b:=ybn) it2).trans r1
 obtain ⟨e',H3,r3,r4⟩:=ycv (w:=none) (all:=yaX 0 3) (t:=.nm 7) (b:=ybo) (xs:=yaX 0 3) (en:=ePl v L h.length c3 c4 (h.length+1) o6 none) (h:=H2)
  (fun j en hh=>j<=3->∃ (qs:List Int) (o7:Option AV),qs.length<=1505+j/\(T:Int)∈qs/\en=ePl v L h.length c3 c4 (h.length+1) o6 o7/\Pq L h (nvz es++[.int T]) hh qs)
  (fun _=>⟨qs,none,by lia,mT,rfl,Q2⟩) (fun _ _ _ _=>rfl) (by
   intro j u en hh hu hp
   by_cases q:j<3
   ·obtain ⟨qs,o7,lq,mq,rfl,Q⟩:=hp (by lia)
    obtain ⟨h',w,ev,Q'⟩:=ziw (v:=v) (c3:=c3) (c4:=c4) (o6:=o6) (o7:=some u) Q hL (by lia) hT
    show thn (ybo (ePl v L h.length c3 c4 (h.length+1) o6 (some u)) hh) _
    rw [ev]
    exact fun _=>⟨qs++[w],_,by rw [List.length_append];simp;lia,List.mem_append_left _ mq,rfl,Q'⟩
   ·rw [zbc,if_neg q] at hu;cases hu)
 rw [zaX] at r4
 obtain ⟨qs,o7,lq,mT3,rfl,Q3⟩:=r4 (Nat.le_refl _)
 have l3:=(yb2 (t:=.nm 7) (b:=ybo) (zbd (a:=sLit (.int 3)) (en:=ePl v L h.length c3 c4 (h.length+1) o6 none) (h:=H2) (n:=3) rfl (by decide))).trans r3
 have la:=zdL Q3.e
 have lv:ybx (some (h.length+1)) (qs.map AV.int) H3=true:=by simp [Q3.p]
 have cp:=zaT (js:=[2]) (en:=ePl v L h.length c3 c4 (h.length+1) o6 o7) (w:=some (h.length+1)) (all:=qs.map AV.int) (c:=yao (ycg fLe fLe (sLit (.int 0)) (sVar 0) (sOp2 fIx (sVar 1) (sOp1 fNeg (sLit (.int 1)))))) (e:=sVar 0) (g:=AV.int) (f:=AV.int) (p:=fun x=>decide (0<=x/\x<=(T:Int))) (h:=H3) lv qs [] (by
  intro x hx
  have l1:fLe (.int 0) (.int x) H3 = .ok (.bl (decide (0<=x))) H3:=by simp
  have l2:fLe (.int x) (.int T) H3 = .ok (.bl (decide (x<=T))) H3:=by simp
  by_cases a:0<=x
  ·rw [decide_eq_true a] at l1
   have:decide (0<=x/\x<=(T:Int))=decide (x<=(T:Int)):=by simp [a]
   rw [this]
   simp [ePl,l1,la,l2,-fLe,-fIx]
  ·rw [decide_eq_false a] at l1
   have:decide (0<=x/\x<=(T:Int))=false:=by simp [a]
   rw [this]
   simp [ePl,l1,-fLe]) (fun x _ _=>rfl) (Nat.le_trans (m:=1800) (by simp;lia) (by decide))
 rw [List.nil_append] at cp
 have it4:iVal (sVar 5) (ePl v L h.length c3 c4 (h.length+1) o6 o7) H3 = .ok (qs.map AV.int,some (h.length+1)) H3:=by
  have:=Q3.p
  simp [ePl,this]
 have sc:yby [2] (iVal (sVar 5)) (yao (ycg fLe fLe (sLit (.int 0)) (sVar 0) (sOp2 fIx (sVar 1) (sOp1 fNeg (sLit (.int 1)))))) (sVar 0) (ePl v L h.length c3 c4 (h.length+1) o6 o7) H3 = .ok (.fl ((qs.filter fun x=>decide (0<=x/\x<=(T:Int))).map AV.int)) H3:=by
  simp only [yby,it4,cp]
 refine ⟨H3,qs.filter fun x=>decide (0<=x/\x<=(T:Int)),?_,Q3.f,?_,?_,?_⟩
 ·generalize (qs.filter fun x=>decide (0<=x/\x<=(T:Int))).map AV.int=OUT at *
  clear Q0 Q2 Q3 r1 r3 cp la it2 it4 lv F0
  unfold ybu
  generalize yby [2] (iVal (sVar 5)) (yao (ycg fLe fLe (sLit (.int 0)) (sVar 0) (sOp2 fIx (sVar 1) (sOp1 fNeg (sLit (.int 1)))))) (sVar 0)=SC at *
  generalize sFor (ybT (sLit (.int 3))) (.nm 7) ybo=L3 at *
  generalize sFor (iVal (sVar 2)) (.nm 6) ybn=L2 at *
  generalize sFor (ya4 (sVar 0)) (.tup [3,4]) ybm=L1 at *
  rw [<- eH1] at l1
  have l2':L2 (ePl v L h.length c3 c4 H1.length none none) (H1++[.lst []]) = .nx (ePl v L h.length c3 c4 (h.length+1) o6 none) H2:=by rw [n1];exact l2
  clear l2 eH1 n1
  simp only [ePl] at l2' l3 sc
  simp [l1,l2',l3,sc]
 ·intro q hq
  rw [List.mem_filter,decide_eq_true_eq] at hq
  exact hq.2
 ·exact Nat.le_trans (List.length_filter_le _ _) (by lia)
 ·exact List.length_pos_of_mem (a:=(T:Int)) (by
   rw [List.mem_filter]
   exact ⟨mT3,by simp⟩)
end Sk
namespace Sk
open PySem PySem.Spec L2 Sm
structure Rr (L:Nat) (h:AH) (ps:List Pc):Prop where
 sh:ShelfAt h 0 ps
 gd:Good ps
 far:8<L
 ro:∃ N:Int,h[L]? = some (.lst [.int N])
theorem Rr.fr {L:Nat} {h h':AH} {ps:List Pc} (s:Rr L h ps) (f:Fr L h h'):Rr L h' ps:=by
 have l8:=yaP s.sh.h8
 have fa:=s.far
 exact ⟨s.sh.keep fun i i1 i8=>f.fr i (by lia) (by lia),s.gd,s.far,f.ro⟩
theorem Rr.app {L:Nat} {h:AH} {ps:List Pc} (s:Rr L h ps) (r:AH):Rr L (h++r) ps:=by
 obtain ⟨N,e⟩:=s.ro
 exact ⟨s.sh.app r,s.gd,s.far,N,by rw [List.getElem?_append_left (yaP e)];exact e⟩
theorem Rr.dd {L:Nat} {h h':AH} {ps ps':List Pc} {k:Nat} (s:Rr L h ps) (d:Dd 0 h h' ps ps' k):Rr L h' ps' := by
 obtain ⟨N,e⟩:=s.ro
 have:=s.far
 exact ⟨d.sh,d.gd,s.far,N,(d.fr L (.inr (by omega))).trans e⟩
abbrev eRd (n:Nat) (v:AV) (L T:Nat) (o5 o6:Option AV):En:=[some (.ref 0),some (.int n),some v,some (.ref L),some (.int T),o5,o6]
theorem zeW {L n:Nat} {v:AV} {w:Option Nat} {h:AH} {ps:List Pc} {X:Str} {bs:List Bk} (s:Rr L h ps) (T:TxZ ps n X) (eX:X.cps.toList=fB bs) (hX:X.length<=1000000000000000000) (sr:Src h bs v w) (BL:v ≠ .ref L) (ok:∀ x∈bs,Ok x) (hl:bs.length<=300) :
  ∃ h',ya2 [.ref 0,.int n,v,.ref L] h = .ok (.bl true) h'/\Fr L h h' := by
 have xl:(fB bs).length=X.length:=by rw [<- eX,<- zad]
 have sg:=zb8 sr ok hl
 obtain ⟨m,em,sm⟩:=T.meas
 have fs:=zai s.sh em
 rw [sm] at fs
 obtain ⟨h1,qs,fp,F1,hq,lq,_⟩:=zec sr s.ro ok hl (by lia)
 rw [xl] at sg hq
 have s1:=s.fr F1
 have B1:=sr.fr BL F1
 have ne1:fNe (.int X.length) (.int X.length) h = .ok (.bl false) h:=by simp
 obtain ⟨e',h2,r1,r2⟩:=ycv (w:=none) (all:=qs.map AV.int) (t:=.nm 5) (b:=ybC) (xs:=qs.map AV.int) (en:=eRd n v L X.length none none) (h:=h1)
  (fun j en hh=>∃ (r:AH) (o5 o6:Option AV),en=eRd n v L X.length o5 o6/\hh=h1++r)
  ⟨[],none,none,rfl,(List.append_nil _).symm⟩ (fun _ _ _ _=>rfl) (by
   rintro j u en hh hu ⟨r,o5,o6,rfl,rfl⟩
   rw [List.getElem?_map] at hu
   obtain ⟨q,eq,rfl⟩:=Option.map_eq_some_iff.mp hu
   obtain ⟨q0,q1⟩:=hq q (List.mem_of_getElem? eq)
   obtain ⟨a,rfl⟩:∃ a:Nat,q=a:=⟨q.toNat,by lia⟩
   have s2:=s1.app r
   have B2:=B1.app r
   obtain ⟨hc,ehc⟩:∃ hc,hc=h1++r:=⟨_,rfl⟩
   rw [<- ehc] at s2 B2 ⊢
   obtain ⟨E,eE⟩:∃ E,E=min X.length (a+9):=⟨_,rfl⟩
   obtain ⟨z,r3,st,ez⟩:=zhx s2.sh s2.gd (b:=a) (e:=E) T (by lia) (by lia) (by lia)
   have B3:=B2.app r3
   obtain ⟨z2,o,ls,ez2⟩:=zfk (b:=a) (e:=E) B3 ok hl (by lia)
   have zz:z2=z:=zae (by rw [ez2,ez,eX])
   subst zz
   have ad:=ydY (a:=a) (b:=9) rfl hc
   have ad':fAdd (.int a) (.int 9) hc = .ok (.int ((a+9:Nat):Int)) hc:=ad
   have mn:=yfk X.length (a+9) hc
   rw [<- eE] at mn
   have ne2:fNe (.str z2) (.str z2) (hc++r3++[o]) = .ok (.bl false) (hc++r3++[o]):=by simp
   show thn (ybC (eRd n v L X.length (some (.int a)) o6) hc) _
   have ev:ybC (eRd n v L X.length (some (.int a)) o6) hc = .nx (eRd n v L X.length (some (.int a)) (some (.int E))) (hc++r3++[o]):=by
    clear s2 B2 B3 ehc ez ez2 ad eE
    simp only [eRd]
    generalize hc++r3++[o]=H4 at *
    generalize hc++r3=H3 at *
    generalize ((a+9:Nat):Int)=A9 at *
    generalize (X.length:Int)=XL at *
    generalize (E:Int)=EE at *
    simp [ybC,ad',mn,st,ls,ne2,-fAdd,-yb3,-fNe]
   rw [ev]
   exact ⟨r++r3++[o],_,_,rfl,by rw [ehc,List.append_assoc,List.append_assoc,List.append_assoc]⟩)
 obtain ⟨r,o5,o6,rfl,rfl⟩:=r2
 have it:iVal (yae ybu (yab (sVar 2) (yab (sVar 3) sNil))) (eRd n v L X.length none none) h = .ok (qs.map AV.int,none) h1:=by
  generalize qs.map AV.int=Q at *
  simp [eRd,fp]
 have l1:=(yb2 (t:=.nm 5) (b:=ybC) it).trans r1
 refine ⟨h1++r,?_,F1.app r⟩
 have ob:=s.sh.ob
 clear s s1 T F1 B1 r1 it fp
 unfold ya2
 generalize sFor (iVal (yae ybu (yab (sVar 2) (yab (sVar 3) sNil)))) (.nm 5) ybC=L1 at *
 simp only [eRd] at l1
 generalize h1++r=H9 at *
 generalize (X.length:Int)=XL at *
 simp [sg,ob,fs,ne1,l1,-fNe]
end Sk
namespace Sk
open PySem PySem.Spec L2 Sm
theorem zbP {h:AH} {p n a:Nat} {ps:List Pc} {x:Str} (S:ShelfAt h p ps) (g:Good ps) (T:TxZ ps n x) (ha:a<=x.length) (hz:ps.length<14000000) :
  ∃ (r:Nat) (ps':List Pc) (h':AH),Dn (yat 90 [.ref p,.int n,.int a]) p h h' ps ps' (32*(htOf ps n+1).toNat) r/\TxZ ps' r (tkS x a)/\htOf ps' r<=htOf ps n:=by
 by_cases a0:a=0
 ·subst a0
  have dv:Dn (yat 90 [.ref p,.int n,.int (0:Nat)]) p h h ps ps 0 0:=Dn.val S g fun hh pp S' _ pr=>fr_0
  exact ⟨0,ps,h,dv.as S g (fun _ _ _ _ _=>rfl) (Nat.zero_le _),.inl ⟨rfl,tk_0 x⟩,by rw [zbj];exact zaP T⟩
 ·obtain ⟨m,f,l,T1⟩:=T.pos (by lia)
  have h82:=ht82 g T1
  have m0:=T1.ky.ht
  obtain ⟨r,ps',h',m',f',l',d,T',q1,_⟩:=zc2 90 (p:=p) (a:=a) S g T1 (by lia) ha (by lia) (by lia)
  have r0:=T'.ky.ht
  rw [ybS T1.ms]
  exact ⟨r,ps',h',d.as S g (fun _ _ _ _ _=>rfl) (by lia),.inr ⟨_,_,_,T'⟩,by rw [ybS T'.ms];exact q1⟩
theorem zcs {h:AH} {p n a:Nat} {ps:List Pc} {x:Str} (S:ShelfAt h p ps) (g:Good ps) (T:TxZ ps n x) (ha:a<=x.length) (hz:ps.length<14000000) :
  ∃ (r:Nat) (ps':List Pc) (h':AH),Dn (yaw 90 [.ref p,.int n,.int a]) p h h' ps ps' (32*(htOf ps n+1).toNat) r/\TxZ ps' r (dpS x a)/\htOf ps' r<=htOf ps n:=by
 by_cases a0:a=0
 ·subst a0
  have dv:Dn (yaw 90 [.ref p,.int n,.int (0:Nat)]) p h h ps ps 0 n:=Dn.val S g fun hh pp S' _ pr=>bk_0
  exact ⟨n,ps,h,dv.as S g (fun _ _ _ _ _=>rfl) (Nat.zero_le _),by rw [dp_0];exact T,Int.le_refl _⟩
 ·obtain ⟨m,f,l,T1⟩:=T.pos (by lia)
  have sg:=T1.ky.sg
  by_cases ea:a=m.sg
  ·have dv:Dn (yaw 90 [.ref p,.int n,.int a]) p h h ps ps 0 0:=Dn.val S g fun hh pp S' _ pr=>yhg S' (zac pr T1.ms) a0 ea
   exact ⟨0,ps,h,dv.as S g (fun _ _ _ _ _=>rfl) (Nat.zero_le _),.inl ⟨rfl,yhe (by lia)⟩,by rw [zbj];exact zaP T⟩
  ·have h82:=ht82 g T1
   have m0:=T1.ky.ht
   obtain ⟨r,ps',h',m',f',l',d,T',q1,_⟩:=zdI 90 (p:=p) (a:=a) S g T1 (by lia) (by lia) (by lia)
   have r0:=T'.ky.ht
   rw [ybS T1.ms]
   exact ⟨r,ps',h',d.as S g (fun _ _ _ _ _=>rfl) (by lia),.inr ⟨_,_,_,T'⟩,by rw [ybS T'.ms];exact q1⟩
theorem zaI {ps ps':List Pc} {n:Nat} {x:Str} (T:TxZ ps n x) (pr:ps <+: ps'):htOf ps' n=htOf ps n:=by
 obtain ⟨m,em,_⟩:=T.meas
 rw [ybS em,ybS (zac pr em)]
theorem yho {ps:List Pc} {n:Nat} (T:TxZ ps n ""):htOf ps n = -1:=by
 rcases T with ⟨rfl,_⟩ | ⟨m,f,l,T⟩
 ·exact zbj ps
 ·have a:=T.ky.sg
  obtain ⟨k,c⟩:=T.ky.cnt
  have f1:=T.ky.f1
  have:("" : Str).length=0:=rfl
  rcases c with c | c<;>lia
theorem yfR {ps:List Pc} {n:Nat} {x:Str} (T:TxZ ps n x) (h:htOf ps n = -1):x = "" := by
 rcases T with ⟨_,rfl⟩ | ⟨m,f,l,T⟩
 ·rfl
 ·have:=T.ky.ht
  rw [ybS T.ms] at h
  lia
theorem yhp {h h1 h2 h3 h4:AH} {p a b t r1 r2 r3 r:Nat} {ps:List Pc} {ma mb:Ms} (S:ShelfAt h p ps) (ema:(meas ps)[a]? = some ma) (emb:(meas ps)[b]? = some mb) (tx:t<=ma.sg) (hx:ma.sg+mb.sg<=1000000000000000000)
  (e1:yat 90 [.ref p,.int a,.int t] h = .ok (.int r1) h1) (e2:yap [.ref p,.int r1,.int b] h1 = .ok (.int r2) h2) (e3:yaw 90 [.ref p,.int a,.int t] h2 = .ok (.int r3) h3) (e4:yap [.ref p,.int r2,.int r3] h3 = .ok (.int r) h4):ycI [.ref p,.int a,.int t,.int b] h = .ok (.int r) h4:=by
 have ck:=zga S ema tx
 have f1:=zai S ema
 have f2:=zai S emb
 have lk:=zaZ (i:=(ma.sg:Int)+mb.sg) (by lia) h
 have ob:=S.ob
 unfold ycI
 generalize yat 90=FF at *
 generalize yaw 90=FB at *
 simp [ob,f1,f2,ck,lk,e1,e2,e3,e4]
theorem yhq {h:AH} {p a b t:Nat} {ps:List Pc} {x y:Str} (S:ShelfAt h p ps) (g:Good ps) (A:TxZ ps a x) (B:TxZ ps b y) (tx:t<=x.length) (hx:x.length+y.length<=1000000000000000000) (hz:ps.length<13000000) :
  ∃ (r:Nat) (ps':List Pc) (h':AH),ycI [.ref p,.int a,.int t,.int b] h = .ok (.int r) h'/\Dd p h h' ps ps' (200*(1+max (htOf ps a) (htOf ps b)).toNat)/\TxZ ps' r ((tkS x t++y)++dpS x t):=by
 obtain ⟨ma,ema,sma⟩:=A.meas
 obtain ⟨mb,emb,smb⟩:=B.meas
 have ha:=htZ g A
 have hb:=htZ g B
 obtain ⟨r1,ps1,h1,d1,T1,q1⟩:=zbP (a:=t) S g A tx (by lia)
 have z1:=d1.dd.len
 have l1:=ybV tx
 have g1:=zaP T1
 obtain ⟨r2,ps2,h2,d2,T2,q2⟩:=zb6 d1.dd.sh d1.dd.gd T1 (B.pre d1.dd.pre) (by lia) (by lia)
 rw [zaI B d1.dd.pre] at d2 q2
 have z2:=d2.dd.len
 have g2:=zaP T2
 have l2:=zal (tkS x t) y
 have p12:=d1.dd.pre.trans d2.dd.pre
 obtain ⟨r3,ps3,h3,d3,T3,q3⟩:=zcs (a:=t) d2.dd.sh d2.dd.gd (A.pre p12) tx (by lia)
 rw [zaI A p12] at d3 q3
 have z3:=d3.dd.len
 have l3:=yb9 x t
 have g3:=zaP T3
 obtain ⟨r,ps4,h4,d4,T4,_⟩:=zb6 d3.dd.sh d3.dd.gd (T2.pre d3.dd.pre) T3 (by lia) (by lia)
 rw [zaI T2 d3.dd.pre] at d4
 refine ⟨r,ps4,h4,yhp S ema emb (by lia) (by lia) d1.ev d2.ev d3.ev d4.ev,((d1.dd.trans d2.dd (Nat.le_refl _)).trans d3.dd (Nat.le_refl _)).trans d4.dd ?_,T4⟩
 by_cases m:max (htOf ps a) (htOf ps b) = -1
 ·have xa:x = "" := yfR A (by lia)
  have yb:y = "" := yfR B (by (clear xa T4 d4 g3 l3 z3 q3 T3 d3 p12 l2 g2 z2 q2 T2 d2 g1 l1 z1 q1 T1 d1 ha smb emb sma ema hz hx tx B A g S;lia))
  have e2:htOf ps2 r2 = -1:=by
   have t0:t=0:=by
    rw [xa] at tx
    have:("" : Str).length=0:=rfl
    lia
   have:tkS x t++y = "" := by
    rw [yb,t0,tk_0]
    exact zae (by rw [zaf];rfl)
   rw [this] at T2
   exact yho T2
  (clear yb xa T4 g3 z3 T3 d3 p12 l2 g2 z2 q2 T2 l1 z1 T1 d1 ha smb emb sma ema hz hx tx B A g S;lia)
 ·(clear T4 T3 d3 p12 l2 z2 T2 d2 l1 z1 T1 d1 hb smb emb sma ema hz tx B A g S;lia)
theorem zix {h h1 h2 h3:AH} {p n b e r1 r2 r:Nat} {ps:List Pc} {m:Ms} (S:ShelfAt h p ps) (em:(meas ps)[n]? = some m) (be:b<=e) (hm:e<=m.sg) (e1:yat 90 [.ref p,.int n,.int b] h = .ok (.int r1) h1) (e2:yaw 90 [.ref p,.int n,.int e] h1 = .ok (.int r2) h2) (e3:yap [.ref p,.int r1,.int r2] h2 = .ok (.int r) h3):ybX [.ref p,.int n,.int b,.int e] h = .ok (.int r) h3:=by
 have ck:=zb7 S em be hm
 unfold ybX
 generalize yat 90=FF at *
 generalize yaw 90=FB at *
 simp [ck,e1,e2,e3]
theorem ziy {h:AH} {p n b e:Nat} {ps:List Pc} {x:Str} (S:ShelfAt h p ps) (g:Good ps) (T:TxZ ps n x) (be:b<=e) (ex:e<=x.length) (hx:x.length<=1000000000000000000) (hz:ps.length<13000000) :
  ∃ (r:Nat) (ps':List Pc) (h':AH),ybX [.ref p,.int n,.int b,.int e] h = .ok (.int r) h'/\Dd p h h' ps ps' (200*(1+htOf ps n).toNat)/\TxZ ps' r (tkS x b++dpS x e):=by
 obtain ⟨m,em,sm⟩:=T.meas
 have ht:=htZ g T
 obtain ⟨r1,ps1,h1,d1,T1,q1⟩:=zbP (a:=b) S g T (by lia) (by lia)
 have z1:=d1.dd.len
 obtain ⟨r2,ps2,h2,d2,T2,q2⟩:=zcs (a:=e) d1.dd.sh d1.dd.gd (T.pre d1.dd.pre) ex (by lia)
 rw [zaI T d1.dd.pre] at d2 q2
 have z2:=d2.dd.len
 have l1:=ybV (x:=x) (a:=b) (by lia)
 have l2:=yb9 x e
 obtain ⟨r,ps3,h3,d3,T3,_⟩:=zb6 d2.dd.sh d2.dd.gd (T1.pre d2.dd.pre) T2 (by lia) (by lia)
 rw [zaI T1 d2.dd.pre] at d3
 have g1:=zaP T1
 have g2:=zaP T2
 exact ⟨r,ps3,h3,zix S em be (by lia) d1.ev d2.ev d3.ev,(d1.dd.trans d2.dd (Nat.le_refl _)).trans d3.dd (by (clear T3 d3 l2 l1 z2 T2 d2 z1 T1 ht sm em hz hx ex be T g S;lia)),T3⟩
theorem zjQ {h h1 h2:AH} {p n b e r1 r2:Nat} {ps:List Pc} {m:Ms} (S:ShelfAt h p ps) (em:(meas ps)[n]? = some m) (be:b<=e) (hm:e<=m.sg) (e1:yat 90 [.ref p,.int n,.int e] h = .ok (.int r1) h1) (e2:yaw 90 [.ref p,.int r1,.int b] h1 = .ok (.int r2) h2):ybf [.ref p,.int n,.int b,.int e] h = .ok (.int r2) h2:=by
 have ck:=zb7 S em be hm
 unfold ybf
 generalize yat 90=FF at *
 generalize yaw 90=FB at *
 simp [ck,e1,e2]
theorem zge {h:AH} {p n b e:Nat} {ps:List Pc} {x:Str} (S:ShelfAt h p ps) (g:Good ps) (T:TxZ ps n x) (be:b<=e) (ex:e<=x.length) (hz:ps.length<13000000) :
  ∃ (r:Nat) (ps':List Pc) (h':AH),ybf [.ref p,.int n,.int b,.int e] h = .ok (.int r) h'/\Dd p h h' ps ps' (200*(1+htOf ps n).toNat)/\TxZ ps' r (dpS (tkS x e) b):=by
 obtain ⟨m,em,sm⟩:=T.meas
 have ht:=htZ g T
 obtain ⟨r1,ps1,h1,d1,T1,q1⟩:=zbP (a:=e) S g T ex (by lia)
 have z1:=d1.dd.len
 have l1:=ybV ex
 have g1:=zaP T1
 obtain ⟨r2,ps2,h2,d2,T2,q2⟩:=zcs (a:=b) d1.dd.sh d1.dd.gd T1 (by lia) (by lia)
 exact ⟨r2,ps2,h2,zjQ S em be (by lia) d1.ev d2.ev,d1.dd.trans d2.dd (by lia),T2⟩
theorem yfS {h h1 h2:AH} {p n t r1 r2:Nat} {ps:List Pc} {m:Ms} (S:ShelfAt h p ps) (em:(meas ps)[n]? = some m) (tm:t<=m.sg) (e1:yat 90 [.ref p,.int n,.int t] h = .ok (.int r1) h1) (e2:yaw 90 [.ref p,.int n,.int t] h1 = .ok (.int r2) h2):yck [.ref p,.int n,.int t] h = .ok (.tup [.int r1,.int r2]) h2:=by
 have ck:=zga S em tm
 unfold yck
 generalize yat 90=FF at *
 generalize yaw 90=FB at *
 simp [ck,e1,e2]
theorem yhr {h:AH} {p n t:Nat} {ps:List Pc} {x:Str} (S:ShelfAt h p ps) (g:Good ps) (T:TxZ ps n x) (tx:t<=x.length) (hz:ps.length<13000000) :
  ∃ (r1 r2:Nat) (ps':List Pc) (h':AH),yck [.ref p,.int n,.int t] h = .ok (.tup [.int r1,.int r2]) h'/\Dd p h h' ps ps' (64*(htOf ps n+1).toNat)/\TxZ ps' r1 (tkS x t)/\TxZ ps' r2 (dpS x t)/\(∀ h2 ps2,ShelfAt h2 p ps2->Good ps2->ps' <+: ps2->yck [.ref p,.int n,.int t] h2 = .ok (.tup [.int r1,.int r2]) h2):=by
 obtain ⟨m,em,sm⟩:=T.meas
 have hb:=htZ g T
 obtain ⟨r1,ps1,h1,d1,T1,_⟩:=zbP (a:=t) S g T tx (by lia)
 have z1:=d1.dd.len
 obtain ⟨r2,ps2,h2,d2,T2,_⟩:=zcs (a:=t) d1.dd.sh d1.dd.gd (T.pre d1.dd.pre) tx (by lia)
 rw [zaI T d1.dd.pre] at d2
 refine ⟨r1,r2,ps2,h2,yfS S em (by lia) d1.ev d2.ev,d1.dd.trans d2.dd (by lia),T1.pre d2.dd.pre,T2,fun h3 ps3 S3 g3 p3=>?_⟩
 exact yfS S3 (zac ((d1.dd.pre.trans d2.dd.pre).trans p3) em) (by lia) (d1.re h3 ps3 S3 g3 (d2.dd.pre.trans p3)) (d2.re h3 ps3 S3 g3 p3)
end Sk
namespace Sk
open PySem PySem.Spec L2 Sm
theorem zhz (c k:Int) (h:AH):∃ m,ybW [.int c,.int k] h = .ok (.int m) h:=by
 have b1:0<=(c % 1000000007+7919*k+101)*48271 % 2147483647:=Int.emod_nonneg _ (by decide)
 have b2:(c % 1000000007+7919*k+101)*48271 % 2147483647<2147483647:=Int.emod_lt_of_pos _ (by decide)
 refine ⟨(c % 1000000007+7919*k+101)*48271 % 2147483647*((c % 1000000007+7919*k+101)*48271 % 2147483647) % 2147483629*69621 % 2147483647,?_⟩
 generalize he:(c % 1000000007+7919*k+101)*48271 % 2147483647=v at *
 have c1:v.natAbs<18446744073709551616:=by lia
 simp [ybW,he,c1]
theorem ziz (c k:Int) (h:AH):∃ n,ybk [.int c,.int k] h = .ok (.ref h.length) (h++[.lst [.int n]]):=by
 obtain ⟨d,ed⟩:∃ d,d=c % 1000000000000000000000000000000000000000000000000000000000000000000000000000000000000000000000000000000000000000000000000:=⟨_,rfl⟩
 by_cases hc:(1000000000000000000:Int)<=d
 ·exact ⟨d,by rw [ed] at hc ⊢;simp [ybk,hc]⟩
 ·obtain ⟨e',h',r1,r2⟩:=ycv (w:=none) (all:=yaX 0 8) (t:=.nm 3) (b:=ya9) (xs:=yaX 0 8) (en:=[some (.int d),some (.int k),some (.int 0),none]) (h:=h)
   (fun _ en h' => h'=h/\∃ f o,en=[some (.int d),some (.int k),some (.int f),o]) ⟨rfl,0,none,rfl⟩ (fun _ _ _ _=>rfl) (by
    rintro j x en h' hx ⟨rfl,f,o,rfl⟩
    rw [zbc] at hx
    split at hx
    ·cases hx
     obtain ⟨m,hm⟩:=zhz (d+1009*k) (0+(j:Int)) h'
     have e:ya9 [some (.int d),some (.int k),some (.int f),some (.int (0+(j:Int)))] h' = .nx [some (.int d),some (.int k),some (.int (f*2147483647+m)),some (.int (0+(j:Int)))] h' := by
      generalize (0+(j:Int))=jj at hm ⊢
      simp [ya9,hm]
     show thn (ya9 [some (.int d),some (.int k),some (.int f),some (.int (0+(j:Int)))] h') _
     rw [e]
     exact ⟨rfl,_,_,rfl⟩
    ·cases hx)
  obtain ⟨rfl,f,o,rfl⟩:=r2
  have f1:=(yb2 (t:=.nm 3) (b:=ya9) (zbd (a:=sLit (.int 8)) (en:=[some (.int d),some (.int k),some (.int 0),none]) (h:=h') (n:=8) rfl (by decide))).trans r1
  refine ⟨f,?_⟩
  subst ed
  simp [ybk,hc,f1,-sFor]
structure Kp (F L:Nat) (h h':AH):Prop where
 fr:∀ i,i<h.length->8<i->i≠L->i≠F->h'[i]? = h[i]?
 hl:h.length<=h'.length
theorem Kp.refl {F L:Nat} {h:AH}:Kp F L h h:=⟨fun _ _ _ _ _=>rfl,Nat.le_refl _⟩
theorem Kp.trans {F L:Nat} {h h' h'':AH} (a:Kp F L h h') (b:Kp F L h' h''):Kp F L h h'' := ⟨fun i i1 i2 i3 i4=>(b.fr i (Nat.lt_of_lt_of_le i1 a.hl) i2 i3 i4).trans (a.fr i i1 i2 i3 i4),Nat.le_trans a.hl b.hl⟩
theorem Kp.ofFr {F L:Nat} {h h':AH} (a:Fr L h h'):Kp F L h h' := ⟨fun i i1 _ i3 _=>a.fr i i1 i3,a.hl⟩
theorem Kp.ofDd {F L k:Nat} {h h':AH} {ps ps':List Pc} (a:Dd 0 h h' ps ps' k):Kp F L h h' := ⟨fun i _ i2 _ _=>a.fr i (.inr (by lia)),Nat.le_of_eq a.hl.symm⟩
theorem Kp.app {F L:Nat} {h:AH} (r:AH):Kp F L h (h++r):=⟨fun i i1 _ _ _=>List.getElem?_append_left i1,by simp⟩
theorem Kp.set {F L:Nat} {h:AH} (o:AO):Kp F L h (h.set L o):=⟨fun i _ _ i3 _=>List.getElem?_set_ne (by lia),by simp⟩
structure Ent (F L:Nat) (h:AH) (ps:List Pc) (K n:Nat) (v:AV) (bs:List Bk) (X:Str):Prop where
 tx:TxZ ps n X
 eX:X.cps.toList=fB bs
 hX:X.length<=1000000000000000000
 ok:∀ x∈bs,Ok x
 hl:bs.length<=K
 src:v = .fl (bs.map bv)\/∃ B,v = .ref B/\8<B/\B≠F/\B≠L/\h[B]? = some (.lst (bs.map bv))
theorem Ent.kp {F L K n:Nat} {h h':AH} {ps ps':List Pc} {v:AV} {bs:List Bk} {X:Str} (e:Ent F L h ps K n v bs X) (k:Kp F L h h') (p:ps <+: ps'):Ent F L h' ps' K n v bs X :=
 ⟨e.tx.pre p,e.eX,e.hX,e.ok,e.hl,e.src.imp id fun ⟨B,b1,b2,b3,b4,b5⟩=>⟨B,b1,b2,b3,b4,(k.fr B (yaP b5) b2 b4 b3).trans b5⟩⟩
theorem Ent.more {F L K K' n:Nat} {h:AH} {ps:List Pc} {v:AV} {bs:List Bk} {X:Str} (e:Ent F L h ps K n v bs X) (k:K<=K'):Ent F L h ps K' n v bs X:={ e with hl:=Nat.le_trans e.hl k }
theorem Ent.newL {F L K n:Nat} {h:AH} {ps:List Pc} {v:AV} {bs:List Bk} {X:Str} (e:Ent F L h ps K n v bs X) {L':Nat} (l:h.length<=L'):Ent F L' h ps K n v bs X :=
 { e with src:=e.src.imp id fun ⟨B,b1,b2,b3,b4,b5⟩=>⟨B,b1,b2,b3,by have:=yaP b5;lia,b5⟩ }
theorem Ent.sr {F L K n:Nat} {h:AH} {ps:List Pc} {v:AV} {bs:List Bk} {X:Str} (e:Ent F L h ps K n v bs X):(∃ w,Src h bs v w)/\v ≠ .ref L:=by
 rcases e.src with rfl | ⟨B,rfl,b2,b3,b4,b5⟩
 ·exact ⟨⟨_,.fl⟩,fun z=>by cases z⟩
 ·exact ⟨⟨_,.ref b5⟩,fun z=>b4 (by cases z;rfl)⟩
theorem Ent.len {F L K n:Nat} {h:AH} {ps:List Pc} {v:AV} {bs:List Bk} {X:Str} (e:Ent F L h ps K n v bs X):(fB bs).length=X.length:=by rw [<- e.eX,<- zad]
abbrev ev (q:Nat×AV):AV:=.tup [.int (q.1:Int),q.2]
theorem zed {L:Nat} {v:AV} {w:Option Nat} {h:AH} {bs:List Bk} (sr:Src h bs v w) (eL:∃ N:Int,h[L]? = some (.lst [.int N])) (ok:∀ x∈bs,Ok x) (hl:bs.length<=300) (hT:(fB bs).length<=1000000000000000000) :
  ∃ (q:Nat) (h':AH),q<=(fB bs).length/\ybI [v,.ref L] h = .ok (.int q) h'/\Fr L h h' := by
 obtain ⟨h1,qs,e1,F1,hq,lq,l1⟩:=zec sr eL ok hl hT
 obtain ⟨k,N,hk,e2,F2⟩:=F1.take qs.length (by lia) (Nat.le_trans lq (by decide))
 have ek:qs[k]? = some qs[k]:=List.getElem?_eq_getElem hk
 obtain ⟨q0,q1⟩:=hq qs[k] (List.getElem_mem hk)
 obtain ⟨q,eq⟩:∃ q:Nat,(q:Int)=qs[k]:=⟨qs[k].toNat,Int.toNat_of_nonneg q0⟩
 have ix:∀ hh,fIx (.fl (qs.map AV.int)) (.int (k:Int)) hh = .ok (.int (q:Int)) hh:=fun hh=>by
  simp only [fIx,zcV ek,eq]
 have ln:∀ hh,fLen [.fl (qs.map AV.int)] hh = .ok (.int (qs.length:Nat)) hh:=fun hh=>by simp
 refine ⟨q,_,by lia,?_,F2⟩
 unfold ybI
 generalize ybu=G1 at *
 generalize yau=G2 at *
 generalize qs.map AV.int=Q at *
 generalize h1.set L (.lst [.int N])=H2 at *
 simp [e1,ln,e2,ix,-fIx,-fLen]
theorem zee {F L:Nat} {h:AH} {es:List (Nat×AV)} (e:h[F]? = some (.lst (es.map ev))) (eL:∃ N:Int,h[L]? = some (.lst [.int N])) (FL:F≠L) (l0:0<es.length) (l1:es.length<=1000) :
  ∃ q∈es,∃ N:Int,ybH [.ref F,.ref L] h = .ok (ev q) (h.set L (.lst [.int N])):=by
 obtain ⟨N0,eN⟩:=eL
 obtain ⟨v,hv,t1⟩:=zdJ es.length eN l0 (Nat.le_trans l1 (by decide))
 have ek:es[v]? = some es[v]:=List.getElem?_eq_getElem hv
 have eF:(h.set L (.lst [.int (N0 / (es.length:Int))]))[F]? = some (.lst (es.map ev)):=by rw [List.getElem?_set_ne (by lia)];exact e
 have ix:fIx (.ref F) (.int (v:Int)) (h.set L (.lst [.int (N0 / (es.length:Int))])) = .ok (ev es[v]) (h.set L (.lst [.int (N0 / (es.length:Int))])):=by
  simp only [fIx,eF,zcV ek]
 have ln:fLen [.ref F] h = .ok (.int (es.length:Nat)) h:=by simp [e]
 refine ⟨es[v],List.getElem_mem hv,N0 / (es.length:Int),?_⟩
 unfold ybH
 generalize yau=G2 at *
 generalize h.set L (.lst [.int (N0 / (es.length:Int))])=H2 at *
 generalize ev es[v]=EV at *
 simp [ln,t1,ix,-fIx,-fLen]
end Sk
namespace Sk
open PySem PySem.Spec L2 Sm
theorem zgf {x:Str} {bs:List Bk} (eX:x.cps.toList=fB bs) (t:Nat):clip 0 t (fB bs) 0=(tkS x t).cps.toList:=by
 rw [ycl,eX];unfold clip;simp
theorem zjR {x:Str} {bs:List Bk} (eX:x.cps.toList=fB bs) (t:Nat):clip t x.length (fB bs) 0=(dpS x t).cps.toList:=by
 rw [yb8,<- eX];unfold clip
 rw [Nat.sub_zero,Nat.sub_zero,zad,List.take_length]
theorem zjS {x:Str} {bs:List Bk} (eX:x.cps.toList=fB bs) (b e:Nat):clip b e (fB bs) 0=(dpS (tkS x e) b).cps.toList:=by
 rw [yb8,ycl,<- eX];unfold clip
 rw [Nat.sub_zero,Nat.sub_zero]
def D4:SS :=
  (sIf (yao (sOp2 fLt (sVar 3) (sLit (.int 2)))) (sSeq (ycN (.tup [4,5]) (yae ybi (yab (sVar 0) (yab (sVar 4) (yab (sVar 5) sNil)))))
  (ycN (.tup [6,7]) (yae ybi (yab (sVar 0) (yab (sVar 6) (yab (sVar 7) sNil)))))) yay)
def D10:SS :=
  (sIf (yao (sOp2 fEq (sVar 3) (sLit (.int 0)))) (sSet 13 (sLst (yab (sTup (yab (yae yap (yab (sVar 0) (yab (sVar 4) (yab (sVar 6) sNil)))) (yab (sOp2 fAdd (sVar 5) (sVar 7)) sNil))) sNil))) (sIf (yao (sOp2 fEq (sVar 3) (sLit (.int 1)))) (sSet 13 (sLst (yab (sTup (yab (yae ycI (yab (sVar 0) (yab (sVar 4) (yab (sOp2 fIx (sVar 8) (sLit (.int 0))) (yab (sVar 6) sNil))))) (yab (sOp2 fAdd (sOp2 fAdd (sVar 10) (sVar 7)) (yae yaF (yab (sVar 5) (yab (sOp2 fIx (sVar 8) (sLit (.int 0))) (yab (sVar 9) sNil))))) sNil))) sNil))) (sIf (yao (sOp2 fEq (sVar 3) (sLit (.int 2)))) (sSet 13 (sLst (yab (sTup (yab (yae ybX (yab (sVar 0) (yab (sVar 4) (yab (sOp2 fIx (sVar 8) (sLit (.int 0))) (yab (sOp2 fIx (sVar 8) (sLit (.int 1))) sNil))))) (yab (sOp2 fAdd (sVar 10) (sVar 11)) sNil))) sNil))) (sIf (yao (sOp2 fEq (sVar 3) (sLit (.int 3)))) (sSet 13 (sLst (yab (sTup (yab (yae ybf (yab (sVar 0) (yab (sVar 4) (yab (sOp2 fIx (sVar 8) (sLit (.int 0))) (yab (sOp2 fIx (sVar 8) (sLit (.int 1))) sNil))))) (yab (yae yaF (yab (sVar 5) (yab (sOp2 fIx (sVar 8) (sLit (.int 0))) (yab (sOp2 fIx (sVar 8) (sLit (.int 1))) sNil)))) sNil))) sNil))) (sSeq (ycN (.tup [14,15]) (yae yck (yab (sVar 0) (yab (sVar 4) (yab (sOp2 fIx (sVar 8) (sLit (.int 1))) sNil)))))
  (sSet 13 (sLst (yab (sTup (yab (sVar 14) (yab (yae yaF (yab (sVar 5) (yab (sLit (.int 0)) (yab (sOp2 fIx (sVar 8) (sLit (.int 1))) sNil)))) sNil))) (yab (sTup (yab (sVar 15) (yab (sVar 11) sNil))) sNil)))))))))
theorem ziA:ycR=mkFn 3 17
  (sSeq (sSet 3 (yae yau (yab (sVar 2) (yab (sLit (.int 5)) sNil))))
  (sSeq (ycN (.tup [4,5]) (yae ybH (yab (sVar 1) (yab (sVar 2) sNil))))
  (sSeq (ycN (.tup [6,7]) (yae ybH (yab (sVar 1) (yab (sVar 2) sNil))))
  (sSeq D4
  (sSeq (sSet 8 (yae ydQ (yab (sLst (yab (yae ybI (yab (sVar 5) (yab (sVar 2) sNil))) (yab (yae ybI (yab (sVar 5) (yab (sVar 2) sNil))) sNil))) sNil)))
  (sSeq (sSet 9 (yae ybe (yab (sVar 5) sNil)))
  (sSeq (sSet 10 (yae yaF (yab (sVar 5) (yab (sLit (.int 0)) (yab (sOp2 fIx (sVar 8) (sLit (.int 0))) sNil)))))
  (sSeq (sSet 11 (yae yaF (yab (sVar 5) (yab (sOp2 fIx (sVar 8) (sLit (.int 1))) (yab (sVar 9) sNil)))))
  (sSeq (sSet 12 (yam 0 ybs (sVar 0) sNil))
  (sSeq D10
  (sSeq (sSet 16 (yae ybG (yab (yam 0 yaB (sVar 0) (yab (sVar 4) sNil)) (yab (yam 0 yaB (sVar 0) (yab (sVar 6) sNil)) sNil))))
  (sSeq (sIf (yao (sOp2 fGt (sOp2 fSub (yam 0 ybs (sVar 0) sNil) (sVar 12)) (sOp2 fMul (sLit (.int 200)) (sOp2 fAdd (sVar 16) (sLit (.int 1)))))) (sRet (sLst sNil)) yay)
  (sRet (sVar 13)))))))))))))):=rfl
theorem Kp.weak {F L:Nat} {h h':AH} (k:Kp 0 L h h'):Kp F L h h' := ⟨fun i a b c _=>k.fr i a b c (by lia),k.hl⟩
theorem Kp.rr {L:Nat} {h h':AH} {ps ps':List Pc} (s:Rr L h ps) (S:ShelfAt h' 0 ps') (g:Good ps') (r:∃ N:Int,h'[L]? = some (.lst [.int N])):Rr L h' ps' := ⟨S,g,s.far,r⟩
theorem zct {h:AH} {bs cs:List Bk} {v u:AV} {w w':Option Nat} (s:Src h bs v w) (t:Src h cs u w') (hl:bs.length+cs.length<=1000):fAdd v u h = .ok (.fl ((bs++cs).map bv)) h:=by
 have sl:(bs.map bv).length+(cs.map bv).length<=sizeLine:=Nat.le_trans (m:=1000) (by rw [List.length_map,List.length_map];exact hl) (by decide)
 rw [List.map_append]
 cases s with
 | ref e=>cases t with
  | ref e2=>simp [fAdd,e,e2];simpa using sl
  | fl=>simp [fAdd,e];simpa using sl
 | fl=>cases t with
  | ref e2=>simp [fAdd,e2];simpa using sl
  | fl=>simp [fAdd];simpa using sl
theorem zdm {F L n:Nat} {h:AH} {ps:List Pc} {v:AV} {bs:List Bk} {X:Str} (s:Rr L h ps) (E:Ent F L h ps 11 n v bs X) (hF:8<F/\F<h.length/\L<h.length) (hz:ps.length<12000000) :
  ∃ (n':Nat) (v':AV) (bs':List Bk) (X':Str) (ps':List Pc) (h':AH),ybi [.ref 0,.int n,v] h = .ok (.tup [.int n',v']) h'/\Rr L h' ps'/\Kp 0 L h h'/\ps <+: ps'/\ps'.length<=ps.length+20000/\Ent F L h' ps' 33 n' v' bs' X'/\X'.length<=500000000000000000:=by
 obtain ⟨⟨w,sr⟩,nL⟩:=E.sr
 have sg:=zb8 sr E.ok (by have:=E.hl;lia)
 rw [E.len] at sg
 have pw:∀ hh,fPow (.int 10) (.int 18) hh = .ok (.int 1000000000000000000) hh:=fun _=>rfl
 have dv:∀ hh,fDiv (.int 1000000000000000000) (.int 2) hh = .ok (.int 500000000000000000) hh:=fun _=>rfl
 by_cases q:X.length<=500000000000000000
 ·have le:fLe (.int (X.length:Nat)) (.int 500000000000000000) h = .ok (.bl true) h:=by
   have:((X.length:Nat):Int)<=500000000000000000:=by lia
   simp only [fLe,this,decide_true]
  refine ⟨n,v,bs,X,ps,h,?_,s,.refl,List.prefix_refl _,by lia,E.more (by lia),q⟩
  unfold ybi
  generalize ybe=G at sg
  simp [sg,pw,dv,le,-fPow,-fDiv,-fLe]
 ·have le:fLe (.int (X.length:Nat)) (.int 500000000000000000) h = .ok (.bl false) h:=by
   have : ¬ ((X.length:Nat):Int)<=500000000000000000:=by lia
   simp only [fLe,this,decide_false]
  obtain ⟨r,ps',h1,ek,D,T⟩:=zge s.sh s.gd E.tx (b:=0) (e:=X.length / 2) (by lia) (by lia) (by lia)
  have rng:=htZ s.gd E.tx
  have E1:=E.kp (Kp.weak (Kp.ofDd D)) D.pre
  have s1:Rr L h1 ps' := s.dd D
  obtain ⟨⟨w1,sr1⟩,_⟩:=E1.sr
  have hb:=E.hl
  have pt:=za6 (b:=0) (e:=X.length / 2) sr1 E.ok (by lia)
  have ln:=zaG (b:=0) (e:=X.length / 2) bs 0
  have fb:=ydT (b:=0) (e:=X.length / 2) bs 0 E.ok
  have okp:=ycD (b:=0) (e:=X.length / 2) bs 0 E.ok
  rw [zgf E.eX] at fb
  have d2:fDiv (.int (X.length:Nat)) (.int 2) h = .ok (.int ((X.length / 2:Nat):Int)) h:=yeH (by decide) (by decide) rfl h
  have d3:fDiv (.int (X.length:Nat)) (.int 2) h1 = .ok (.int ((X.length / 2:Nat):Int)) h1:=yeH (by decide) (by decide) rfl h1
  have e0:dpS (tkS X (X.length / 2)) 0=tkS X (X.length / 2):=zae (by rw [yb8];rfl)
  rw [e0] at T
  have lX:(tkS X (X.length / 2)).length=X.length / 2:=ybV (by lia)
  have hX:=E.hX
  have l1:=D.hl
  have s1f:=s1.far
  refine ⟨r,.ref h1.length,prt 0 (X.length / 2) 0 bs,tkS X (X.length / 2),ps',h1++[.lst ((prt 0 (X.length / 2) 0 bs).map bv)],?_,s1.app _,(Kp.ofDd D).trans (.app _),D.pre,by have:=D.len;lia,⟨T,fb.symm,by lia,okp,by lia,.inr ⟨h1.length,rfl,by lia,by lia,by lia,by simp⟩⟩,by lia⟩
  have ek':ybf [.ref 0,.int n,.int 0,.int ((X.length / 2:Nat):Int)] h = .ok (.int r) h1:=ek
  have pt':yaF [v,.int 0,.int ((X.length / 2:Nat):Int)] h1 = .ok (.ref h1.length) (h1++[.lst ((prt 0 (X.length / 2) 0 bs).map bv)]):=pt
  unfold ybi
  generalize ybe=G at *
  generalize ybf=G2 at *
  generalize yaF=G3 at *
  generalize ((X.length / 2:Nat):Int)=HX at *
  generalize h1++[AO.lst ((prt 0 (X.length / 2) 0 bs).map bv)]=H2 at *
  simp [sg,pw,dv,le,d2,d3,ek',pt',-fPow,-fDiv,-fLe]
end Sk
namespace Sk
open PySem PySem.Spec L2 Sm
abbrev eD (F L:Nat) (k:Int) (n:Nat) (v:AV) (m:Nat) (u:AV) (o8 o9 o10 o11 o12 o13 o14 o15 o16:Option AV):En:=[some (.ref 0),some (.ref F),some (.ref L),some (.int k),some (.int n),some v,some (.int m),some u,o8,o9,o10,o11,o12,o13,o14,o15,o16]
theorem yii {F L n m k:Nat} {h:AH} {ps:List Pc} {v u:AV} {bs cs:List Bk} {X Y:Str} (s:Rr L h ps) (E1:Ent F L h ps 11 n v bs X) (E2:Ent F L h ps 11 m u cs Y) (hF:8<F/\F<h.length/\L<h.length) (hz:ps.length<11000000) :
  ∃ (n':Nat) (v':AV) (bs':List Bk) (X':Str) (m':Nat) (u':AV) (cs':List Bk) (Y':Str) (ps':List Pc) (h':AH),D4 (eD F L k n v m u none none none none none none none none none) h = .nx (eD F L k n' v' m' u' none none none none none none none none none) h'/\Rr L h' ps'/\Kp 0 L h h'/\ps <+: ps'/\ps'.length<=ps.length+40000/\Ent F L h' ps' 33 n' v' bs' X'/\Ent F L h' ps' 33 m' u' cs' Y'/\(k<2->X'.length<=500000000000000000/\Y'.length<=500000000000000000):=by
 by_cases hk:k<2
 ·obtain ⟨n',v',bs',X',ps1,h1,e1,s1,k1,p1,l1,E3,b1⟩:=zdm s E1 hF (by lia)
  have hF1:8<F/\F<h1.length/\L<h1.length:=by have:=k1.hl;lia
  obtain ⟨m',u',cs',Y',ps2,h2,e2,s2,k2,p2,l2,E4,b2⟩:=zdm s1 (E2.kp k1.weak p1) hF1 (by lia)
  refine ⟨n',v',bs',X',m',u',cs',Y',ps2,h2,?_,s2,k1.trans k2,p1.trans p2,by lia,E3.kp k2.weak p2,E4,fun _=>⟨b1,b2⟩⟩
  have lt:fLt (.int (k:Int)) (.int 2) h = .ok (.bl true) h:=by
   have:(k:Int)<2:=by lia
   simp only [fLt,this,decide_true]
  unfold D4
  generalize ybi=G at *
  simp [lt,e1,e2,-fLt]
 ·refine ⟨n,v,bs,X,m,u,cs,Y,ps,h,?_,s,.refl,List.prefix_refl _,by lia,E1.more (by lia),E2.more (by lia),fun z=>absurd z hk⟩
  have lt:fLt (.int (k:Int)) (.int 2) h = .ok (.bl false) h:=by
   have : ¬ (k:Int)<2:=by lia
   simp only [fLt,this,decide_false]
  unfold D4
  simp [lt,-fLt]
structure Res (F L:Nat) (h:AH) (ps:List Pc) (K:Nat) (md:List (Nat×AV)) (ps':List Pc) (h':AH):Prop where
 rr:Rr L h' ps'
 kp:Kp 0 L h h'
 pre:ps <+: ps'
 len:ps'.length<=ps.length+K
 en:∀ q∈md,∃ bs X,Ent F L h' ps' 300 q.1 q.2 bs X
 l1:1<=md.length
 l2:md.length<=2
structure Pre (F L:Nat) (h:AH) (ps:List Pc) (n:Nat) (v:AV) (bs:List Bk) (X:Str) (m:Nat) (u:AV) (cs:List Bk) (Y:Str) (a b A B:Nat):Prop where
 s:Rr L h ps
 E1:Ent F L h ps 33 n v bs X
 E2:Ent F L h ps 33 m u cs Y
 ab:a<=b
 bX:b<=X.length
 eA:h[A]? = some (.lst ((prt 0 a 0 bs).map bv))
 eB:h[B]? = some (.lst ((prt b X.length 0 bs).map bv))
 dA:8<A/\A≠F/\A≠L
 dB:8<B/\B≠F/\B≠L
 hF:8<F/\F<h.length/\L<h.length
 hz:ps.length<10000000
theorem fbT {X:Str} {bs:List Bk} (eX:X.cps.toList=fB bs) (ok:∀ x∈bs,Ok x) (a:Nat):(tkS X a).cps.toList=fB (prt 0 a 0 bs):=by rw [ydT bs 0 ok,zgf eX]
theorem fbD {X:Str} {bs:List Bk} (eX:X.cps.toList=fB bs) (ok:∀ x∈bs,Ok x) (a:Nat):(dpS X a).cps.toList=fB (prt a X.length 0 bs):=by rw [ydT bs 0 ok,zjR eX]
theorem fbM {X:Str} {bs:List Bk} (eX:X.cps.toList=fB bs) (ok:∀ x∈bs,Ok x) (a b:Nat):(dpS (tkS X b) a).cps.toList=fB (prt a b 0 bs):=by rw [ydT bs 0 ok,zjS eX]
theorem okA2 {a b:List Bk} (ha:∀ x∈a,Ok x) (hb:∀ x∈b,Ok x):∀ x∈a++b,Ok x:=fun x hx=>(List.mem_append.mp hx).elim (ha x) (hb x)
section
variable {F L n m a b A B bf:Nat} {h:AH} {ps:List Pc} {v u:AV} {bs cs:List Bk} {X Y:Str} {o13 o14 o15 o16:Option AV}
theorem yij (p:Pre F L h ps n v bs X m u cs Y a b A B) (q:X.length<=500000000000000000/\Y.length<=500000000000000000) :
  ∃ (md:List (Nat×AV)) (ps':List Pc) (h':AH) (p14 p15:Option AV),D10 (eD F L 0 n v m u (some (.fl [.int a,.int b])) (some (.int X.length)) (some (.ref A)) (some (.ref B)) (some (.int bf)) o13 o14 o15 o16) h = .nx (eD F L 0 n v m u (some (.fl [.int a,.int b])) (some (.int X.length)) (some (.ref A)) (some (.ref B)) (some (.int bf)) (some (.fl (md.map ev))) p14 p15 o16) h'/\Res F L h ps (200*(1+max (htOf ps n) (htOf ps m)).toNat) md ps' h' := by
 have hz:=p.hz
 obtain ⟨r,ps',h1,dn,T⟩:=zbO p.s.sh p.s.gd p.E1.tx p.E2.tx (by lia) (by lia)
 have E1:=p.E1.kp (Kp.weak (Kp.ofDd dn.dd)) dn.dd.pre
 have E2:=p.E2.kp (Kp.weak (Kp.ofDd dn.dd)) dn.dd.pre
 obtain ⟨⟨w1,s1⟩,_⟩:=E1.sr
 obtain ⟨⟨w2,s2⟩,_⟩:=E2.sr
 have h1l:=p.E1.hl
 have h2l:=p.E2.hl
 have ad:=zct s1 s2 (by lia)
 have ra:=htZ p.s.gd p.E1.tx
 have rb:=htZ p.s.gd p.E2.tx
 have lk:=dn.dd.len
 refine ⟨[(r,.fl ((bs++cs).map bv))],ps',h1,o14,o15,?_,p.s.dd dn.dd,.ofDd dn.dd,dn.dd.pre,by lia,fun q hq=>?_,by simp,by simp⟩
 ·have ev1:=dn.ev
  unfold D10
  generalize yap=G at *
  generalize (bs++cs).map bv=Z at *
  simp [ev1,ad,toD,PyData.eqv,-fAdd]
 ·have:q=(r,.fl ((bs++cs).map bv)):=by simpa using hq
  subst this
  exact ⟨bs++cs,X++Y,T,by rw [zaf,E1.eX,E2.eX,yca],by rw [show (X++Y).length=X.length+Y.length by simp [Str.length,Str.cps_append]];lia,okA2 E1.ok E2.ok,by rw [List.length_append];lia,.inl rfl⟩
theorem yik (p:Pre F L h ps n v bs X m u cs Y a b A B) (q:X.length<=500000000000000000/\Y.length<=500000000000000000) :
  ∃ (md:List (Nat×AV)) (ps':List Pc) (h':AH) (p14 p15:Option AV),D10 (eD F L 1 n v m u (some (.fl [.int a,.int b])) (some (.int X.length)) (some (.ref A)) (some (.ref B)) (some (.int bf)) o13 o14 o15 o16) h = .nx (eD F L 1 n v m u (some (.fl [.int a,.int b])) (some (.int X.length)) (some (.ref A)) (some (.ref B)) (some (.int bf)) (some (.fl (md.map ev))) p14 p15 o16) h'/\Res F L h ps (200*(1+max (htOf ps n) (htOf ps m)).toNat) md ps' h' := by
 have hz:=p.hz
 have hab:=p.ab
 have hbX:=p.bX
 obtain ⟨r,ps',h1,e1,D,T⟩:=yhq p.s.sh p.s.gd p.E1.tx p.E2.tx (t:=a) (by lia) (by lia) (by lia)
 have k1:Kp 0 L h h1:=.ofDd D
 have E1:=p.E1.kp k1.weak D.pre
 have E2:=p.E2.kp k1.weak D.pre
 have eA:h1[A]? = some (.lst ((prt 0 a 0 bs).map bv)):=(k1.fr A (yaP p.eA) p.dA.1 p.dA.2.2 (by have:=p.dA.1;lia)).trans p.eA
 obtain ⟨⟨w1,s1⟩,_⟩:=E1.sr
 obtain ⟨⟨w2,s2⟩,_⟩:=E2.sr
 have h1l:=p.E1.hl
 have h2l:=p.E2.hl
 have l1:=zaG (b:=0) (e:=a) bs 0
 have l2:=zaG (b:=a) (e:=X.length) bs 0
 have ad:=zct (.ref eA) s2 (by lia)
 have pt:=za6 (b:=a) (e:=X.length) s1 E1.ok (by lia)
 obtain ⟨H2,eH2⟩:∃ H2:AH,H2=h1++[.lst ((prt a X.length 0 bs).map bv)]:=⟨_,rfl⟩
 have eN:H2[h1.length]? = some (.lst ((prt a X.length 0 bs).map bv)):=by rw [eH2];simp
 rw [<- eH2] at pt
 have ad2:=zct (h:=H2) (bs:=prt 0 a 0 bs++cs) .fl (.ref eN) (by rw [List.length_append];lia)
 have ra:=htZ p.s.gd p.E1.tx
 have rb:=htZ p.s.gd p.E2.tx
 have lk:=D.len
 have s1r:Rr L h1 ps' := p.s.dd D
 refine ⟨[(r,.fl (((prt 0 a 0 bs++cs)++prt a X.length 0 bs).map bv))],ps',H2,o14,o15,?_,eH2▸s1r.app _,k1.trans (eH2 ▸ .app _),D.pre,lk,fun q hq=>?_,by simp,by simp⟩
 ·have i0:∀ hh,fIx (.fl [.int (a:Int),.int (b:Int)]) (.int 0) hh = .ok (.int (a:Int)) hh:=fun _=>rfl
  unfold D10
  generalize ycI=G at *
  generalize yaF=G2 at *
  generalize ((prt 0 a 0 bs++cs)++prt a X.length 0 bs).map bv=Z at *
  generalize (prt 0 a 0 bs++cs).map bv=Z1 at *
  simp [e1,ad,pt,ad2,i0,toD,PyData.eqv,-fAdd,-fIx]
 ·have:q=(r,.fl (((prt 0 a 0 bs++cs)++prt a X.length 0 bs).map bv)):=by simpa using hq
  subst this
  have T2:tkS X a++Y++dpS X a=(tkS X a++Y)++dpS X a:=rfl
  refine ⟨(prt 0 a 0 bs++cs)++prt a X.length 0 bs,_,T,?_,?_,okA2 (okA2 (ycD bs 0 E1.ok) E2.ok) (ycD bs 0 E1.ok),by rw [List.length_append,List.length_append];lia,.inl rfl⟩
  ·rw [zaf,zaf,fbT E1.eX E1.ok,fbD E1.eX E1.ok,E2.eX,yca,yca]
  ·have t1:=ybV (x:=X) (a:=a) (by lia)
   have t2:=yb9 X a
   have:((tkS X a++Y)++dpS X a).length=((tkS X a).length+Y.length)+(dpS X a).length:=by simp [Str.length,Str.cps_append,Nat.add_assoc]
   rw [this];lia
theorem yil (p:Pre F L h ps n v bs X m u cs Y a b A B) :
  ∃ (md:List (Nat×AV)) (ps':List Pc) (h':AH) (p14 p15:Option AV),D10 (eD F L 2 n v m u (some (.fl [.int a,.int b])) (some (.int X.length)) (some (.ref A)) (some (.ref B)) (some (.int bf)) o13 o14 o15 o16) h = .nx (eD F L 2 n v m u (some (.fl [.int a,.int b])) (some (.int X.length)) (some (.ref A)) (some (.ref B)) (some (.int bf)) (some (.fl (md.map ev))) p14 p15 o16) h'/\Res F L h ps (200*(1+max (htOf ps n) (htOf ps m)).toNat) md ps' h' := by
 have hz:=p.hz
 have hab:=p.ab
 have hbX:=p.bX
 obtain ⟨r,ps',h1,e1,D,T⟩:=ziy p.s.sh p.s.gd p.E1.tx hab hbX p.E1.hX (by lia)
 have k1:Kp 0 L h h1:=.ofDd D
 have E1:=p.E1.kp k1.weak D.pre
 have eA:h1[A]? = some (.lst ((prt 0 a 0 bs).map bv)):=(k1.fr A (yaP p.eA) p.dA.1 p.dA.2.2 (by have:=p.dA.1;lia)).trans p.eA
 have eB:h1[B]? = some (.lst ((prt b X.length 0 bs).map bv)):=(k1.fr B (yaP p.eB) p.dB.1 p.dB.2.2 (by have:=p.dB.1;lia)).trans p.eB
 have h1l:=p.E1.hl
 have l1:=zaG (b:=0) (e:=a) bs 0
 have l2:=zaG (b:=b) (e:=X.length) bs 0
 have ad:=zct (.ref eA) (.ref eB) (by lia)
 have ra:=htZ p.s.gd p.E1.tx
 have lk:=D.len
 refine ⟨[(r,.fl ((prt 0 a 0 bs++prt b X.length 0 bs).map bv))],ps',h1,o14,o15,?_,p.s.dd D,k1,D.pre,by lia,fun q hq=>?_,by simp,by simp⟩
 ·have i0:∀ hh,fIx (.fl [.int (a:Int),.int (b:Int)]) (.int 0) hh = .ok (.int (a:Int)) hh:=fun _=>rfl
  have i1:∀ hh,fIx (.fl [.int (a:Int),.int (b:Int)]) (.int 1) hh = .ok (.int (b:Int)) hh:=fun _=>rfl
  unfold D10
  generalize ybX=G at *
  generalize (prt 0 a 0 bs++prt b X.length 0 bs).map bv=Z at *
  simp [e1,ad,i0,i1,toD,PyData.eqv,-fAdd,-fIx]
 ·have:q=(r,.fl ((prt 0 a 0 bs++prt b X.length 0 bs).map bv)):=by simpa using hq
  subst this
  have hX:=p.E1.hX
  refine ⟨prt 0 a 0 bs++prt b X.length 0 bs,_,T,?_,?_,okA2 (ycD bs 0 E1.ok) (ycD bs 0 E1.ok),by rw [List.length_append];lia,.inl rfl⟩
  ·rw [zaf,fbT E1.eX E1.ok,fbD E1.eX E1.ok,yca]
  ·have t1:=ybV (x:=X) (a:=a) (by lia)
   have t2:=yb9 X b
   have:(tkS X a++dpS X b).length=(tkS X a).length+(dpS X b).length:=by simp [Str.length,Str.cps_append]
   rw [this];lia
theorem yim (p:Pre F L h ps n v bs X m u cs Y a b A B) :
  ∃ (md:List (Nat×AV)) (ps':List Pc) (h':AH) (p14 p15:Option AV),D10 (eD F L 3 n v m u (some (.fl [.int a,.int b])) (some (.int X.length)) (some (.ref A)) (some (.ref B)) (some (.int bf)) o13 o14 o15 o16) h = .nx (eD F L 3 n v m u (some (.fl [.int a,.int b])) (some (.int X.length)) (some (.ref A)) (some (.ref B)) (some (.int bf)) (some (.fl (md.map ev))) p14 p15 o16) h'/\Res F L h ps (200*(1+max (htOf ps n) (htOf ps m)).toNat) md ps' h' := by
 have hz:=p.hz
 have hab:=p.ab
 have hbX:=p.bX
 obtain ⟨r,ps',h1,e1,D,T⟩:=zge p.s.sh p.s.gd p.E1.tx hab hbX (by lia)
 have k1:Kp 0 L h h1:=.ofDd D
 have E1:=p.E1.kp k1.weak D.pre
 obtain ⟨⟨w1,s1⟩,_⟩:=E1.sr
 have h1l:=p.E1.hl
 have l1:=zaG (b:=a) (e:=b) bs 0
 have pt:=za6 (b:=a) (e:=b) s1 E1.ok (by lia)
 obtain ⟨H2,eH2⟩:∃ H2:AH,H2=h1++[.lst ((prt a b 0 bs).map bv)]:=⟨_,rfl⟩
 have eN:H2[h1.length]? = some (.lst ((prt a b 0 bs).map bv)):=by rw [eH2];simp
 rw [<- eH2] at pt
 have ra:=htZ p.s.gd p.E1.tx
 have lk:=D.len
 have s1r:Rr L h1 ps' := p.s.dd D
 have hl1:=D.hl
 have hF:=p.hF
 refine ⟨[(r,.ref h1.length)],ps',H2,o14,o15,?_,eH2▸s1r.app _,k1.trans (eH2 ▸ .app _),D.pre,by lia,fun q hq=>?_,by simp,by simp⟩
 ·have i0:∀ hh,fIx (.fl [.int (a:Int),.int (b:Int)]) (.int 0) hh = .ok (.int (a:Int)) hh:=fun _=>rfl
  have i1:∀ hh,fIx (.fl [.int (a:Int),.int (b:Int)]) (.int 1) hh = .ok (.int (b:Int)) hh:=fun _=>rfl
  unfold D10
  generalize ybf=G at *
  generalize yaF=G2 at *
  generalize h1.length=N1 at *
  simp [e1,pt,i0,i1,toD,PyData.eqv,-fIx]
 ·have:q=(r,.ref h1.length):=by simpa using hq
  subst this
  have hX:=p.E1.hX
  refine ⟨prt a b 0 bs,_,T,fbM E1.eX E1.ok a b,?_,ycD bs 0 E1.ok,by lia,.inr ⟨h1.length,rfl,by lia,by lia,by lia,eN⟩⟩
  have t1:=ybV (x:=X) (a:=b) (by lia)
  have t2:=yb9 (tkS X b) a
  lia
theorem yin (p:Pre F L h ps n v bs X m u cs Y a b A B) :
  ∃ (md:List (Nat×AV)) (ps':List Pc) (h':AH) (p14 p15:Option AV),D10 (eD F L 4 n v m u (some (.fl [.int a,.int b])) (some (.int X.length)) (some (.ref A)) (some (.ref B)) (some (.int bf)) o13 o14 o15 o16) h = .nx (eD F L 4 n v m u (some (.fl [.int a,.int b])) (some (.int X.length)) (some (.ref A)) (some (.ref B)) (some (.int bf)) (some (.fl (md.map ev))) p14 p15 o16) h'/\Res F L h ps (200*(1+max (htOf ps n) (htOf ps m)).toNat) md ps' h' := by
 have hz:=p.hz
 have hab:=p.ab
 have hbX:=p.bX
 obtain ⟨r1,r2,ps',h1,e1,D,T1,T2,_⟩:=yhr p.s.sh p.s.gd p.E1.tx hbX (by lia)
 have k1:Kp 0 L h h1:=.ofDd D
 have E1:=p.E1.kp k1.weak D.pre
 obtain ⟨⟨w1,s1⟩,_⟩:=E1.sr
 have h1l:=p.E1.hl
 have l1:=zaG (b:=0) (e:=b) bs 0
 have l2:=zaG (b:=b) (e:=X.length) bs 0
 have pt:yaF [v,.int 0,.int b] h1 = .ok (.ref h1.length) (h1++[.lst ((prt 0 b 0 bs).map bv)]):=za6 (b:=0) (e:=b) s1 E1.ok (by lia)
 obtain ⟨H2,eH2⟩:∃ H2:AH,H2=h1++[.lst ((prt 0 b 0 bs).map bv)]:=⟨_,rfl⟩
 have eN:H2[h1.length]? = some (.lst ((prt 0 b 0 bs).map bv)):=by rw [eH2];simp
 have k2:Kp 0 L h H2:=k1.trans (eH2 ▸ .app _)
 have eB:H2[B]? = some (.lst ((prt b X.length 0 bs).map bv)):=(k2.fr B (yaP p.eB) p.dB.1 p.dB.2.2 (by have:=p.dB.1;lia)).trans p.eB
 rw [<- eH2] at pt
 have ra:=htZ p.s.gd p.E1.tx
 have lk:=D.len
 have s1r:Rr L h1 ps' := p.s.dd D
 have hl1:=D.hl
 have hF:=p.hF
 have hX:=p.E1.hX
 refine ⟨[(r1,.ref h1.length),(r2,.ref B)],ps',H2,some (.int r1),some (.int r2),?_,eH2▸s1r.app _,k2,D.pre,by lia,fun q hq=>?_,by simp,by simp⟩
 ·have i1:∀ hh,fIx (.fl [.int (a:Int),.int (b:Int)]) (.int 1) hh = .ok (.int (b:Int)) hh:=fun _=>rfl
  unfold D10
  generalize yck=G at *
  generalize yaF=G2 at *
  generalize h1.length=N1 at *
  simp [e1,pt,i1,toD,PyData.eqv,-fIx]
 ·rcases List.mem_cons.mp hq with rfl | hq
  ·exact ⟨prt 0 b 0 bs,_,T1,fbT E1.eX E1.ok b,by rw [ybV (by lia)];lia,ycD bs 0 E1.ok,by show _<=300;lia,.inr ⟨h1.length,rfl,by lia,by lia,by lia,eN⟩⟩
  ·have:q=(r2,.ref B):=by simpa using hq
   subst this
   exact ⟨prt b X.length 0 bs,_,T2,fbD E1.eX E1.ok b,by rw [yb9];lia,ycD bs 0 E1.ok,by show _<=300;lia,.inr ⟨B,rfl,p.dB.1,p.dB.2.1,p.dB.2.2,eB⟩⟩
end
end Sk
namespace Sk
open PySem PySem.Spec L2 Sm
theorem zjT {F L n m a b A B bf k:Nat} {h:AH} {ps:List Pc} {v u:AV} {bs cs:List Bk} {X Y:Str} {o13 o14 o15 o16:Option AV} (hk:k<5) (p:Pre F L h ps n v bs X m u cs Y a b A B) (q:k<2->X.length<=500000000000000000/\Y.length<=500000000000000000) :
  ∃ (md:List (Nat×AV)) (ps':List Pc) (h':AH) (p14 p15:Option AV),D10 (eD F L k n v m u (some (.fl [.int a,.int b])) (some (.int X.length)) (some (.ref A)) (some (.ref B)) (some (.int bf)) o13 o14 o15 o16) h = .nx (eD F L k n v m u (some (.fl [.int a,.int b])) (some (.int X.length)) (some (.ref A)) (some (.ref B)) (some (.int bf)) (some (.fl (md.map ev))) p14 p15 o16) h'/\Res F L h ps (200*(1+max (htOf ps n) (htOf ps m)).toNat) md ps' h' := by
 have:k=0\/k=1\/k=2\/k=3\/k=4:=by lia
 rcases this with rfl | rfl | rfl | rfl | rfl
 ·exact yij p (q (by decide))
 ·exact yik p (q (by decide))
 ·exact yil p
 ·exact yim p
 ·exact yin p
theorem zjU (a b:Nat) (h:AH):ydQ [.fl [.int a,.int b]] h = .ok (.fl [.int ((min a b:Nat):Int),.int ((max a b:Nat):Int)]) h:=by
 have e1:((min a b:Nat):Int)=min (a:Int) b:=by omega
 have e2:((max a b:Nat):Int)=max (a:Int) b:=by omega
 rw [e1,e2];rfl
theorem ziB {F L:Nat} {h:AH} {ps:List Pc} {es:List (Nat×AV)} (s:Rr L h ps) (e:h[F]? = some (.lst (es.map ev))) (en:∀ q∈es,∃ bs X,Ent F L h ps 11 q.1 q.2 bs X) (F8:8<F) (FL:F≠L) (l0:0<es.length) (l1:es.length<=1000) (hz:ps.length<9000000) :
  ∃ (md:List (Nat×AV)) (ps':List Pc) (h':AH),ycR [.ref 0,.ref F,.ref L] h = .ok (.fl (md.map ev)) h'/\Res F L h ps 60000 md ps' h' := by
 obtain ⟨N0,eL⟩:=s.ro
 have Ll:=yaP eL
 have Fl:=yaP e
 have st:∀ {hh:AH} {N:Int},Rr L hh ps->L<hh.length->Rr L (hh.set L (.lst [.int N])) ps:=fun {hh N} r l=>by
  obtain ⟨M,eM⟩:=r.ro
  exact r.fr ((⟨fun _ _ _=>rfl,Nat.le_refl _,M,eM⟩:Fr L hh hh).set N)
 obtain ⟨k,hk,t1⟩:=zdJ 5 eL (by decide) (by decide)
 have t1':yau [.ref L,.int 5] h = .ok (.int k) (h.set L (.lst [.int (N0 / (5:Nat))])):=t1
 obtain ⟨h1,eh1⟩:∃ h1,h1=h.set L (.lst [.int (N0 / (5:Nat))]):=⟨_,rfl⟩
 rw [<- eh1] at t1'
 have s1:Rr L h1 ps:=eh1▸st s Ll
 have k1:Kp 0 L h h1:=eh1 ▸ .set _
 have n1:h1.length=h.length:=by rw [eh1,List.length_set]
 have e1:h1[F]? = some (.lst (es.map ev)):=by rw [eh1,List.getElem?_set_ne (Ne.symm FL)];exact e
 obtain ⟨q1,m1,N1,t2⟩:=zee e1 s1.ro FL l0 l1
 obtain ⟨h2,eh2⟩:∃ h2,h2=h1.set L (.lst [.int N1]):=⟨_,rfl⟩
 rw [<- eh2] at t2
 have s2:Rr L h2 ps:=eh2▸st s1 (by lia)
 have k2:Kp 0 L h h2:=k1.trans (eh2 ▸ .set _)
 have n2:h2.length=h.length:=by rw [eh2,List.length_set,n1]
 have e2:h2[F]? = some (.lst (es.map ev)):=by rw [eh2,List.getElem?_set_ne (Ne.symm FL)];exact e1
 obtain ⟨q2,m2,N2,t3⟩:=zee e2 s2.ro FL l0 l1
 obtain ⟨h3,eh3⟩:∃ h3,h3=h2.set L (.lst [.int N2]):=⟨_,rfl⟩
 rw [<- eh3] at t3
 have s3:Rr L h3 ps:=eh3▸st s2 (by lia)
 have k3:Kp 0 L h h3:=k2.trans (eh3 ▸ .set _)
 have n3:h3.length=h.length:=by rw [eh3,List.length_set,n2]
 obtain ⟨bs0,X0,E10⟩:=en q1 m1
 obtain ⟨cs0,Y0,E20⟩:=en q2 m2
 obtain ⟨n,v,bs,X,m,u,cs,Y,ps4,h4,d4,s4,k4,p4,z4,E1,E2,hq⟩:=yii (k:=k) s3 (E10.kp k3.weak (List.prefix_refl _)) (E20.kp k3.weak (List.prefix_refl _)) (by lia) (by lia)
 have n4:=k4.hl
 obtain ⟨⟨w4,r4⟩,nv⟩:=E1.sr
 have hb:=E1.hl
 have xl:=E1.len
 have hX:=E1.hX
 obtain ⟨a0,h5,a1,f5,F5⟩:=zed r4 s4.ro E1.ok (by lia) (by lia)
 have r5:=r4.fr nv F5
 obtain ⟨b0,h6,b1,f6,F6⟩:=zed r5 F5.ro E1.ok (by lia) (by lia)
 have r6:=r5.fr nv F6
 have F46:=F5.trans F6
 have s6:=s4.fr F46
 have n6:=F46.hl
 have so:=zjU a0 b0 h6
 obtain ⟨a,ea⟩:∃ a,a=min a0 b0:=⟨_,rfl⟩
 obtain ⟨b,eb⟩:∃ b,b=max a0 b0:=⟨_,rfl⟩
 rw [<- ea,<- eb] at so
 have sg:=zb8 r6 E1.ok (by lia)
 rw [xl] at sg
 have pA:yaF [v,.int 0,.int a] h6 = .ok (.ref h6.length) (h6++[.lst ((prt 0 a 0 bs).map bv)]):=za6 (b:=0) (e:=a) r6 E1.ok (by lia)
 obtain ⟨h7,eh7⟩:∃ h7:AH,h7=h6++[.lst ((prt 0 a 0 bs).map bv)]:=⟨_,rfl⟩
 have A7:h7[h6.length]? = some (.lst ((prt 0 a 0 bs).map bv)):=by rw [eh7];simp
 have n7:h7.length=h6.length+1:=by rw [eh7];simp
 have r7:Src h7 bs v w4:=eh7▸r6.app _
 rw [<- eh7] at pA
 have pB:=za6 (b:=b) (e:=X.length) r7 E1.ok (by lia)
 obtain ⟨h8,eh8⟩:∃ h8:AH,h8=h7++[.lst ((prt b X.length 0 bs).map bv)]:=⟨_,rfl⟩
 have A8:h8[h6.length]? = some (.lst ((prt 0 a 0 bs).map bv)):=by rw [eh8,List.getElem?_append_left (by lia)];exact A7
 have B8:h8[h7.length]? = some (.lst ((prt b X.length 0 bs).map bv)):=by rw [eh8];simp
 have n8:h8.length=h7.length+1:=by rw [eh8];simp
 rw [<- eh8] at pB
 have s8:Rr L h8 ps4:=eh8▸(eh7▸s6.app _:Rr L h7 ps4).app _
 have K48:∀ F',Kp F' L h4 h8:=fun F' => (Kp.ofFr F46).trans ((eh7 ▸ .app _:Kp F' L h6 h7).trans (eh8 ▸ .app _))
 have mn:=yfL s8.sh
 have f8:=s.far
 obtain ⟨md,ps',h',p14,p15,d10,R⟩:=zjT (bf:=ps4.length) (o13:=none) (o14:=none) (o15:=none) (o16:=none) hk (⟨s8,E1.kp (K48 F) (List.prefix_refl _),E2.kp (K48 F) (List.prefix_refl _),by lia,by lia,A8,B8,by lia,by lia,by lia,by lia⟩:Pre F L h8 ps4 n v bs X m u cs Y a b h6.length h7.length) hq
 have ra:=htZ s8.gd E1.tx
 have rb:=htZ s8.gd E2.tx
 have ha:=zd9 R.rr.sh (E1.tx.pre R.pre)
 have hb2:=zd9 R.rr.sh (E2.tx.pre R.pre)
 rw [zaI E1.tx R.pre] at ha
 rw [zaI E2.tx R.pre] at hb2
 have mn2:=yfL R.rr.sh
 have z8:=s8.sh.ob
 have z9:=R.rr.sh.ob
 have ln:=R.len
 obtain ⟨ia,eia⟩:∃ i,i=htOf ps4 n:=⟨_,rfl⟩
 obtain ⟨ib,eib⟩:∃ i,i=htOf ps4 m:=⟨_,rfl⟩
 rw [<- eia] at ha ra ln
 rw [<- eib] at hb2 rb ln
 have mx:ybG [.int ia,.int ib] h' = .ok (.int (max ia ib)) h' := by
  have:ybG [.int ia,.int ib] h' = .ok (.int (if ib > ia then ib else ia)) h' := rfl
  rw [this]
  by_cases q:ib > ia
  ·rw [if_pos q];congr 2;lia
  ·rw [if_neg q];congr 2;lia
 obtain ⟨mm,emm⟩:∃ i,i=max ia ib:=⟨_,rfl⟩
 rw [<- emm] at mx ln
 have gt:fGt (.int ((ps'.length:Int)-(ps4.length:Int))) (.int (200*(mm+1))) h' = .ok (.bl false) h' := by
  have : ¬ ((ps'.length:Int)-(ps4.length:Int) > 200*(mm+1)):=by lia
  simp only [fGt,this,decide_false]
 refine ⟨md,ps',h',?_,R.rr,(k3.trans k4).trans ((K48 0).trans R.kp),p4.trans R.pre,by lia,R.en,R.l1,R.l2⟩
 have d4' := d4
 have d10' := d10
 simp only [eD] at d4' d10'
 have sb:fSub (.int (ps'.length:Int)) (.int (ps4.length:Int)) h' = .ok (.int ((ps'.length:Int)-(ps4.length:Int))) h' := rfl
 have ad:fAdd (.int mm) (.int 1) h' = .ok (.int (mm+1)) h' := rfl
 have ml:fMul (.int 200) (.int (mm+1)) h' = .ok (.int (200*(mm+1))) h' := by simp
 have i0:∀ hh,fIx (.fl [.int (a:Int),.int (b:Int)]) (.int 0) hh = .ok (.int (a:Int)) hh:=fun _=>rfl
 have i1:∀ hh,fIx (.fl [.int (a:Int),.int (b:Int)]) (.int 1) hh = .ok (.int (b:Int)) hh:=fun _=>rfl
 rw [ziA]
 clear ra rb ln R E1 E2 E10 E20 K48 s8 s6 s4 s3 s2 s1 k1 k2 k3 k4 d4 d10 A8 B8 A7 r7 r6 r5 r4 en m1 m2 e1 e2 e s st F46 F5 F6
 generalize D4=G4 at *
 generalize D10=G10 at *
 generalize yau=G1 at *
 generalize ybH=G2 at *
 generalize ybI=G3 at *
 generalize ybe=G5 at *
 generalize yaF=G6 at *
 generalize ybs=G7 at *
 generalize yaB=G8 at *
 generalize md.map ev=MD at *
 generalize (ps'.length:Int)-(ps4.length:Int)=DI at *
 generalize 200*(mm+1)=RI at *
 simp [z8,z9,t1',t2,t3,d4',f5,f6,so,sg,i0,i1,pA,pB,mn,d10',ha,hb2,mx,mn2,sb,ad,ml,gt,-ydQ,-fIx,-ybG,-fSub,-fAdd,-fMul,-fGt]
end Sk
namespace Sk
open PySem PySem.Spec L2 Sm
theorem ix5n (v:Nat) (hv:v<5):∃ M:Nat,(∀ h,fIx (.fl [.int 3,.int 40,.int 400,.int 1000000,.int 1000000000000000000]) (.int (v:Int)) h = .ok (.int M) h):=by
 have:v=0\/v=1\/v=2\/v=3\/v=4:=by lia
 rcases this with rfl | rfl | rfl | rfl | rfl
 ·exact ⟨3,fun _=>rfl⟩
 ·exact ⟨40,fun _=>rfl⟩
 ·exact ⟨400,fun _=>rfl⟩
 ·exact ⟨1000000,fun _=>rfl⟩
 ·exact ⟨1000000000000000000,fun _=>rfl⟩
theorem pz1:yaE "z" = true/\("z" : Str).length=1:=by decide +kernel
abbrev eBl (L R:Nat) (left:Nat) (o3 o4 o5 o6:Option AV):En:=[some (.ref L),some (.ref R),some (.int left),o3,o4,o5,o6]
theorem ziC {L R left:Nat} {hh:AH} {bs:List Bk} {N:Int} {o3 o4 o5 o6:Option AV} (eL:hh[L]? = some (.lst [.int N])) (eR:hh[R]? = some (.lst (bs.map bv))) (LR:L≠R) (lb:bs.length<=10) (hleft:left<=1000000000000000000) :
  ∃ (h':AH) (x:List Bk) (N':Int) (left':Nat) (c4 c5 c6:Option AV),ybd (eBl L R left o3 o4 o5 o6) hh = .nx (eBl L R left' o3 c4 c5 c6) h'/\x.length<=1/\(∀ y∈x,Ok y/\yaE y.1=true)/\(fB x).length+left'=left/\h'[L]? = some (.lst [.int N'])/\h'[R]? = some (.lst ((bs++x).map bv))/\h'.length=hh.length/\∀ i,i≠L->i≠R->h'[i]? = hh[i]? := by
 obtain ⟨y,N1,p1,py,ly⟩:=zhu 19 (by decide) eL
 have p1':ycA [.ref L,.int 19] hh = .ok (.str y) (hh.set L (.lst [.int N1])):=p1
 obtain ⟨h1,eh1⟩:∃ h1,h1=hh.set L (.lst [.int N1]):=⟨_,rfl⟩
 have L1:h1[L]? = some (.lst [.int N1]):=by rw [eh1];exact List.getElem?_set_self (yaP eL)
 have R1:h1[R]? = some (.lst (bs.map bv)):=by rw [eh1,List.getElem?_set_ne LR];exact eR
 have n1:h1.length=hh.length:=by rw [eh1,List.length_set]
 have k1:∀ i,i≠L->h1[i]? = hh[i]? := fun i q=>by rw [eh1];exact List.getElem?_set_ne (Ne.symm q)
 rw [<- eh1] at p1'
 obtain ⟨pz,lz⟩:=pz1
 obtain ⟨p,ep⟩:∃ p:Str,p=y ++ "z" := ⟨_,rfl⟩
 have lp:p.length=y.length+1:=by rw [ep,zal,lz]
 have pp:yaE p=true:=by rw [ep,zaH,py,pz];rfl
 have ad:fAdd (.str y) (.str "z") h1 = .ok (.str p) h1:=by
  have:y.length+("z" : Str).length<=sizeLine:=Nat.le_trans (m:=100) (by lia) (by decide)
  rw [ep]
  simp only [fAdd,this,if_true]
 obtain ⟨n,en⟩:∃ n,n=p.length:=⟨_,rfl⟩
 have ln:∀ h,fLen [.str p] h = .ok (.int n) h:=fun h=>by rw [en];rfl
 obtain ⟨q,eq⟩:∃ q,q=left / n:=⟨_,rfl⟩
 have dv:=yeH (a:=left) (b:=n) (by lia) (by lia) eq.symm h1
 obtain ⟨v2,N2,hv2,t2⟩:=za5 5 L1 (by decide) (by decide)
 have t2':yau [.ref L,.int 5] h1 = .ok (.int v2) (h1.set L (.lst [.int N2])):=t2
 obtain ⟨h2,eh2⟩:∃ h2,h2=h1.set L (.lst [.int N2]):=⟨_,rfl⟩
 have L2:h2[L]? = some (.lst [.int N2]):=by rw [eh2];exact List.getElem?_set_self (yaP L1)
 have R2:h2[R]? = some (.lst (bs.map bv)):=by rw [eh2,List.getElem?_set_ne LR];exact R1
 have n2:h2.length=hh.length:=by rw [eh2,List.length_set,n1]
 have k2:∀ i,i≠L->h2[i]? = hh[i]? := fun i q=>by rw [eh2,List.getElem?_set_ne (Ne.symm q)];exact k1 i q
 rw [<- eh2] at t2'
 obtain ⟨M,ixM⟩:=ix5n v2 hv2
 have ixM' := ixM h2
 have mn:=yfk q M h2
 have ad2:fAdd (.int ((min q M:Nat):Int)) (.int 1) h2 = .ok (.int ((min q M+1:Nat):Int)) h2:=ydY (b:=1) rfl h2
 have qb:q<=left:=by rw [eq];exact Nat.div_le_self _ _
 obtain ⟨m,N3,hm,t3⟩:=za5 (min q M+1) L2 (by lia) (Nat.le_trans (m:=1000000000000000001) (by lia) (by decide))
 obtain ⟨h3,eh3⟩:∃ h3,h3=h2.set L (.lst [.int N3]):=⟨_,rfl⟩
 have L3:h3[L]? = some (.lst [.int N3]):=by rw [eh3];exact List.getElem?_set_self (yaP L2)
 have R3:h3[R]? = some (.lst (bs.map bv)):=by rw [eh3,List.getElem?_set_ne LR];exact R2
 have n3:h3.length=hh.length:=by rw [eh3,List.length_set,n2]
 have k3:∀ i,i≠L->h3[i]? = hh[i]? := fun i q=>by rw [eh3,List.getElem?_set_ne (Ne.symm q)];exact k2 i q
 rw [<- eh3] at t3
 have mb:n*m<=left:=by
  have a:m<=left / n:=by lia
  have b:=Nat.mul_le_mul_left n a
  have c:=Nat.mul_div_le left n
  lia
 have ml:∀ h,fMul (.int m) (.int n) h = .ok (.int ((n*m:Nat):Int)) h:=ye8 (by lia) (Nat.mul_comm _ _)
 obtain ⟨left',el⟩:∃ l',left=n*m+l' := ⟨left-n*m,by lia⟩
 have sb:∀ h,fSub (.int left) (.int ((n*m:Nat):Int)) h = .ok (.int left') h:=ydB el
 have gt:∀ h,fGt (.int m) (.int 0) h = .ok (.bl (decide (0<m))) h:=fun h=>by simp
 have fl:(fB [((p,m):Bk)]).length=n*m:=by rw [ydp,zaV,en]
 by_cases z:0<m
 ·rw [decide_eq_true z] at gt
  have ap:=ap1 R3 (by rw [List.length_map];lia) (.tup [.str p,.int m])
  have isl:yax (.ref R) h3=true:=by simp [R3]
  have e4:(bs.map bv)++[.tup [.str p,.int m]]=(bs++[((p,m):Bk)]).map bv:=by rw [List.map_append];rfl
  rw [e4] at ap
  refine ⟨h3.set R (.lst ((bs++[((p,m):Bk)]).map bv)),[(p,m)],N3,left',some (.str p),some (.int q),some (.int m),?_,Nat.le_refl _,fun y hy=>?_,by lia,by rw [List.getElem?_set_ne (Ne.symm LR)];exact L3,List.getElem?_set_self (yaP R3),by rw [List.length_set,n3],fun i a b=>by rw [List.getElem?_set_ne (Ne.symm b)];exact k3 i a⟩
  ·generalize h3.set R (.lst ((bs++[((p,m):Bk)]).map bv))=HF at *
   clear eL eR L1 R1 n1 k1 L2 R2 n2 k2 L3 R3 n3 k3 p1 t2 ixM eh1 eh2 eh3 ep en eq el fl mb e4
   simp only [eBl]
   generalize ((n*m:Nat):Int)=NM at *
   generalize ((min q M+1:Nat):Int)=MQ1 at *
   generalize ((min q M:Nat):Int)=MQ at *
   simp [ybd,p1',ad,ln,dv,t2',ixM',mn,ad2,t3,gt,isl,ap,ml,sb,-fAdd,-fLen,-fDiv,-fIx,-yb3,-fGt,-yax,-yaA,-fMul,-fSub]
  ·rw [List.mem_singleton] at hy
   subst hy
   exact ⟨⟨by show 1<=p.length;lia,by show p.length<=20;lia,z⟩,pp⟩
 ·rw [decide_eq_false z] at gt
  have m0:m=0:=by lia
  refine ⟨h3,[],N3,left',some (.str p),some (.int q),some (.int m),?_,Nat.zero_le _,fun y hy=>(by cases hy),?_,L3,by rw [List.append_nil];exact R3,n3,fun i a _=>k3 i a⟩
  ·clear eL eR L1 R1 n1 k1 L2 R2 n2 k2 L3 R3 n3 k3 p1 t2 ixM eh1 eh2 eh3 ep en eq el fl mb
   simp only [eBl]
   generalize ((n*m:Nat):Int)=NM at *
   generalize ((min q M+1:Nat):Int)=MQ1 at *
   generalize ((min q M:Nat):Int)=MQ at *
   simp [ybd,p1',ad,ln,dv,t2',ixM',mn,ad2,t3,gt,ml,sb,-fAdd,-fLen,-fDiv,-fIx,-yb3,-fGt,-fMul,-fSub]
  ·have:(fB ([]:List Bk)).length=0:=rfl
   rw [m0,Nat.mul_zero] at el
   lia
theorem zgG {h:AH} {L:Nat} {N:Int} (eL:h[L]? = some (.lst [.int N])) :
  ∃ (h':AH) (bs:List Bk),ycP [.ref L] h = .ok (.ref h.length) h'/\(∀ x∈bs,Ok x/\yaE x.1=true)/\bs.length<=3/\(fB bs).length<=1000000000000000000/\h'[h.length]? = some (.lst (bs.map bv))/\h'.length=h.length+1/\∀ i,i≠L->i<h.length->h'[i]? = h[i]? := by
 have Ll:=yaP eL
 obtain ⟨H0,eH0⟩:∃ H0,H0=h++[AO.lst []]:=⟨_,rfl⟩
 have L0:H0[L]? = some (.lst [.int N]):=by rw [eH0,List.getElem?_append_left Ll];exact eL
 have R0:H0[h.length]? = some (.lst []):=by rw [eH0];simp
 have n0:H0.length=h.length+1:=by rw [eH0];simp
 obtain ⟨v,N1,hv,t1⟩:=za5 3 L0 (by decide) (by decide)
 have t1':yau [.ref L,.int 3] H0 = .ok (.int v) (H0.set L (.lst [.int N1])):=t1
 obtain ⟨H1,eH1⟩:∃ H1,H1=H0.set L (.lst [.int N1]):=⟨_,rfl⟩
 rw [<- eH1] at t1'
 have LR:L≠h.length:=by lia
 have ad:fAdd (.int 1) (.int v) H1 = .ok (.int ((1+v:Nat):Int)) H1:=ydY (a:=1) rfl H1
 obtain ⟨e',H2,r1,r2⟩:=ycv (w:=none) (all:=yaX 0 (1+v)) (t:=.nm 3) (b:=ybd) (xs:=yaX 0 (1+v)) (en:=eBl L h.length 1000000000000000000 none none none none) (h:=H1)
  (fun j en hh=>j<=3->∃ (bs:List Bk) (N':Int) (left:Nat) (o3 o4 o5 o6:Option AV),en=eBl L h.length left o3 o4 o5 o6/\(∀ x∈bs,Ok x/\yaE x.1=true)/\bs.length<=j/\(fB bs).length+left=1000000000000000000/\hh[L]? = some (.lst [.int N'])/\hh[h.length]? = some (.lst (bs.map bv))/\hh.length=h.length+1/\∀ i,i≠L->i<h.length->hh[i]? = h[i]?)
  (fun _=>⟨[],N1,1000000000000000000,none,none,none,none,rfl,fun x hx=>(by cases hx),Nat.le_refl _,by show 0+_=_;lia,by rw [eH1];exact List.getElem?_set_self (yaP L0),by rw [eH1,List.getElem?_set_ne LR];exact R0,by rw [eH1,List.length_set,n0],fun i a b=>by rw [eH1,List.getElem?_set_ne (Ne.symm a),eH0,List.getElem?_append_left b]⟩) (fun _ _ _ _=>rfl) (by
   intro j u en hh hu hp
   by_cases q:j<1+v
   ·obtain ⟨bs,N',left,o3,o4,o5,o6,rfl,b1,b2,b3,b4,b5,b6,b7⟩:=hp (by lia)
    obtain ⟨h',x,N'',left',c4,c5,c6,ev,x1,x2,x3,x4,x5,x6,x7⟩:=ziC (o3:=some u) (o4:=o4) (o5:=o5) (o6:=o6) b4 b5 LR (by lia) (show left<=_ by lia)
    show thn (ybd (eBl L h.length left (some u) o4 o5 o6) hh) _
    rw [ev]
    refine fun _=>⟨bs++x,N'',left',_,c4,c5,c6,rfl,fun y hy=>?_,by rw [List.length_append];lia,by rw [yca,List.length_append];lia,x4,x5,by lia,fun i a b=>(x7 i a (by lia)).trans (b7 i a b)⟩
    rcases List.mem_append.mp hy with hy | hy
    ·exact b1 y hy
    ·exact x2 y hy
   ·rw [zbc,if_neg q] at hu;cases hu)
 rw [zaX] at r2
 obtain ⟨bs,N',left,o3,o4,o5,o6,rfl,b1,b2,b3,b4,b5,b6,b7⟩:=r2 (by lia)
 have ea:sOp2 fAdd (sLit (.int 1)) (yae yau (yab (sVar 0) (yab (sLit (.int 3)) sNil))) (eBl L h.length 1000000000000000000 none none none none) H0 = .ok (.int ((1+v:Nat):Int)) H1:=by
  simp only [eBl]
  generalize ((1+v:Nat):Int)=V1 at *
  simp [t1',ad,-fAdd]
 have l1:=(yb2 (t:=.nm 3) (b:=ybd) (zbd ea (show 1+v<=10000000 by lia))).trans r1
 refine ⟨H2,bs,?_,b1,by lia,by lia,b5,b6,b7⟩
 clear b1 b2 b3 b4 b5 b6 b7 r1 ea L0 R0 eH1 t1 n0
 unfold ycP
 generalize sFor (ybT (sOp2 fAdd (sLit (.int 1)) (yae yau (yab (sVar 0) (yab (sLit (.int 3)) sNil))))) (.nm 3) ybd=L1 at *
 rw [eH0] at l1
 have l1':L1 [some (.ref L),some (.ref h.length),some (.int 1000000000000000000),none,none,none,none] (h++[.lst []]) = .nx [some (.ref L),some (.ref h.length),some (.int left),o3,o4,o5,o6] H2:=l1
 simp [l1']
theorem lnA {a b c j k:Nat} (h1:a<=b+k) (h2:b<=c+j*k):a<=c+(j+1)*k:=by rw [Nat.add_mul,Nat.one_mul];lia
abbrev eLg (B n:Nat) (o3 o4:Option AV):En:=[some (.ref 0),some (.ref B),some (.int n),o3,o4]
theorem ziD {h:AH} {B:Nat} {ps:List Pc} {bs:List Bk} (S:ShelfAt h 0 ps) (g:Good ps) (eB:h[B]? = some (.lst (bs.map bv))) (B8:8<B) (ok:∀ x∈bs,Ok x/\yaE x.1=true) (hl:bs.length<=3) (hT:(fB bs).length<=1000000000000000000) (hz:ps.length<=1000000) :
  ∃ (n:Nat) (ps':List Pc) (h':AH) (X:Str),ycu [.ref 0,.ref B] h = .ok (.int n) h'/\Dd 0 h h' ps ps' 600000/\TxZ ps' n X/\X.cps.toList=fB bs:=by
 obtain ⟨e',h',r1,r2⟩:=ycv (w:=some B) (all:=bs.map bv) (t:=.tup [3,4]) (b:=ybR) (xs:=bs.map bv) (en:=eLg B 0 none none) (h:=h)
  (fun j en hh=>hh[B]? = some (.lst (bs.map bv))/\(j<=bs.length->∃ (n:Nat) (ps':List Pc) (X:Str) (o3 o4:Option AV),en=eLg B n o3 o4/\Dd 0 h hh ps ps' (j*200000)/\TxZ ps' n X/\X.cps.toList=fB (bs.take j)))
  ⟨eB,fun _=>⟨0,ps, "",none,none,rfl,⟨S,g,List.prefix_refl _,by lia,fun _ _=>rfl,rfl⟩,.inl ⟨rfl,rfl⟩,rfl⟩⟩ (fun _ _ _ p=>by simp [p.1]) (by
   rintro j u en hh hu ⟨p1,p2⟩
   rw [List.getElem?_map] at hu
   obtain ⟨x,ex,rfl⟩:=Option.map_eq_some_iff.mp hu
   have hj:=(List.getElem?_eq_some_iff.mp ex).1
   obtain ⟨n,ps1,X,o3,o4,rfl,D,T,eX⟩:=p2 (by lia)
   have z0:=D.len
   obtain ⟨⟨k1,k2,k3⟩,kp⟩:=ok x (List.mem_of_getElem? ex)
   have sz:=ye6 (List.mem_of_getElem? ex)
   have xm:x.2<=x.1.length*x.2:=by
    have:=Nat.mul_le_mul_right x.2 k1
    lia
   obtain ⟨n2,ps2,h2,f2,D2,T2⟩:=zjF (x:=x.1) D.sh D.gd kp (by lia) (by lia)
   have z2:=D2.len
   obtain ⟨n3,ps3,h3,d3,T3⟩:=zgD (k:=x.2) (e:=60) D2.sh D2.gd T2 (Nat.lt_of_le_of_lt (m:=1000000000000000000) (by lia) (by decide)) (by decide) (by lia) (by lia)
   have f3:yb5 [.ref 0,.int n2,.int x.2] h2 = .ok (.int n3) h3:=d3.ev
   have z3:=d3.dd.len
   have T1' := (T.pre D2.pre).pre d3.dd.pre
   have e1:fB (bs.take (j+1))=X.cps.toList++(repS x.1 x.2).cps.toList:=by
    rw [zcr ex,yca,ydp,eX];rfl
   have lt1:X.length+(repS x.1 x.2).length<=1000000000000000000:=by
    rw [zad,zad,<- List.length_append,<- e1]
    have:fB bs=fB (bs.take (j+1))++fB (bs.drop (j+1)):=by rw [<- yca,List.take_append_drop]
    have:=congrArg List.length this
    rw [List.length_append] at this
    lia
   obtain ⟨n4,ps4,h4,f4,D4,T4⟩:=zjI d3.dd.sh d3.dd.gd T1' T3 lt1 (by lia)
   have DD:=((D.trans D2 (Nat.le_refl _)).trans d3.dd (Nat.le_refl _)).trans D4 (k2:=(j+1)*200000) (by rw [Nat.add_mul,Nat.one_mul];lia)
   show thn (ybR (eLg B n (some (.str x.1)) (some (.int x.2))) hh) _
   have ev:ybR (eLg B n (some (.str x.1)) (some (.int x.2))) hh = .nx (eLg B n4 (some (.str x.1)) (some (.int x.2))) h4:=by
    simp [ybR,eLg,f2,f3,f4]
   rw [ev]
   exact ⟨(DD.fr B (.inr (by omega))).trans eB,fun _=>⟨n4,ps4,_,_,_,rfl,DD,T4,by rw [zaf];exact e1.symm⟩⟩)
 rw [List.length_map] at r2
 obtain ⟨n,ps',X,o3,o4,rfl,D,T,eX⟩:=r2.2 (Nat.le_refl _)
 rw [List.take_length] at eX
 have it:ya4 (sVar 1) (eLg B 0 none none) h = .ok (bs.map bv,some B) h:=by simp [eLg,eB]
 have l1:=(yb2 (t:=.tup [3,4]) (b:=ybR) it).trans r1
 refine ⟨n,ps',h',X,?_,{ D with len:=Nat.le_trans D.len (by lia) },T,eX⟩
 clear D T r1 it
 unfold ycu
 generalize sFor (ya4 (sVar 1)) (.tup [3,4]) ybR=L1 at *
 have l1':L1 [some (.ref 0),some (.ref B),some (.int 0),none,none] h = .nx [some (.ref 0),some (.ref B),some (.int n),o3,o4] h' := l1
 simp [l1']
theorem ziE {α:Type} (l:List α) (k:Nat):cutA l none (some (k:Int))=l.take k:=by
 unfold cutA
 rw [HT.sIx_nat,HT.sIx_none]
 by_cases hk:k<=l.length
 ·rw [Nat.min_eq_left hk];simp
 ·rw [Nat.min_eq_right (by lia),List.take_of_length_le (l:=l) (by lia)];simp
theorem zef {w:Option Nat} {js:List Nat} {en:En} {all:List AV} {c:SB} {e:SE} (P:Nat->List AV->AH->Prop) (lv:∀ i ys h,P i ys h->ybx w all h=true):∀ (xs ys:List AV) (i:Nat) (h:AH),P i ys h ->
  (∀ j x ys h,xs[j]? = some x->P (i+j) ys h->c (some x::js.map fun j=>(en[j]?).join) h = .ok true h/\∃ v h2,e (some x::js.map fun j=>(en[j]?).join) h = .ok v h2/\P (i+j+1) (ys++[v]) h2)->ys.length+xs.length<=sizeLine ->
  ∃ zs h',yaQ js en w all c e xs ys h = .ok zs h'/\P (i+xs.length) zs h'
 | [],ys,i,h,p,_,_=>⟨ys,h,by unfold yaQ;rw [if_pos (lv _ _ _ p)],p⟩
 | x::xs,ys,i,h,p,s,hl=>by
  obtain ⟨q0,v,h2,q1,q2⟩:=s 0 x ys h rfl p
  obtain ⟨zs,h',r1,r2⟩:=zef P lv xs (ys++[v]) (i+1) h2 q2 (fun j y ys h hy hp=>by
   have:=s (j+1) y ys h (by simpa using hy) (by rw [show i+(j+1)=i+1+j by lia];exact hp)
   rw [show i+(j+1)+1=i+1+j+1 by lia] at this
   exact this) (by simp at hl ⊢;lia)
  refine ⟨zs,h',?_,by rw [List.length_cons,show i+(xs.length+1)=i+1+xs.length by lia];exact r2⟩
  unfold yaQ
  rw [if_pos ⟨lv _ _ _ p,by simp at hl;lia⟩,q0]
  dsimp only
  rw [q1]
  exact r1
theorem zb9:∀ (xs:List AV) (k i:Nat),(Sm.numbered k xs)[i]? = (xs[i]?).map fun x=>AV.tup [.int ((k+i:Nat):Int),x]
 | [],k,i=>by simp [Sm.numbered]
 | x::xs,k,0=>by simp [Sm.numbered]
 | x::xs,k,i+1=>by
  have:=zb9 xs (k+1) i
  simp [Sm.numbered,this]
  congr 1
  funext y
  congr 3
  lia
theorem zbS:∀ (xs:List AV) (k:Nat),(Sm.numbered k xs).length=xs.length
 | [],k=>rfl
 | x::xs,k=>by simp [Sm.numbered,zbS xs (k+1)]
theorem zeg:∀ j:Nat,ycL ((List.replicate j true).map AV.bl)=some (List.replicate j true)
 | 0=>rfl
 | j+1=>by rw [List.replicate_succ,List.map_cons,ycL,zeg j];rfl
theorem zdM {f:AV->Option PyData}:∀ xs:List AV,(∀ x∈xs,∃ d,f x=some d)->∃ ds,toDs f xs=some ds/\ds.length=xs.length
 | [],_=>⟨[],rfl,rfl⟩
 | x::xs,h=>by
  obtain ⟨d,e⟩:=h x (by simp)
  obtain ⟨ds,es,l⟩:=zdM xs (fun y hy=>h y (by simp [hy]))
  exact ⟨d::ds,by rw [toDs,e,es],by simp [l]⟩
theorem zjV {h:AH} {bs:List Bk} {v:AV} {w:Option Nat} (s:Src h bs v w):∃ d,toD 6 h v=some d:=by
 obtain ⟨ds,e,_⟩:=zdM (f:=toD 5 h) (bs.map bv) (fun x hx=>by
  obtain ⟨y,_,rfl⟩:=List.mem_map.mp hx
  exact ⟨.tuple [.str y.1,.int y.2],rfl⟩)
 cases s with
 | ref e2=>exact ⟨.list ds,by rw [toD,e2];dsimp only;rw [e];rfl⟩
 | fl=>exact ⟨.list ds,by rw [toD,e];rfl⟩
theorem zjW {F L K:Nat} {h:AH} {ps:List Pc} {md:List (Nat×AV)} (en:∀ q∈md,∃ bs X,Ent F L h ps K q.1 q.2 bs X) (l1:1<=md.length):fEq (.fl (md.map ev)) (.fl []) h = .ok (.bl false) h:=by
 obtain ⟨ds,e,l⟩:=zdM (f:=toD 7 h) (md.map ev) (fun x hx=>by
  obtain ⟨q,hq,rfl⟩:=List.mem_map.mp hx
  obtain ⟨bs,X,E⟩:=en q hq
  obtain ⟨⟨w,s⟩,_⟩:=E.sr
  obtain ⟨d,ed⟩:=zjV s
  exact ⟨.tuple [.int q.1,d],by rw [toD,toDs,toDs,toDs,ed];rfl⟩)
 rw [List.length_map] at l
 have e1:toD 8 h (.fl (md.map ev))=some (.list ds):=by rw [toD,e];rfl
 have e2:toD 8 h (.fl [])=some (.list []):=rfl
 match ds,l with
 | [],l=>exact absurd l (by simp;lia)
 | d::ds,_ =>
  simp only [fEq,eqA,e1,e2]
  rfl
structure Fo (F L:Nat) (h:AH) (ps:List Pc) (es:List (Nat×AV)):Prop where
 rr:Rr L h ps
 e:h[F]? = some (.lst (es.map ev))
 en:∀ q∈es,∃ bs X,Ent F L h ps 11 q.1 q.2 bs X
theorem Kp.setF {F L:Nat} {h:AH} (o:AO):Kp F L h (h.set F o):=⟨fun i _ _ _ i4=>List.getElem?_set_ne (by lia),by simp⟩
theorem Fo.fr {F L:Nat} {h h':AH} {ps:List Pc} {es:List (Nat×AV)} (f:Fo F L h ps es) (FL:F≠L) (r:Fr L h h'):Fo F L h' ps es :=
 ⟨f.rr.fr r,(r.fr F (yaP f.e) FL).trans f.e,fun q hq=>by
  obtain ⟨bs,X,E⟩:=f.en q hq
  exact ⟨bs,X,E.kp (.ofFr r) (List.prefix_refl _)⟩⟩
abbrev e52 (sc o2:Option AV) (F L:Nat) (o4 o5 o7 o8 o9:Option AV):En:=[sc,some (.ref 0),o2,some (.ref F),o4,o5,some (.ref L),o7,o8,o9]
theorem in52 {F L n:Nat} {h:AH} {ps:List Pc} {es:List (Nat×AV)} {v:AV} {bs:List Bk} {X:Str} {sc o2 o4 o5 o7:Option AV} (f:Fo F L h ps es) (F8:8<F) (FL:F≠L) (l1:es.length<=999) (E:Ent F L h ps 300 n v bs X) :
  ∃ (es':List (Nat×AV)) (h':AH),ycM (e52 sc o2 F L o4 o5 o7 (some (.int n)) (some v)) h = .nx (e52 sc o2 F L o4 o5 o7 (some (.int n)) (some v)) h'/\Fo F L h' ps es'/\es.length<=es'.length/\es'.length<=es.length+1/\Kp F L h h' := by
 obtain ⟨⟨w,sr⟩,nL⟩:=E.sr
 obtain ⟨h1,rd,R⟩:=zeW f.rr E.tx E.eX E.hX sr nL E.ok E.hl
 have f1:=f.fr FL R
 have k1:Kp F L h h1:=.ofFr R
 have E1:=E.kp k1 (List.prefix_refl _)
 obtain ⟨⟨w1,sr1⟩,_⟩:=E1.sr
 have ln:fLen [v] h1 = .ok (.int (bs.length:Nat)) h1:=by
  cases sr1 with
  | ref e=>simp [e]
  | fl=>simp
 by_cases q:bs.length<12
 ·have lt:fLt (.int (bs.length:Nat)) (.int 12) h1 = .ok (.bl true) h1:=by
   have:((bs.length:Nat):Int)<12:=by lia
   simp only [fLt,this,decide_true]
  have ap:=ap1 f1.e (by rw [List.length_map];lia) (ev (n,v))
  have isl:yax (.ref F) h1=true:=by simp [f1.e]
  have em:es.map ev++[ev (n,v)]=(es++[(n,v)]).map ev:=by rw [List.map_append];rfl
  rw [em] at ap
  have k2:Kp F L h1 (h1.set F (.lst ((es++[(n,v)]).map ev))):=.setF _
  have s2:Rr L (h1.set F (.lst ((es++[(n,v)]).map ev))) ps:=by
   obtain ⟨N,eN⟩:=f1.rr.ro
   exact ⟨f1.rr.sh.keep fun i i1 i8=>List.getElem?_set_ne (by lia),f1.rr.gd,f1.rr.far,N,by rw [List.getElem?_set_ne FL];exact eN⟩
  refine ⟨es++[(n,v)],h1.set F (.lst ((es++[(n,v)]).map ev)),?_,⟨s2,List.getElem?_set_self (yaP f1.e),fun p hp=>?_⟩,by simp,by simp,k1.trans k2⟩
  ·unfold ycM
   generalize h1.set F (.lst ((es++[(n,v)]).map ev))=H2 at *
   generalize ya2=G at *
   simp [e52,rd,ln,lt,isl,ap,-fLen,-fLt,-yax,-yaA]
  ·rcases List.mem_append.mp hp with hp | hp
   ·obtain ⟨bs',X',E'⟩:=f1.en p hp
    exact ⟨bs',X',E'.kp k2 (List.prefix_refl _)⟩
   ·have:p=(n,v):=by simpa using hp
    subst this
    exact ⟨bs,X,{ E1.kp k2 (List.prefix_refl _) with hl:=by lia }⟩
 ·have lt:fLt (.int (bs.length:Nat)) (.int 12) h1 = .ok (.bl false) h1:=by
   have : ¬ ((bs.length:Nat):Int)<12:=by lia
   simp only [fLt,this,decide_false]
  refine ⟨es,h1,?_,f1,Nat.le_refl _,by lia,k1⟩
  unfold ycM
  generalize ya2=G at *
  simp [e52,rd,ln,lt,-fLen,-fLt]
theorem yio {F L:Nat} {h:AH} {ps:List Pc} {es md:List (Nat×AV)} {sc o2 o4 o5 o8 o9:Option AV} (f:Fo F L h ps es) (F8:8<F) (FL:F≠L) (l1:es.length<=990) (l2:md.length<=2) (en:∀ q∈md,∃ bs X,Ent F L h ps 300 q.1 q.2 bs X) :
  ∃ (es':List (Nat×AV)) (h':AH) (c8 c9:Option AV),sFor (ya4 (sVar 7)) (.tup [8,9]) ycM (e52 sc o2 F L o4 o5 (some (.fl (md.map ev))) o8 o9) h = .nx (e52 sc o2 F L o4 o5 (some (.fl (md.map ev))) c8 c9) h'/\Fo F L h' ps es'/\es.length<=es'.length/\es'.length<=es.length+2/\h.length<=h'.length:=by
 obtain ⟨e',h',r1,r2⟩:=ycv (w:=none) (all:=md.map ev) (t:=.tup [8,9]) (b:=ycM) (xs:=md.map ev) (en:=e52 sc o2 F L o4 o5 (some (.fl (md.map ev))) o8 o9) (h:=h)
  (fun j en hh=>j<=2->∃ (es':List (Nat×AV)) (c8 c9:Option AV),en=e52 sc o2 F L o4 o5 (some (.fl (md.map ev))) c8 c9/\Fo F L hh ps es'/\es.length<=es'.length/\es'.length<=es.length+j/\Kp F L h hh)
  (fun _=>⟨es,o8,o9,rfl,f,Nat.le_refl _,Nat.le_refl _,.refl⟩) (fun _ _ _ _=>rfl) (by
   intro j u ex hh hu hp
   rw [List.getElem?_map] at hu
   obtain ⟨q,eq,rfl⟩:=Option.map_eq_some_iff.mp hu
   have hj:=(List.getElem?_eq_some_iff.mp eq).1
   obtain ⟨es1,c8,c9,rfl,f1,z0,z1,k1⟩:=hp (by lia)
   obtain ⟨bs,X,E⟩:=en q (List.mem_of_getElem? eq)
   obtain ⟨es2,h2,ev,f2,y0,y1,k2⟩:=in52 (sc:=sc) (o2:=o2) (o4:=o4) (o5:=o5) (o7:=some (.fl (md.map ev))) f1 F8 FL (by lia) (E.kp k1 (List.prefix_refl _))
   show thn (ycM (e52 sc o2 F L o4 o5 (some (.fl (md.map _))) (some (.int q.1)) (some q.2)) hh) _
   rw [ev]
   exact fun _=>⟨es2,_,_,rfl,f2,by lia,by lia,k1.trans k2⟩)
 rw [List.length_map] at r2
 obtain ⟨es',c8,c9,rfl,f',z0,z1,k'⟩:=r2 l2
 have it:ya4 (sVar 7) (e52 sc o2 F L o4 o5 (some (.fl (md.map ev))) o8 o9) h = .ok (md.map ev,none) h:=by
  generalize md.map ev=Q at *
  simp [e52]
 exact ⟨es',h',c8,c9,(yb2 it).trans r1,f',z0,by lia,k'.hl⟩
structure Fp (F:Nat) (h:AH) (ps:List Pc) (es:List (Nat×AV)):Prop where
 sh:ShelfAt h 0 ps
 gd:Good ps
 e:h[F]? = some (.lst (es.map ev))
 en:∀ q∈es,∃ bs X,Ent F h.length h ps 11 q.1 q.2 bs X
 l0:1<=es.length
theorem Fp.row {F:Nat} {h:AH} {ps:List Pc} {es:List (Nat×AV)} (f:Fp F h ps es) (N:Int):Fo F h.length (h++[.lst [.int N]]) ps es:=by
 have l8:=yaP f.sh.h8
 refine ⟨⟨f.sh.app _,f.gd,by omega,N,by simp⟩,by rw [List.getElem?_append_left (yaP f.e)];exact f.e,fun q hq=>?_⟩
 obtain ⟨bs,X,E⟩:=f.en q hq
 exact ⟨bs,X,E.kp (.app _) (List.prefix_refl _)⟩
theorem yhs {F:Nat} {h:AH} {ps:List Pc} {es:List (Nat×AV)} {sc o2 o6 o7 o8 o9:Option AV} (f:Fp F h ps es) (F8:8<F) (l1:es.length<=990) (hz:ps.length<9000000) (c k:Int) :
  ∃ (es':List (Nat×AV)) (ps':List Pc) (h':AH) (c6 c7 c8 c9:Option AV),yc2 [sc,some (.ref 0),o2,some (.ref F),some (.int k),some (.int c),o6,o7,o8,o9] h = .nx [sc,some (.ref 0),o2,some (.ref F),some (.int k),some (.int c),c6,c7,c8,c9] h'/\Fp F h' ps' es'/\es'.length<=es.length+2/\ps'.length<=ps.length+60000:=by
 obtain ⟨N,ec⟩:=ziz c k h
 have Fl:=yaP f.e
 have f1:=f.row N
 have l0:=f.l0
 obtain ⟨h1,eh1⟩:∃ h1,h1=h++[AO.lst [.int N]]:=⟨_,rfl⟩
 rw [<- eh1] at ec f1
 have FL:F≠h.length:=by lia
 obtain ⟨md,ps2,h2,ed,R⟩:=ziB f1.rr f1.e f1.en F8 FL (by lia) (by lia) hz
 have f2:Fo F h.length h2 ps2 es:=⟨R.rr,(R.kp.fr F (yaP f1.e) F8 FL (by lia)).trans f1.e,fun q hq=>by
  obtain ⟨bs,X,E⟩:=f1.en q hq
  exact ⟨bs,X,E.kp R.kp.weak R.pre⟩⟩
 have ne:=zjW R.en R.l1
 obtain ⟨es',h',c8,c9,lp,f3,z0,z1,_⟩:=yio (sc:=sc) (o2:=o2) (o4:=some (.int k)) (o5:=some (.int c)) (o8:=o8) (o9:=o9) f2 F8 FL l1 R.l2 R.en
 refine ⟨es',ps2,h',some (.ref h.length),some (.fl (md.map ev)),c8,c9,?_,⟨f3.rr.sh,f3.rr.gd,f3.e,fun q hq=>?_,by lia⟩,z1,R.len⟩
 rotate_left
 ·obtain ⟨bs,X,E⟩:=f3.en q hq
  exact ⟨bs,X,E.newL (Nat.le_refl _)⟩
 unfold yc2
 generalize sFor (ya4 (sVar 7)) (.tup [8,9]) ycM=LP at *
 generalize ycR=G1 at *
 generalize ybk=G2 at *
 simp only [e52] at lp
 generalize md.map ev=MD at *
 simp [ec,ed,ne,lp,-fEq]
end Sk
namespace Sk
open PySem PySem.Spec L2 Sm
theorem yip {L:Nat} {h:AH} {ps:List Pc} {es:List (Nat×AV)} (f:Fo 11 L h ps es) (FL:11≠L) (lm:es.length<=990) (js:List Nat) (en:En) (hj:js.map (fun j=>(en[j]?).join)=[some (.ref 0),some (.ref L)]) :
  ∃ h':AH,yaQ js en (some 11) (es.map ev) (un2 sYes) (un2 (yae ya2 (yab (sVar 2) (yab (sVar 0) (yab (sVar 1) (yab (sVar 3) sNil)))))) (es.map ev) [] h = .ok ((List.replicate es.length true).map AV.bl) h' := by
 obtain ⟨zs,h',c1,e1,e2⟩:=zef (w:=some 11) (js:=js) (en:=en) (all:=es.map ev) (c:=un2 sYes) (e:=un2 (yae ya2 (yab (sVar 2) (yab (sVar 0) (yab (sVar 1) (yab (sVar 3) sNil))))))
  (fun j zs h' => Fo 11 L h' ps es/\zs=(List.replicate j true).map AV.bl) (by
   rintro i ys h' ⟨f',_⟩
   simp [f'.e]) (es.map ev) [] 0 h ⟨f,rfl⟩ (by
   rintro j v ys hh hv ⟨f',rfl⟩
   rw [Nat.zero_add]
   rw [List.getElem?_map] at hv
   obtain ⟨p,ep,rfl⟩:=Option.map_eq_some_iff.mp hv
   obtain ⟨bs,X,E⟩:=f'.en p (List.mem_of_getElem? ep)
   obtain ⟨⟨w,sr⟩,nL⟩:=E.sr
   obtain ⟨h1,rd,R⟩:=zeW f'.rr E.tx E.eX E.hX sr nL E.ok (Nat.le_trans E.hl (by decide))
   rw [hj]
   refine ⟨rfl,.bl true,h1,?_,f'.fr FL R,?_⟩
   ·show (yae ya2 (yab (sVar 2) (yab (sVar 0) (yab (sVar 1) (yab (sVar 3) sNil))))) [some (.int p.1),some p.2,some (.ref 0),some (.ref L)] hh=_
    generalize ya2=G at *
    simp [rd]
   ·rw [List.replicate_succ',List.map_append];rfl) (by simp;exact Nat.le_trans lm (by decide))
 rw [Nat.zero_add,List.length_map] at e2
 exact ⟨h',by rw [c1,e2]⟩
theorem law_true (ns:List Int) (hl:ns.length<=63):∃ h',yfj [.fl (ns.map AV.int)] [] = .ok (.bl true) h' := by
 have mk:=yg9 [some (.fl (ns.map AV.int)),none,none,none,none,none,none,none,none,none] []
 have l0:([]:AH).length=0:=rfl
 rw [l0,List.nil_append] at mk
 have S0:ShelfAt (ycG 0) 0 []:=by have:=yha [] [];simpa using this
 obtain ⟨N0,s0⟩:=zeS ns hl 0 (by decide) (ycG 0)
 have s0':ybr [.fl (ns.map AV.int),.int 0] (ycG 0) = .ok (.ref 9) (ycG 0++[.lst [.int N0]]):=s0
 have e1:(ycG 0++[AO.lst [.int N0]])[9]? = some (.lst [.int N0]):=rfl
 have n1:(ycG 0++[AO.lst [.int N0]]).length=10:=rfl
 have S1:ShelfAt (ycG 0++[AO.lst [.int N0]]) 0 []:=S0.app _
 generalize ycG 0++[AO.lst [.int N0]]=H1 at *
 obtain ⟨H2,bs,f2,ok,lb,hT,eB,n2,k2⟩:=zgG e1
 rw [n1] at f2 eB n2 k2
 replace n2:H2.length=11:=n2
 have S2:ShelfAt H2 0 []:=S1.keep fun i _ i8=>k2 i (by lia) (by lia)
 obtain ⟨n,ps3,H3,X,f3,D3,T3,eX⟩:=ziD S2 .nil eB (by lia) ok lb hT (by decide)
 have z3:ps3.length<=600000:=Nat.le_trans D3.len (by show 0+600000<=_;lia)
 have n3:H3.length=11:=D3.hl.trans n2
 have B3:H3[10]? = some (.lst (bs.map bv)):=(D3.fr 10 (.inr (by lia))).trans eB
 have R3:H3[9]? = H2[9]? := D3.fr 9 (.inr (by lia))
 have xl:(fB bs).length=X.length:=by rw [<- eX,<- zad]
 obtain ⟨H4,eH4⟩:∃ H4,H4=H3++[AO.lst (([(n,AV.ref 10)]:List (Nat×AV)).map ev)]:=⟨_,rfl⟩
 have F4:H4[11]? = some (.lst (([(n,AV.ref 10)]:List (Nat×AV)).map ev)):=by rw [eH4,<- n3];simp
 have B4:H4[10]? = some (.lst (bs.map bv)):=by rw [eH4,List.getElem?_append_left (by lia)];exact B3
 have n4:H4.length=12:=by rw [eH4];simp [n3]
 have S4:ShelfAt H4 0 ps3:=eH4▸D3.sh.app _
 obtain ⟨sc,esc⟩:∃ sc:Option AV,sc=some (.fl (ns.map AV.int)):=⟨_,rfl⟩
 obtain ⟨cells,ecl⟩:∃ cells:List Int,cells=ns.take 12++[0]:=⟨_,rfl⟩
 have lc:cells.length<=13:=by rw [ecl];simp;lia
 have E4:∀ L,12<=L->Ent 11 L H4 ps3 11 n (.ref 10) bs X:=fun L l=>⟨T3,eX,by lia,fun x hx=>(ok x hx).1,by lia,.inr ⟨10,rfl,by lia,by lia,by lia,B4⟩⟩
 obtain ⟨e',H5,r1,r2⟩:=ycv (w:=none) (all:=Sm.numbered 0 (cells.map AV.int)) (t:=.tup [4,5]) (b:=yc2) (xs:=Sm.numbered 0 (cells.map AV.int)) (en:=[sc,some (.ref 0),some (.ref 10),some (.ref 11),none,none,none,none,none,none]) (h:=H4)
  (fun i en h' => i<=13->∃ (o4 o5 o6 o7 o8 o9:Option AV) (ps:List Pc) (es:List (Nat×AV)),en=[sc,some (.ref 0),some (.ref 10),some (.ref 11),o4,o5,o6,o7,o8,o9]/\Fp 11 h' ps es/\es.length<=1+2*i/\ps.length<=600000+i*60000)
  (fun _=>⟨none,none,none,none,none,none,ps3,[(n,.ref 10)],rfl,⟨S4,D3.gd,F4,fun q hq=>⟨bs,X,by rw [List.mem_singleton.mp hq];exact E4 _ (by lia)⟩,by simp⟩,by simp,by omega⟩) (fun _ _ _ _=>rfl) (by
   intro j u en h' hu hp
   rw [zb9] at hu
   obtain ⟨v,ev,rfl⟩:=Option.map_eq_some_iff.mp hu
   rw [List.getElem?_map] at ev
   obtain ⟨c,ec,rfl⟩:=Option.map_eq_some_iff.mp ev
   have hj:j<cells.length:=(List.getElem?_eq_some_iff.mp ec).1
   obtain ⟨o4,o5,o6,o7,o8,o9,ps,es,rfl,f,le,lp⟩:=hp (by lia)
   obtain ⟨es',ps',h2,c6,c7,c8,c9,e,f',le',lp'⟩:=yhs (sc:=sc) (o2:=some (.ref 10)) (o6:=o6) (o7:=o7) (o8:=o8) (o9:=o9) f (by lia) (by lia) (by lia) c ((0+j:Nat):Int)
   obtain ⟨BB,hB⟩:∃ BB,BB=yc2:=⟨_,rfl⟩
   rw [<- hB] at e ⊢
   show thn (BB [sc,some (.ref 0),some (.ref 10),some (.ref 11),some (.int ((0+j:Nat):Int)),some (.int c),o6,o7,o8,o9] h') _
   rw [e]
   exact fun _=>⟨_,_,c6,c7,c8,c9,ps',es',rfl,f',by lia,lnA lp' lp⟩)
 rw [zbS,List.length_map] at r2
 obtain ⟨o4,o5,o6,o7,o8,o9,ps,es,rfl,f,le,lp⟩:=r2 lc
 have ct:ybb (.fl (ns.map AV.int)) none (some 12) H4 = .ok (.fl ((ns.take 12).map AV.int)) H4:=by
  have:=ziE (ns.map AV.int) 12
  have t8:((12:Nat):Int)=12:=rfl
  rw [t8] at this
  simp only [ybb,this,List.map_take]
 have ad:fAdd (.fl ((ns.take 12).map AV.int)) (.fl [.int 0]) H4 = .ok (.fl (cells.map AV.int)) H4:=by
  have sl:((ns.take 12).map AV.int).length+([AV.int 0]:List AV).length<=sizeLine:=Nat.le_trans (m:=13) (by rw [List.length_map,List.length_take];simp;(clear ct lp le f r2 r1 E4 lc ecl esc S4 n4 B4 F4 eH4 xl R3 B3 n3 z3 eX T3 D3 f3 S2 n2 k2 eB hT lb ok f2 S1 n1 e1 s0' s0 S0 l0 mk hl;lia)) (by decide)
  rw [ecl,List.map_append]
  show (if ((ns.take 12).map AV.int).length+([AV.int 0]:List AV).length<=sizeLine then Out.ok (AV.fl ((ns.take 12).map AV.int++[.int 0])) H4 else .bad)=_
  rw [if_pos sl]
  rfl
 have it1:Sm.iEnum (sOp2 fAdd (sCut (sVar 0) none (some (sLit (.int 12)))) (sLst (yab (sLit (.int 0)) sNil))) [some (.fl (ns.map AV.int)),some (.ref 0),some (.ref 10),some (.ref 11),none,none,none,none,none,none] H4 = .ok (Sm.numbered 0 (cells.map AV.int),none) H4:=by
  generalize cells.map AV.int=CC at *
  generalize (ns.take 12).map AV.int=C12 at *
  generalize ns.map AV.int=C0 at *
  simp [ct,ad,-ybb,-fAdd]
 subst esc
 have f1:=(yb2 (t:=.tup [4,5]) (b:=yc2) it1).trans r1
 obtain ⟨N6,s6⟩:=zeS ns hl 1 (by decide) H5
 have s6':ybr [.fl (ns.map AV.int),.int 1] H5 = .ok (.ref H5.length) (H5++[.lst [.int N6]]):=s6
 have g:=f.row N6
 have lF:=yaP f.e
 obtain ⟨H6,eH6⟩:∃ H6,H6=H5++[AO.lst [.int N6]]:=⟨_,rfl⟩
 rw [<- eH6] at s6' g
 obtain ⟨en,een⟩:∃ en:En,en=[some (.fl (ns.map AV.int)),some (.ref 0),some (.ref 10),some (.ref 11),o4,o5,some (.ref H5.length),o7,o8,o9]:=⟨_,rfl⟩
 obtain ⟨H7,cg⟩:=yip g (by lia) (by lia) [1,6] en (by subst een;rfl)
 have cp:yb1 [1,6] (ya4 (sVar 3)) sYes (yae ya2 (yab (sVar 2) (yab (sVar 0) (yab (sVar 1) (yab (sVar 3) sNil))))) en H6 = .ok (.fl ((List.replicate es.length true).map AV.bl)) H7:=by
  have iv:ya4 (sVar 3) en H6 = .ok (es.map ev,some 11) H6:=by
   have:=g.e
   generalize es.map ev=ES at *
   subst een;simp [this]
  simp only [yb1,yby,iv,cg]
 have al:fAll [.fl ((List.replicate es.length true).map AV.bl)] H7 = .ok (.bl true) H7:=by
  have:fAll [.fl ((List.replicate es.length true).map AV.bl)] H7=(match ycL ((List.replicate es.length true).map AV.bl) with | some bs=>.ok (.bl (bs.all id)) H7 | none=>.bad):=rfl
  rw [this,zeg]
  simp
 have lm:∀ v,ycu [.ref 0,.ref 10] v=ycu [.ref 0,.ref 10] v:=fun _=>rfl
 refine ⟨H7,?_⟩
 clear S0 S1 S2 S4 D3 T3 B3 B4 F4 E4 g f r1 it1 ct ad s0 s6 eB e1 ok
 unfold yfj
 generalize sFor (Sm.iEnum (sOp2 fAdd (sCut (sVar 0) none (some (sLit (.int 12)))) (sLst (yab (sLit (.int 0)) sNil)))) (.tup [4,5]) yc2=L1 at *
 generalize yb1 [1,6] (ya4 (sVar 3)) sYes (yae ya2 (yab (sVar 2) (yab (sVar 0) (yab (sVar 1) (yab (sVar 3) sNil)))))=CP at *
 generalize yeR 0 8 ych sNil=MK at *
 generalize ycG 0=HN at *
 generalize (List.replicate es.length true).map AV.bl=RB at *
 subst een
 generalize ns.map AV.int=ZN at *
 have eH4':H3++[AO.lst [.tup [.int n,.ref 10]]]=H4:=eH4.symm
 simp [mk,s0',f2,f3,n3,eH4',f1,s6',cp,al,-fAll]
end Sk
namespace Sk
open PySem PySem.Spec L2 Sm
theorem zhA:bootBuiltins "sorted" = some (.builtin "sorted"):=by decide +kernel
def top (i:Nat):Stmt:=PySem.Challenge.pw_skeinwood_k52_whole_long_texts_cut_and_p.main.body.getD i (.Pass ⟨0,0,0,0⟩)
abbrev ydq:Stmt:=ybj (top 18) 0
abbrev ydZ:Stmt:=top 49
abbrev ydD:Stmt:=top 50
abbrev ydr:Stmt:=top 51
abbrev ydE:Stmt:=top 47
abbrev ycV:Stmt:=top 48
abbrev ycw:Stmt:=top 58
abbrev ydF:Stmt:=top 59
abbrev yc8:Stmt:=top 52
abbrev yd0:Stmt:=top 54
abbrev yds:Stmt:=ybj (top 18) 3
abbrev yd1:Stmt:=top 11
abbrev ycx:Stmt:=ybj (top 18) 11
abbrev ycc:Stmt:=ybj (top 18) 12
abbrev ycm:Stmt:=ybj (top 18) 13
abbrev yda:Stmt:=ybj (top 18) 5
abbrev ycW:Stmt:=top 35
abbrev ydb:Stmt:=ybj (top 18) 4
abbrev yc3:Stmt:=top 23
abbrev ycy:Stmt:=ybj (top 18) 10
abbrev ycn:Stmt:=ybj (top 18) 9
abbrev ydG:Stmt:=top 24
abbrev yco:Stmt:=ybj (top 18) 14
abbrev ydH:Stmt:=ybj (top 18) 17
abbrev ycJ:Stmt:=ybj (top 18) 16
abbrev ydt:Stmt:=ybj (top 18) 2
abbrev ydI:Stmt:=top 29
abbrev yc4:Stmt:=ybj (top 18) 8
abbrev ydc:Stmt:=top 26
abbrev ycX:Stmt:=top 30
abbrev yc5:Stmt:=top 27
abbrev yep:Stmt:=top 25
abbrev ycY:Stmt:=top 13
abbrev ydk:Stmt:=top 12
abbrev yd2:Stmt:=top 14
abbrev yeg:Stmt:=top 15
abbrev ycK:Stmt:=ybj (top 18) 15
abbrev ydu:Stmt:=ybj (top 18) 1
abbrev yeq:Stmt:=top 28
abbrev yer:Stmt:=top 20
abbrev yeh:Stmt:=top 42
abbrev yd3:Stmt:=top 41
abbrev ydJ:Stmt:=top 40
abbrev ydv:Stmt:=top 61
abbrev ycZ:Stmt:=top 56
abbrev ydK:Stmt:=top 60
abbrev ydL:Stmt:=top 34
abbrev yes:Stmt:=top 38
abbrev yet:Stmt:=top 37
abbrev ydM:Stmt:=top 39
abbrev yd4:Stmt:=top 62
abbrev yei:Stmt:=top 32
abbrev yd5:Stmt:=top 22
abbrev yeu:Stmt:=top 31
abbrev yen:Stmt:=top 21
abbrev yd6:Stmt:=top 53
abbrev yc0:Stmt:=top 45
abbrev ydw:Stmt:=top 44
abbrev ycH:Stmt:=top 55
abbrev ydN:Stmt:=top 57
abbrev yeI:Stmt:=top 63
def flds:Nat->List Str
 | 0=>["pieces", "numbers", "sign_counts", "end_counts", "leaf_counts", "heights", "first_leaves", "last_leaves"]
 | _=>[]
theorem zjX:∀ c,(flds c).Nodup
 | 0=>by decide +kernel
 | _+1=>List.nodup_nil
theorem ziF:∀ c,(flds c).length<=500
 | 0=>by decide +kernel
 | _+1=>Nat.zero_le _
abbrev mkT (K:PySem.W.Frag) (cls exc:Nat->Option Addr):Tb:=⟨K,cls,exc,flds,zjX,ziF⟩
structure Facts (P:Program) (w:World) (K:PySem.W.Frag) (cls exc:Nat->Option Addr) (mg:Str->Option Value) (base:Heap):Prop where
 b_abs:mg "abs" = none
 b_all:mg "all" = none
 b_bool:mg "bool" = none
 b_enumerate:mg "enumerate" = none
 b_int:mg "int" = none
 b_isinstance:mg "isinstance" = none
 b_len:mg "len" = none
 b_max:mg "max" = none
 b_min:mg "min" = none
 b_range:mg "range" = none
 b_sorted:mg "sorted" = none
 b_str:mg "str" = none
 b_sum:mg "sum" = none
 c_LEAF_SIGNS:∃ t,mg "LEAF_SIGNS" = some (.int 8 t)
 c_MOST_PLAIN:∃ t,mg "MOST_PLAIN" = some (.int 10000 t)
 c_MOST_SIGNS:∃ t,mg "MOST_SIGNS" = some (.int 1000000000000000000 t)
 cf_Shelf:CF (mkT K cls exc) 0
 x_NoText:GX (mkT K cls exc) mg base 1 "NoText"
 x_NoPiece:GX (mkT K cls exc) mg base 2 "NoPiece"
 x_Loose:GX (mkT K cls exc) mg base 3 "Loose"
 x_Unlevel:GX (mkT K cls exc) mg base 4 "Unlevel"
 x_TooLong:GX (mkT K cls exc) mg base 5 "TooLong"
 x_NoPlace:GX (mkT K cls exc) mg base 6 "NoPlace"
 d_Shelf_init:DI K cls mg 0 "Shelf" "Shelf.__init__" ydq ["self"]
 d_law_take:DG K mg "_law_take" ydZ ["stream", "many"]
 d_law_plain:DG K mg "_law_plain" ydD ["stream", "most"]
 d_law_blocks:DG K mg "_law_blocks" ydr ["stream"]
 d_law_mixed:DG K mg "_law_mixed" ydE ["cell", "k"]
 d_law_stream:DG K mg "_law_stream" ycV ["script", "k"]
 d_law_cell_stream:DG K mg "_law_cell_stream" ycw ["cell", "k"]
 d_law_drawn:DG K mg "_law_drawn" ydF ["found", "stream"]
 d_law_signs:DG K mg "_law_signs" yc8 ["blocks"]
 d_law_part:DG K mg "_law_part" yd0 ["blocks", "begin", "end"]
 d_Shelf_many:DMm K cls 0 "many" "Shelf.many" yds ["self"]
 d_is_whole:DG K mg "is_whole" yd1 ["thing"]
 d_Shelf_has_piece:DMm K cls 0 "has_piece" "Shelf.has_piece" ycx ["self", "number"]
 d_Shelf_check_piece:DMm K cls 0 "check_piece" "Shelf.check_piece" ycc ["self", "number"]
 d_Shelf_check_text:DMm K cls 0 "check_text" "Shelf.check_text" ycm ["self", "text"]
 d_Shelf_signs:DMm K cls 0 "signs" "Shelf.signs" yda ["self", "text"]
 d_check_stretch:DG K mg "check_stretch" ycW ["shelf", "text", "begin", "end"]
 d_Shelf_piece:DMm K cls 0 "piece" "Shelf.piece" ydb ["self", "number"]
 d_check_length:DG K mg "check_length" yc3 ["signs"]
 d_Shelf_last_leaf:DMm K cls 0 "last_leaf" "Shelf.last_leaf" ycy ["self", "text"]
 d_Shelf_first_leaf:DMm K cls 0 "first_leaf" "Shelf.first_leaf" ycn ["self", "text"]
 d_are_close:DG K mg "are_close" ydG ["shelf", "one", "other"]
 d_Shelf_check_fork:DMm K cls 0 "check_fork" "Shelf.check_fork" yco ["self", "one", "other"]
 d_Shelf_lay:DMm K cls 0 "lay" "Shelf.lay" ydH ["self", "made"]
 d_Shelf_lay_fork:DMm K cls 0 "lay_fork" "Shelf.lay_fork" ycJ ["self", "made"]
 d_Shelf_fork:DMm K cls 0 "fork" "Shelf.fork" ydt ["self", "one", "other"]
 d_with_last:DG K mg "with_last" ydI ["shelf", "text", "leaf"]
 d_Shelf_height:DMm K cls 0 "height" "Shelf.height" yc4 ["self", "text"]
 d_turned_left:DG K mg "turned_left" ydc ["shelf", "one", "other"]
 d_without_first:DG K mg "without_first" ycX ["shelf", "text"]
 d_turned_right:DG K mg "turned_right" yc5 ["shelf", "one", "other"]
 d_linked:DG K mg "linked" yep ["shelf", "one", "other"]
 d_is_plain_sign:DG K mg "is_plain_sign" ycY ["sign"]
 d_is_plain:DG K mg "is_plain" ydk ["thing"]
 d_is_short:DG K mg "is_short" yd2 ["thing"]
 d_ends_in:DG K mg "ends_in" yeg ["plain"]
 d_Shelf_lay_leaf:DMm K cls 0 "lay_leaf" "Shelf.lay_leaf" ycK ["self", "made"]
 d_Shelf_leaf:DMm K cls 0 "leaf" "Shelf.leaf" ydu ["self", "plain"]
 d_welded:DG K mg "welded" yeq ["shelf", "one", "other"]
 d_joined:DG K mg "joined" yer ["shelf", "one", "other"]
 d_back_of:DG K mg "back_of" yeh ["shelf", "text", "at"]
 d_front_of:DG K mg "front_of" yd3 ["shelf", "text", "at"]
 d_kept_part:DG K mg "kept_part" ydJ ["shelf", "text", "begin", "end"]
 d_law_halved:DG K mg "_law_halved" ydv ["shelf", "text", "blocks"]
 d_law_places:DG K mg "_law_places" ycZ ["blocks", "stream"]
 d_law_place:DG K mg "_law_place" ydK ["blocks", "stream"]
 d_check_gap:DG K mg "check_gap" ydL ["shelf", "text", "at"]
 d_put_in:DG K mg "put_in" yes ["shelf", "text", "at", "other"]
 d_cut_at:DG K mg "cut_at" yet ["shelf", "text", "at"]
 d_taken_out:DG K mg "taken_out" ydM ["shelf", "text", "begin", "end"]
 d_law_deed:DG K mg "_law_deed" yd4 ["shelf", "found", "stream"]
 d_doubled:DG K mg "doubled" yei ["shelf", "text", "many"]
 d_repeated:DG K mg "repeated" yd5 ["shelf", "text", "many"]
 d_halved:DG K mg "halved" yeu ["shelf", "leaves"]
 d_built:DG K mg "built" yen ["shelf", "plain"]
 d_law_long:DG K mg "_law_long" yd6 ["shelf", "blocks"]
 d_signs_between:DG K mg "signs_between" yc0 ["shelf", "text", "begin", "end"]
 d_stretch_of:DG K mg "stretch_of" ydw ["shelf", "text", "begin", "end"]
 d_law_stretch:DG K mg "_law_stretch" ycH ["blocks", "begin", "end"]
 d_law_reads:DG K mg "_law_reads" ydN ["shelf", "text", "blocks", "stream"]
 d_law:DG K mg "law" yeI ["script"]
theorem zem:FnScope ["self"] ["self"] (yah ydq):=fsk
theorem zfl:FnScope ["stream", "many", "digit"] ["stream", "many"] (yah ydZ):=fsk
theorem zeX:FnScope ["stream", "most", "letters", "wide", "signs", "plain", "k"] ["stream", "most"] (yah ydD):=fsk
theorem zen:FnScope ["stream", "blocks", "left", "k", "plain", "most", "many"] ["stream"] (yah ydr):=fsk
theorem zeY:FnScope ["cell", "k", "one"] ["cell", "k"] (yah ydE):=fsk
theorem zeo:FnScope ["script", "k", "cell", "j", "found"] ["script", "k"] (yah ycV):=fsk
theorem zca:FnScope ["cell", "k", "found", "j"] ["cell", "k"] (yah ycw):=fsk
theorem zeZ:FnScope ["found", "stream"] ["found", "stream"] (yah ydF):=fsk
theorem ze0:FnScope ["blocks"] ["blocks"] (yah yc8):=fsk
theorem zfm:FnScope ["blocks", "begin", "end", "found", "here", "plain", "many", "size", "low", "high", "first", "last", "begun"] ["blocks", "begin", "end"] (yah yd0):=fsk
theorem zep:FnScope ["self"] ["self"] (yah yds):=fsk
theorem zfn:FnScope ["thing"] ["thing"] (yah yd1):=fsk
theorem zcb:FnScope ["self", "number"] ["self", "number"] (yah ycx):=fsk
theorem zbQ:FnScope ["self", "number"] ["self", "number"] (yah ycc):=fsk
theorem zbU:FnScope ["self", "text"] ["self", "text"] (yah ycm):=fsk
theorem zdN:FnScope ["self", "text"] ["self", "text"] (yah yda):=fsk
theorem zc7:FnScope ["shelf", "text", "begin", "end", "signs"] ["shelf", "text", "begin", "end"] (yah ycW):=fsk
theorem zdO:FnScope ["self", "number"] ["self", "number"] (yah ydb):=fsk
theorem zdn:FnScope ["signs"] ["signs"] (yah yc3):=fsk
theorem zcc:FnScope ["self", "text"] ["self", "text"] (yah ycy):=fsk
theorem zbV:FnScope ["self", "text"] ["self", "text"] (yah ycn):=fsk
theorem ze1:FnScope ["shelf", "one", "other"] ["shelf", "one", "other"] (yah ydG):=fsk
theorem zbW:FnScope ["self", "one", "other", "seam"] ["self", "one", "other"] (yah yco):=fsk
theorem ze2:FnScope ["self", "made", "number"] ["self", "made"] (yah ydH):=fsk
theorem zcv:FnScope ["self", "made", "one", "other"] ["self", "made"] (yah ycJ):=fsk
theorem zeq:FnScope ["self", "one", "other", "made"] ["self", "one", "other"] (yah ydt):=fsk
theorem zcd:FnScope ["shelf", "text", "leaf", "piece"] ["shelf", "text", "leaf"] (yah ydI):=fsk
theorem zdo:FnScope ["self", "text"] ["self", "text"] (yah yc4):=fsk
theorem zdP:FnScope ["shelf", "one", "other", "piece", "near", "far", "inner"] ["shelf", "one", "other"] (yah ydc):=fsk
theorem zbo:FnScope ["shelf", "text", "piece", "rest"] ["shelf", "text"] (yah ycX):=fsk
theorem zdp:FnScope ["shelf", "one", "other", "piece", "far", "near", "inner"] ["shelf", "one", "other"] (yah yc5):=fsk
theorem zeh:FnScope ["shelf", "one", "other", "tilt", "piece"] ["shelf", "one", "other"] (yah yep):=fsk
theorem zc8:FnScope ["sign"] ["sign"] (yah ycY):=fsk
theorem zfo:FnScope ["thing"] ["thing"] (yah ydk):=fsk
theorem zfp:FnScope ["thing"] ["thing"] (yah yd2):=fsk
theorem zgH:FnScope ["plain"] ["plain"] (yah yeg):=fsk
theorem zcw:FnScope ["self", "made", "number", "plain"] ["self", "made"] (yah ycK):=fsk
theorem zer:FnScope ["self", "plain", "made"] ["self", "plain"] (yah ydu):=fsk
theorem zhB:FnScope ["shelf", "one", "other", "seam", "front", "back"] ["shelf", "one", "other"] (yah yeq):=fsk
theorem zhC:FnScope ["shelf", "one", "other"] ["shelf", "one", "other"] (yah yer):=fsk
theorem zdq:FnScope ["shelf", "text", "at", "piece", "ahead"] ["shelf", "text", "at"] (yah yeh):=fsk
theorem zcG:FnScope ["shelf", "text", "at", "piece", "ahead"] ["shelf", "text", "at"] (yah yd3):=fsk
theorem ze3:FnScope ["shelf", "text", "begin", "end"] ["shelf", "text", "begin", "end"] (yah ydJ):=fsk
theorem zes:FnScope ["shelf", "text", "blocks", "total"] ["shelf", "text", "blocks"] (yah ydv):=fsk
theorem zet:FnScope ["blocks", "stream", "ends", "plain", "many", "places", "end", "k"] ["blocks", "stream"] (yah ycZ):=fsk
theorem ze4:FnScope ["blocks", "stream", "places"] ["blocks", "stream"] (yah ydK):=fsk
theorem ze5:FnScope ["shelf", "text", "at", "signs"] ["shelf", "text", "at"] (yah ydL):=fsk
theorem zhD:FnScope ["shelf", "text", "at", "other", "together", "front"] ["shelf", "text", "at", "other"] (yah yes):=fsk
theorem zhE:FnScope ["shelf", "text", "at"] ["shelf", "text", "at"] (yah yet):=fsk
theorem ze6:FnScope ["shelf", "text", "begin", "end"] ["shelf", "text", "begin", "end"] (yah ydM):=fsk
theorem zfq:FnScope ["shelf", "found", "stream", "kind", "text", "blocks", "other", "more", "ends", "total", "ahead", "behind", "before", "made", "left", "right", "high"] ["shelf", "found", "stream"] (yah yd4):=fsk
theorem zdr:FnScope ["shelf", "text", "many", "half", "twice"] ["shelf", "text", "many"] (yah yei):=fsk
theorem zfr:FnScope ["shelf", "text", "many", "signs"] ["shelf", "text", "many"] (yah yd5):=fsk
theorem zei:FnScope ["shelf", "leaves", "middle"] ["shelf", "leaves"] (yah yeu):=fsk
theorem ziG:FnScope ["shelf", "plain", "leaves"] ["shelf", "plain"] (yah yen):=fsk
theorem zfs:FnScope ["shelf", "blocks", "text", "plain", "many"] ["shelf", "blocks"] (yah yd6):=fsk
theorem zc9:FnScope ["shelf", "text", "begin", "end", "found", "ahead", "step", "number", "start", "piece"] ["shelf", "text", "begin", "end"] (yah yc0):=fsk
theorem zeu:FnScope ["shelf", "text", "begin", "end"] ["shelf", "text", "begin", "end"] (yah ydw):=fsk
theorem zdQ:FnScope ["blocks", "begin", "end"] ["blocks", "begin", "end"] (yah ycH):=fsk
theorem ze7:FnScope ["shelf", "text", "blocks", "stream", "total", "place", "end"] ["shelf", "text", "blocks", "stream"] (yah ydN):=fsk
theorem yht:FnScope ["script", "shelf", "blocks", "found", "k", "cell", "stream", "made", "text", "some"] ["script"] (yah yeI):=fsk
section
variable {P:Program} {w:World} {K:PySem.W.Frag} {cls exc:Nat->Option Addr} {mg:Str->Option Value} {base:Heap} (Z:Facts P w K cls exc mg base)
include Z
theorem ze8:GK P w (mkT K cls exc) mg base 1 0 "Shelf" ych:=gk Z.d_Shelf_init zem fun hr C hu nd =>
 (zab (zaN rfl Z.cf_Shelf (yaa 0) (ybh yac))
  (zab (zaN rfl Z.cf_Shelf (yaa 0) zji)
  (zab (zaN rfl Z.cf_Shelf (yaa 0) (ybh (zaa yad yac)))
  (zab (zaN rfl Z.cf_Shelf (yaa 0) (ybh (zaa yad yac)))
  (zab (zaN rfl Z.cf_Shelf (yaa 0) (ybh (zaa yad yac)))
  (zab (zaN rfl Z.cf_Shelf (yaa 0) (ybh (zaa (yeA yad) yac)))
  (zab (zaN rfl Z.cf_Shelf (yaa 0) (ybh (zaa yad yac)))
  (yaf (zaN rfl Z.cf_Shelf (yaa 0) (ybh (zaa yad yac)))))))))))
theorem zax:GF P w (mkT K cls exc) mg base 1 "_law_take" yau:=gf Z.d_law_take zfl fun hr C hu nd =>
 (zab (yak (i:=2) nd (yaj ydf (r_ix rfl hu (yaa 0) yad) (yaa 1)))
  (zab (zfR hu (yaa 0) yad (yaj yde (r_ix rfl hu (yaa 0) yad) (yaa 1)))
  (yaf (yan (yaa 2)))))
theorem zft:GF P w (mkT K cls exc) mg base 2 "_law_plain" ycA:=gf Z.d_law_plain zeX fun hr C hu nd =>
 (zab (yak (i:=2) nd yaU)
  (zab (yak (i:=3) nd (yaj (yaO rfl) (yaj (yaO rfl) (yaa 2) (yf7 rfl PySem.F.plainAttrs_str PySem.F.slot_str_upper PySem.F.type_str_upper (zjv) zcn (yaa 2))) yaU))
  (zab (yak (i:=4) nd (r_ix rfl hu (ycE (zaa yaU (zaa yaU (zaa yaU (zaa yaU (zaa (yaa 3) yac)))))) (yai rfl C (zax Z) hr.m rfl (zaa (yaa 0) (zaa yad yac)))))
  (zab (yak (i:=5) nd yaU)
  (zab (ycs rfl (zba (E:=EN) rfl Z.b_range (yai rfl (C.nox) (zax Z) hr.m rfl (zaa (yaa 0) (zaa (yaj (yaO rfl) (yaa 1) yad) yac)))) (zaS (i:=6) nd) (yaf (yak (i:=5) nd (yaj (yaO rfl) (yaa 5) (r_ix rfl hu (yaa 4) (yai rfl (C.nox) (zax Z) hr.m rfl (zaa (yaa 0) (zaa (r_bi (b_len rfl) rfl Z.b_len PySem.boot_len (zaa (yaa 4) yac)) yac))))))))
  (yaf (yan (yaa 5))))))))
theorem ze9:GF P w (mkT K cls exc) mg base 3 "_law_blocks" ycP:=gf Z.d_law_blocks zen fun hr C hu nd =>
 (zab (yak (i:=1) nd (ybh yac))
  (zab (yak (i:=2) nd (yaj ycr yad yad))
  (zab (ycs rfl (zba (E:=EN) rfl Z.b_range (yaj (yaO rfl) yad (yai rfl (C.nox) (zax Z) hr.m rfl (zaa (yaa 0) (zaa yad yac))))) (zaS (i:=3) nd) (zab (yak (i:=4) nd (yaj (yaO rfl) (yai rfl (C.nox) (zft Z) hr.m rfl (zaa (yaa 0) (zaa yad yac))) yaU))
  (zab (yak (i:=5) nd (yaj yde (yaa 2) (r_bi (b_len rfl) rfl Z.b_len PySem.boot_len (zaa (yaa 4) yac))))
  (zab (yak (i:=6) nd (yai rfl (C.nox) (zax Z) hr.m rfl (zaa (yaa 0) (zaa (yaj (yaO rfl) (r_bi (ye3) rfl Z.b_min PyProof.Rows.boot_min (zaa (yaa 5) (zaa (r_ix rfl hu (ycE (zaa yad (zaa yad (zaa yad (zaa (yaj ycr yad yad) (zaa (yaj ycr yad yad) yac)))))) (yai rfl (C.nox) (zax Z) hr.m rfl (zaa (yaa 0) (zaa yad yac)))) yac))) yad) yac))))
  (zab (r_if (yar o_gt (yaa 6) yad (yaq _)) (yaf (yaD (r_bm rfl PySem.F.plainAttrs_list PySem.F.slot_list_append PySem.F.type_list_append (zak) zan (yaa 1) (zaa (ybq (zaa (yaa 4) (zaa (yaa 6) yac))) yac)))) yas)
  (yaf (yak (i:=2) nd (yaj ybg (yaa 2) (yaj ybz (yaa 6) (r_bi (b_len rfl) rfl Z.b_len PySem.boot_len (zaa (yaa 4) yac)))))))))))
  (yaf (yan (yaa 1))))))
theorem zcH:GF P w (mkT K cls exc) mg base 1 "_law_mixed" ybW:=gf Z.d_law_mixed zeY fun hr C hu nd =>
 (zab (yak (i:=2) nd (yaj ydf (yaj ybz (yaj (yaO rfl) (yaj (yaO rfl) (yaj ydf (yaa 0) yad) (yaj ybz yad (yaa 1))) yad) yad) yad))
  (yaf (yan (yaj ydf (yaj ybz (yaj ydf (yaj ybz (yaa 2) (yaa 2)) yad) yad) yad))))
theorem zce:GF P w (mkT K cls exc) mg base 2 "_law_stream" ybr:=gf Z.d_law_stream zeo fun {f cdv A outer s H E} hr C hu nd =>
 (zab (yak (i:=2) nd yad)
  (zab (ycs rfl (zd2 (E:=EN) rfl Z.b_range (yaa 1) (r_bi (b_len rfl) rfl Z.b_len PySem.boot_len (zaa (yaa 0) yac)) yad) (zaS (i:=3) nd) (yaf (yak (i:=2) nd (yaj (yaO rfl) (yaj ybz (yaa 2) (yaj ybz (yaj ycr yad yad) (yaj ycr yad yad))) (yaj ydf (r_ix rfl hu (yaa 0) (yaa 3)) (yaj ybz (yaj ycr yad yad) (yaj ycr yad yad)))))))
  (zab (r_if (yar o_ge (yaa 2) (yaj ycr yad yad) (yaq _)) (yaf (yan (ybh (zaa (yaa 2) yac)))) yas)
  (zab (yak (i:=2) nd (yaj (yaO rfl) (yaa 2) (r_bi (b_sum rfl) rfl Z.b_sum PyProof.Rows.boot_sum (zaa (ye1 (jf:=[]) (zbb (N:=["script", "k", "cell", "j", "found"]) (sc:=yah ycV) rfl (fun _=>rfl) (by decide +kernel)) rfl (yec (E:=(fun _=>E)) rfl (yaa 0)) (fun _ _ _ _ _=>zbh) (fun _ _ _ _ _=>(yaj ydf (yaa 0) (yaj ycr yad yad)))) yac))))
  (zab (yak (i:=4) nd yad)
  (zab (ycs rfl (zba (E:=EN) rfl Z.b_range yad) (zaS (i:=3) nd) (yaf (yak (i:=4) nd (yaj (yaO rfl) (yaj ybz (yaa 4) yad) (yai rfl (C.nox) (zcH Z) hr.m rfl (zaa (yaj (yaO rfl) (yaj (yaO rfl) (yaa 2) (yaj ybz yad (yaa 1))) (r_bi (b_len rfl) rfl Z.b_len PySem.boot_len (zaa (yaa 0) yac))) (zaa (yaa 3) yac)))))))
  (yaf (yan (ybh (zaa (yaa 4) yac))))))))))
theorem zcx:GF P w (mkT K cls exc) mg base 2 "_law_cell_stream" ybk:=gf Z.d_law_cell_stream zca fun hr C hu nd =>
 (zab (yak (i:=0) nd (yaj ydf (yaa 0) (yaj ybz (yaj ycr yad yad) (yaj ycr yad yad))))
  (zab (r_if (yar o_ge (yaa 0) (yaj ycr yad yad) (yaq _)) (yaf (yan (ybh (zaa (yaa 0) yac)))) yas)
  (zab (yak (i:=2) nd yad)
  (zab (ycs rfl (zba (E:=EN) rfl Z.b_range yad) (zaS (i:=3) nd) (yaf (yak (i:=2) nd (yaj (yaO rfl) (yaj ybz (yaa 2) yad) (yai rfl (C.nox) (zcH Z) hr.m rfl (zaa (yaj (yaO rfl) (yaa 0) (yaj ybz yad (yaa 1))) (zaa (yaa 3) yac)))))))
  (yaf (yan (ybh (zaa (yaa 2) yac))))))))
theorem zcI:GF P w (mkT K cls exc) mg base 2 "_law_drawn" ybH:=gf Z.d_law_drawn zeZ fun hr C hu nd =>
 (yaf (yan (r_ix rfl hu (yaa 0) (yai rfl C (zax Z) hr.m rfl (zaa (yaa 1) (zaa (r_bi (b_len rfl) rfl Z.b_len PySem.boot_len (zaa (yaa 0) yac)) yac))))))
theorem zbu:GF P w (mkT K cls exc) mg base 1 "_law_signs" ybe:=gf Z.d_law_signs ze0 fun {f cdv A outer s H E} hr C hu nd =>
 (yaf (yan (r_bi (b_sum rfl) rfl Z.b_sum PyProof.Rows.boot_sum (zaa (zdC rfl (jf:=[]) (zbE (N:=["blocks"]) (sc:=yah yc8) rfl (fun _=>rfl) (by decide +kernel)) rfl (za3 (E:=(fun _=>E)) rfl (yaa 0)) (fun _ _ _ _ _=>zbh) (fun _ _ _ _ _=>(yaj ybz (r_bi (b_len rfl) rfl Z.b_len PySem.boot_len (zaa (yaa 0) yac)) (yaa 1)))) yac))))
theorem zaJ:GF P w (mkT K cls exc) mg base 1 "_law_part" yaF:=gf Z.d_law_part zfm fun hr C hu nd =>
 (zab (yak (i:=3) nd (ybh yac))
  (zab (yak (i:=4) nd yad)
  (zab (ycs rfl (za3 (E:=EN) rfl (yaa 0)) (ycz rfl rfl (zar (i:=5) nd (zar (i:=6) nd zaL))) (zab (yak (i:=7) nd (yaj ybz (r_bi (b_len rfl) rfl Z.b_len PySem.boot_len (zaa (yaa 5) yac)) (yaa 6)))
  (zab (yak (i:=8) nd (yaj ybg (r_bi (yeD) rfl Z.b_max PyProof.Rows.boot_max (zaa (yaa 1) (zaa (yaa 4) yac))) (yaa 4)))
  (zab (yak (i:=9) nd (yaj ybg (r_bi (ye3) rfl Z.b_min PyProof.Rows.boot_min (zaa (yaa 2) (zaa (yaj (yaO rfl) (yaa 4) (yaa 7)) yac))) (yaa 4)))
  (zab (yak (i:=4) nd (yaj (yaO rfl) (yaa 4) (yaa 7)))
  (yaf (r_if (yar o_lt (yaa 8) (yaa 9) (yaq _)) (zab (yak (i:=10) nd (yaj yde (yaa 8) (r_bi (b_len rfl) rfl Z.b_len PySem.boot_len (zaa (yaa 5) yac))))
  (zab (yak (i:=11) nd (yaj yde (yaj ybg (yaa 9) yad) (r_bi (b_len rfl) rfl Z.b_len PySem.boot_len (zaa (yaa 5) yac))))
  (zab (yak (i:=12) nd (yaj ybz (yaa 10) (r_bi (b_len rfl) rfl Z.b_len PySem.boot_len (zaa (yaa 5) yac))))
  (yaf (r_if (yar (o_eq rfl hu) (yaa 10) (yaa 11) (yaq _)) (yaf (yaD (r_bm rfl PySem.F.plainAttrs_list PySem.F.slot_list_append PySem.F.type_list_append (zak) zan (yaa 3) (zaa (ybq (zaa (zaM rfl (yaa 5) (zaB (yaj ybg (yaa 8) (yaa 12))) (zaB (yaj ybg (yaa 9) (yaa 12)))) (zaa yad yac))) yac)))) (zab (yaD (r_bm rfl PySem.F.plainAttrs_list PySem.F.slot_list_append PySem.F.type_list_append (zak) zan (yaa 3) (zaa (ybq (zaa (zaM rfl (yaa 5) (zaB (yaj ybg (yaa 8) (yaa 12))) za4) (zaa yad yac))) yac)))
  (zab (r_if (yar o_gt (yaa 11) (yaj (yaO rfl) (yaa 10) yad) (yaq _)) (yaf (yaD (r_bm rfl PySem.F.plainAttrs_list PySem.F.slot_list_append PySem.F.type_list_append (zak) zan (yaa 3) (zaa (ybq (zaa (yaa 5) (zaa (yaj ybg (yaj ybg (yaa 11) (yaa 10)) yad) yac))) yac)))) yas)
  (yaf (yaD (r_bm rfl PySem.F.plainAttrs_list PySem.F.slot_list_append PySem.F.type_list_append (zak) zan (yaa 3) (zaa (ybq (zaa (zaM rfl (yaa 5) za4 (zaB (yaj ybg (yaa 9) (yaj ybz (yaa 11) (r_bi (b_len rfl) rfl Z.b_len PySem.boot_len (zaa (yaa 5) yac)))))) (zaa yad yac))) yac))))))))))) yas)))))))
  (yaf (yan (yaa 3))))))
theorem zcf:GM P w (mkT K cls exc) mg base 1 0 "many" ybs:=gm Z.d_Shelf_many zep (show ("many" : Str)∉flds 0 by decide +kernel) fun hr C hu nd =>
 (yaf (yan (r_bi (b_len rfl) rfl Z.b_len PySem.boot_len (zaa (yaM rfl Z.cf_Shelf (yaa 0)) yac))))
theorem zgI:GF P w (mkT K cls exc) mg base 1 "is_whole" ydh:=gf Z.d_is_whole zfn fun hr C hu nd =>
 (yaf (yan (yfe (yfg rfl rfl Z.b_isinstance (yaa 0) rfl Z.b_int ygM (by decide)) (yeS (yhZ (yfg rfl rfl Z.b_isinstance (yaa 0) rfl Z.b_bool zja (by decide)))))))
theorem zcy:GM P w (mkT K cls exc) mg base 2 0 "has_piece" ybY:=gm Z.d_Shelf_has_piece zcb (show ("has_piece" : Str)∉flds 0 by decide +kernel) fun hr C hu nd =>
 (yaf (yan (yfe (yai rfl C (zgI Z) hr.m rfl (zaa (yaa 1) yac)) (yeS (zdz o_le o_le yad (yaa 1) (r_bi (b_len rfl) rfl Z.b_len PySem.boot_len (zaa (yaM rfl Z.cf_Shelf (yaa 0)) yac)))))))
theorem zaC:GM P w (mkT K cls exc) mg base 3 0 "check_piece" ya3:=gm Z.d_Shelf_check_piece zbQ (show ("check_piece" : Str)∉flds 0 by decide +kernel) fun hr C hu nd =>
 (yaf (r_if (ydm (za2 rfl (yal rfl C (zcy Z) hr.m (yaa 0) (zaa (yaa 1) yac)))) (yaf (zaE Z.x_NoPiece zaD rfl (zaa yaU yac))) yas))
theorem zaF:GM P w (mkT K cls exc) mg base 4 0 "check_text" yaY:=gm Z.d_Shelf_check_text zbU (show ("check_text" : Str)∉flds 0 by decide +kernel) fun hr C hu nd =>
 (yaf (r_if (yar (o_ne rfl hu) (yaa 1) yad (yaq _)) (yaf (yaD (yal rfl C (zaC Z) hr.m (yaa 0) (zaa (yaa 1) yac)))) yas))
theorem zah:GM P w (mkT K cls exc) mg base 5 0 "signs" yaz:=gm Z.d_Shelf_signs zdN (show ("signs" : Str)∉flds 0 by decide +kernel) fun hr C hu nd =>
 (zab (yaD (yal rfl C (zaF Z) hr.m (yaa 0) (zaa (yaa 1) yac)))
  (yaf (yan (r_ix rfl hu (yaM rfl Z.cf_Shelf (yaa 0)) (yaa 1)))))
theorem za0:GF P w (mkT K cls exc) mg base 6 "check_stretch" ybA:=gf Z.d_check_stretch zc7 fun hr C hu nd =>
 (zab (yak (i:=4) nd (yal rfl C (zah Z) hr.m (yaa 0) (zaa (yaa 1) yac)))
  (yaf (r_if (ydm (zhm o_le o_le o_le yad (yaa 2) (yaa 3) (yaa 4))) (yaf (zaE Z.x_NoPlace zaD rfl (zaa yaU yac))) yas)))
theorem zap:GM P w (mkT K cls exc) mg base 4 0 "piece" yaH:=gm Z.d_Shelf_piece zdO (show ("piece" : Str)∉flds 0 by decide +kernel) fun hr C hu nd =>
 (zab (yaD (yal rfl C (zaC Z) hr.m (yaa 0) (zaa (yaa 1) yac)))
  (yaf (yan (r_ix rfl hu (yaM rfl Z.cf_Shelf (yaa 0)) (yaj ybg (yaa 1) yad)))))
theorem za7:GF P w (mkT K cls exc) mg base 1 "check_length" ybL:=gf Z.d_check_length zdn fun hr C hu nd =>
 (yaf (r_if (yar o_gt (yaa 0) (r_gI rfl Z.c_MOST_SIGNS) (yaq _)) (yaf (zaE Z.x_TooLong zaD rfl (zaa yaU yac))) yas))
theorem zbg:GM P w (mkT K cls exc) mg base 5 0 "last_leaf" ybE:=gm Z.d_Shelf_last_leaf zcc (show ("last_leaf" : Str)∉flds 0 by decide +kernel) fun hr C hu nd =>
 (zab (yaD (yal rfl C (zaF Z) hr.m (yaa 0) (zaa (yaa 1) yac)))
  (yaf (yan (r_ix rfl hu (yaM rfl Z.cf_Shelf (yaa 0)) (yaa 1)))))
theorem zbf:GM P w (mkT K cls exc) mg base 5 0 "first_leaf" ybt:=gm Z.d_Shelf_first_leaf zbV (show ("first_leaf" : Str)∉flds 0 by decide +kernel) fun hr C hu nd =>
 (zab (yaD (yal rfl C (zaF Z) hr.m (yaa 0) (zaa (yaa 1) yac)))
  (yaf (yan (r_ix rfl hu (yaM rfl Z.cf_Shelf (yaa 0)) (yaa 1)))))
theorem zfu:GF P w (mkT K cls exc) mg base 6 "are_close" yc7:=gf Z.d_are_close ze1 fun hr C hu nd =>
 (yaf (yan (yf3 o_gt (yaj (yaO rfl) (yal rfl C (zah Z) hr.m (yaa 0) (zaa (yal rfl C (zbg Z) hr.m (yaa 0) (zaa (yaa 1) yac)) yac)) (yal rfl C (zah Z) hr.m (yaa 0) (zaa (yal rfl C (zbf Z) hr.m (yaa 0) (zaa (yaa 2) yac)) yac))) (r_gI rfl Z.c_LEAF_SIGNS) (yaq _))))
theorem zcg:GM P w (mkT K cls exc) mg base 4 0 "check_fork" yaZ:=gm Z.d_Shelf_check_fork zbW (show ("check_fork" : Str)∉flds 0 by decide +kernel) fun hr C hu nd =>
 (zab (yaD (yal rfl C (zaC Z) hr.m (yaa 0) (zaa (yaa 1) yac)))
  (zab (yaD (yal rfl C (zaC Z) hr.m (yaa 0) (zaa (yaa 2) yac)))
  (zab (yak (i:=3) nd (yaj (yaO rfl) (r_ix rfl hu (yaM rfl Z.cf_Shelf (yaa 0)) (r_ix rfl hu (yaM rfl Z.cf_Shelf (yaa 0)) (yaa 1))) (r_ix rfl hu (yaM rfl Z.cf_Shelf (yaa 0)) (r_ix rfl hu (yaM rfl Z.cf_Shelf (yaa 0)) (yaa 2)))))
  (zab (r_if (yar o_le (yaa 3) (r_gI rfl Z.c_LEAF_SIGNS) (yaq _)) (yaf (zaE Z.x_Loose zaD rfl (zaa yaU yac))) yas)
  (zab (r_if (yar o_gt (r_bi (b_abs) rfl Z.b_abs PyProof.Rows.boot_abs (zaa (yaj ybg (r_ix rfl hu (yaM rfl Z.cf_Shelf (yaa 0)) (yaa 1)) (r_ix rfl hu (yaM rfl Z.cf_Shelf (yaa 0)) (yaa 2))) yac)) yad (yaq _)) (yaf (zaE Z.x_Unlevel zaD rfl (zaa yaU yac))) yas)
  (yaf (r_if (yar o_gt (yaj (yaO rfl) (r_ix rfl hu (yaM rfl Z.cf_Shelf (yaa 0)) (yaa 1)) (r_ix rfl hu (yaM rfl Z.cf_Shelf (yaa 0)) (yaa 2))) (r_gI rfl Z.c_MOST_SIGNS) (yaq _)) (yaf (zaE Z.x_TooLong zaD rfl (zaa yaU yac))) yas)))))))
theorem zcJ:GM P w (mkT K cls exc) mg base 1 0 "lay" ycB:=gm Z.d_Shelf_lay ze2 (show ("lay" : Str)∉flds 0 by decide +kernel) fun hr C hu nd =>
 (zab (yaD (r_bm rfl PySem.F.plainAttrs_list PySem.F.slot_list_append PySem.F.type_list_append (zak) zan (yaM rfl Z.cf_Shelf (yaa 0)) (zaa (yaa 1) yac)))
  (zab (yak (i:=2) nd (r_bi (b_len rfl) rfl Z.b_len PySem.boot_len (zaa (yaM rfl Z.cf_Shelf (yaa 0)) yac)))
  (zab (zfR hu (yaM rfl Z.cf_Shelf (yaa 0)) (yaa 1) (yaa 2))
  (yaf (yan (yaa 2))))))
theorem zda:GM P w (mkT K cls exc) mg base 2 0 "lay_fork" ybO:=gm Z.d_Shelf_lay_fork zcv (show ("lay_fork" : Str)∉flds 0 by decide +kernel) fun hr C hu nd =>
 (zab (yaD (yal rfl C (zcJ Z) hr.m (yaa 0) (zaa (yaa 1) yac)))
  (zab (yak (i:=2) nd (r_ix rfl hu (yaa 1) yad))
  (zab (yak (i:=3) nd (r_ix rfl hu (yaa 1) yad))
  (zab (yaD (r_bm rfl PySem.F.plainAttrs_list PySem.F.slot_list_append PySem.F.type_list_append (zak) zan (yaM rfl Z.cf_Shelf (yaa 0)) (zaa (yaj (yaO rfl) (r_ix rfl hu (yaM rfl Z.cf_Shelf (yaa 0)) (yaa 2)) (r_ix rfl hu (yaM rfl Z.cf_Shelf (yaa 0)) (yaa 3))) yac)))
  (zab (yaD (r_bm rfl PySem.F.plainAttrs_list PySem.F.slot_list_append PySem.F.type_list_append (zak) zan (yaM rfl Z.cf_Shelf (yaa 0)) (zaa (yaj (yaO rfl) (r_ix rfl hu (yaM rfl Z.cf_Shelf (yaa 0)) (yaa 2)) (r_ix rfl hu (yaM rfl Z.cf_Shelf (yaa 0)) (yaa 3))) yac)))
  (zab (yaD (r_bm rfl PySem.F.plainAttrs_list PySem.F.slot_list_append PySem.F.type_list_append (zak) zan (yaM rfl Z.cf_Shelf (yaa 0)) (zaa (yaj (yaO rfl) (r_ix rfl hu (yaM rfl Z.cf_Shelf (yaa 0)) (yaa 2)) (r_ix rfl hu (yaM rfl Z.cf_Shelf (yaa 0)) (yaa 3))) yac)))
  (zab (yaD (r_bm rfl PySem.F.plainAttrs_list PySem.F.slot_list_append PySem.F.type_list_append (zak) zan (yaM rfl Z.cf_Shelf (yaa 0)) (zaa (yaj (yaO rfl) (r_bi (yeD) rfl Z.b_max PyProof.Rows.boot_max (zaa (r_ix rfl hu (yaM rfl Z.cf_Shelf (yaa 0)) (yaa 2)) (zaa (r_ix rfl hu (yaM rfl Z.cf_Shelf (yaa 0)) (yaa 3)) yac))) yad) yac)))
  (zab (yaD (r_bm rfl PySem.F.plainAttrs_list PySem.F.slot_list_append PySem.F.type_list_append (zak) zan (yaM rfl Z.cf_Shelf (yaa 0)) (zaa (r_ix rfl hu (yaM rfl Z.cf_Shelf (yaa 0)) (yaa 2)) yac)))
  (yaf (yaD (r_bm rfl PySem.F.plainAttrs_list PySem.F.slot_list_append PySem.F.type_list_append (zak) zan (yaM rfl Z.cf_Shelf (yaa 0)) (zaa (r_ix rfl hu (yaM rfl Z.cf_Shelf (yaa 0)) (yaa 3)) yac))))))))))))
theorem zam:GM P w (mkT K cls exc) mg base 5 0 "fork" yag:=gm Z.d_Shelf_fork zeq (show ("fork" : Str)∉flds 0 by decide +kernel) fun hr C hu nd =>
 (zab (yaD (yal rfl C (zcg Z) hr.m (yaa 0) (zaa (yaa 1) (zaa (yaa 2) yac))))
  (zab (yak (i:=3) nd (ybq (zaa yaU (zaa (yaa 1) (zaa (yaa 2) yac)))))
  (zab (r_if (yar (zfS rfl hu) (yaa 3) (yaM rfl Z.cf_Shelf (yaa 0)) rfl) (yaf (yaD (yal rfl C (zda Z) hr.m (yaa 0) (zaa (yaa 3) yac)))) yas)
  (yaf (yan (r_ix rfl hu (yaM rfl Z.cf_Shelf (yaa 0)) (yaa 3)))))))
theorem zcK:∀ d,GF P w (mkT K cls exc) mg base (5+d+1) "with_last" (ya7 d)
 | 0=>gf Z.d_with_last zcd fun _ _ _ _=>ydn
 | d+1=>gf Z.d_with_last zcd fun hr C hu nd =>
  (zab (yak (i:=3) nd (yal rfl C (zap Z) (hr.mono (show 4<=5+(d+1) by lia)) (yaa 0) (zaa (yaa 1) yac)))
  (zab (r_if (yar (o_eq rfl hu) (r_ix rfl hu (yaa 3) yad) yaU (yaq _)) (yaf (yan (yaa 2))) yas)
  (yaf (yan (yal rfl C (zam Z) (hr.mono (show 5<=5+(d+1) by lia)) (yaa 0) (zaa (r_ix rfl hu (yaa 3) yad) (zaa (yai rfl C (zcK d) (hr.mono (by lia)) rfl (zaa (yaa 0) (zaa (r_ix rfl hu (yaa 3) yad) (zaa (yaa 2) yac)))) yac)))))))
theorem zaq:GM P w (mkT K cls exc) mg base 5 0 "height" yaB:=gm Z.d_Shelf_height zdo (show ("height" : Str)∉flds 0 by decide +kernel) fun hr C hu nd =>
 (zab (yaD (yal rfl C (zaF Z) hr.m (yaa 0) (zaa (yaa 1) yac)))
  (yaf (yan (r_ix rfl hu (yaM rfl Z.cf_Shelf (yaa 0)) (yaa 1)))))
theorem zbT:GF P w (mkT K cls exc) mg base 6 "turned_left" yaT:=gf Z.d_turned_left zdP fun hr C hu nd =>
 (zab (r_if (yar o_lt (yaj ybg (yal rfl C (zaq Z) hr.m (yaa 0) (zaa (yaa 2) yac)) (yal rfl C (zaq Z) hr.m (yaa 0) (zaa (yaa 1) yac))) yad (yaq _)) (yaf (yan (yal rfl C (zam Z) hr.m (yaa 0) (zaa (yaa 1) (zaa (yaa 2) yac))))) yas)
  (zab (yak (i:=3) nd (yal rfl C (zap Z) hr.m (yaa 0) (zaa (yaa 2) yac)))
  (zab (yak (i:=4) nd (r_ix rfl hu (yaa 3) yad))
  (zab (yak (i:=5) nd (r_ix rfl hu (yaa 3) yad))
  (zab (r_if (yar o_le (yal rfl C (zaq Z) hr.m (yaa 0) (zaa (yaa 4) yac)) (yal rfl C (zaq Z) hr.m (yaa 0) (zaa (yaa 5) yac)) (yaq _)) (yaf (yan (yal rfl C (zam Z) hr.m (yaa 0) (zaa (yal rfl C (zam Z) hr.m (yaa 0) (zaa (yaa 1) (zaa (yaa 4) yac))) (zaa (yaa 5) yac))))) yas)
  (zab (yak (i:=6) nd (yal rfl C (zap Z) hr.m (yaa 0) (zaa (yaa 4) yac)))
  (yaf (yan (yal rfl C (zam Z) hr.m (yaa 0) (zaa (yal rfl C (zam Z) hr.m (yaa 0) (zaa (yaa 1) (zaa (r_ix rfl hu (yaa 6) yad) yac))) (zaa (yal rfl C (zam Z) hr.m (yaa 0) (zaa (r_ix rfl hu (yaa 6) yad) (zaa (yaa 5) yac))) yac)))))))))))
theorem zbt:∀ d,GF P w (mkT K cls exc) mg base (6+d+1) "without_first" (yaI d)
 | 0=>gf Z.d_without_first zbo fun _ _ _ _=>ydn
 | d+1=>gf Z.d_without_first zbo fun hr C hu nd =>
  (zab (yak (i:=2) nd (yal rfl C (zap Z) (hr.mono (show 4<=6+(d+1) by lia)) (yaa 0) (zaa (yaa 1) yac)))
  (zab (r_if (yar (o_eq rfl hu) (r_ix rfl hu (yaa 2) yad) yaU (yaq _)) (yaf (yan yad)) yas)
  (zab (yak (i:=3) nd (yai rfl C (zbt d) (hr.mono (by lia)) rfl (zaa (yaa 0) (zaa (r_ix rfl hu (yaa 2) yad) yac))))
  (zab (r_if (yar (o_eq rfl hu) (yaa 3) yad (yaq _)) (yaf (yan (r_ix rfl hu (yaa 2) yad))) yas)
  (yaf (yan (yai rfl C (zbT Z) (hr.mono (show 6<=6+(d+1) by lia)) rfl (zaa (yaa 0) (zaa (yaa 3) (zaa (r_ix rfl hu (yaa 2) yad) yac))))))))))
theorem zdR:GF P w (mkT K cls exc) mg base 6 "turned_right" yaW:=gf Z.d_turned_right zdp fun hr C hu nd =>
 (zab (r_if (yar o_lt (yaj ybg (yal rfl C (zaq Z) hr.m (yaa 0) (zaa (yaa 1) yac)) (yal rfl C (zaq Z) hr.m (yaa 0) (zaa (yaa 2) yac))) yad (yaq _)) (yaf (yan (yal rfl C (zam Z) hr.m (yaa 0) (zaa (yaa 1) (zaa (yaa 2) yac))))) yas)
  (zab (yak (i:=3) nd (yal rfl C (zap Z) hr.m (yaa 0) (zaa (yaa 1) yac)))
  (zab (yak (i:=4) nd (r_ix rfl hu (yaa 3) yad))
  (zab (yak (i:=5) nd (r_ix rfl hu (yaa 3) yad))
  (zab (r_if (yar o_le (yal rfl C (zaq Z) hr.m (yaa 0) (zaa (yaa 5) yac)) (yal rfl C (zaq Z) hr.m (yaa 0) (zaa (yaa 4) yac)) (yaq _)) (yaf (yan (yal rfl C (zam Z) hr.m (yaa 0) (zaa (yaa 4) (zaa (yal rfl C (zam Z) hr.m (yaa 0) (zaa (yaa 5) (zaa (yaa 2) yac))) yac))))) yas)
  (zab (yak (i:=6) nd (yal rfl C (zap Z) hr.m (yaa 0) (zaa (yaa 5) yac)))
  (yaf (yan (yal rfl C (zam Z) hr.m (yaa 0) (zaa (yal rfl C (zam Z) hr.m (yaa 0) (zaa (yaa 4) (zaa (r_ix rfl hu (yaa 6) yad) yac))) (zaa (yal rfl C (zam Z) hr.m (yaa 0) (zaa (r_ix rfl hu (yaa 6) yad) (zaa (yaa 2) yac))) yac)))))))))))
theorem zbR:∀ d,GF P w (mkT K cls exc) mg base (6+d+1) "linked" (ya6 d)
 | 0=>gf Z.d_linked zeh fun _ _ _ _=>ydn
 | d+1=>gf Z.d_linked zeh fun hr C hu nd =>
  (zab (yak (i:=3) nd (yaj ybg (yal rfl C (zaq Z) (hr.mono (show 5<=6+(d+1) by lia)) (yaa 0) (zaa (yaa 1) yac)) (yal rfl C (zaq Z) (hr.mono (show 5<=6+(d+1) by lia)) (yaa 0) (zaa (yaa 2) yac))))
  (zab (r_if (yar o_gt (yaa 3) yad (yaq _)) (zab (yak (i:=4) nd (yal rfl C (zap Z) (hr.mono (show 4<=6+(d+1) by lia)) (yaa 0) (zaa (yaa 1) yac)))
  (yaf (yan (yai rfl C (zbT Z) (hr.mono (show 6<=6+(d+1) by lia)) rfl (zaa (yaa 0) (zaa (r_ix rfl hu (yaa 4) yad) (zaa (yai rfl C (zbR d) (hr.mono (by lia)) rfl (zaa (yaa 0) (zaa (r_ix rfl hu (yaa 4) yad) (zaa (yaa 2) yac)))) yac))))))) yas)
  (zab (r_if (yar o_lt (yaa 3) (yeA yad) (yaq _)) (zab (yak (i:=4) nd (yal rfl C (zap Z) (hr.mono (show 4<=6+(d+1) by lia)) (yaa 0) (zaa (yaa 2) yac)))
  (yaf (yan (yai rfl C (zdR Z) (hr.mono (show 6<=6+(d+1) by lia)) rfl (zaa (yaa 0) (zaa (yai rfl C (zbR d) (hr.mono (by lia)) rfl (zaa (yaa 0) (zaa (yaa 1) (zaa (r_ix rfl hu (yaa 4) yad) yac)))) (zaa (r_ix rfl hu (yaa 4) yad) yac))))))) yas)
  (yaf (yan (yal rfl C (zam Z) (hr.mono (show 5<=6+(d+1) by lia)) (yaa 0) (zaa (yaa 1) (zaa (yaa 2) yac))))))))
theorem zds:GF P w (mkT K cls exc) mg base 1 "is_plain_sign" ybU:=gf Z.d_is_plain_sign zc8 fun hr C hu nd =>
 (yaf (yan (r_or (yf3 (o_eq rfl hu) (yaa 0) yaU (yaq _)) (yeS (zdz o_le o_le yaU (yaa 0) yaU)))))
theorem zdt:GF P w (mkT K cls exc) mg base 2 "is_plain" ycQ:=gf Z.d_is_plain zfo fun {f cdv A outer s H E} hr C hu nd =>
 (zab (r_if (ydm (za2 rfl (yfg rfl rfl Z.b_isinstance (yaa 0) rfl Z.b_str ygN (by decide)))) (yaf (yan r_bl)) yas)
  (yaf (yan (r_bi (b_all rfl) rfl Z.b_all PyProof.Rows.boot_all (zaa (ye1 (jf:=[]) (zbb (N:=["thing"]) (sc:=yah ydk) rfl (fun _=>rfl) (by decide +kernel)) rfl (yec (E:=(fun _=>E)) rfl (yaa 0)) (fun _ _ _ _ _=>zbh) (fun _ _ _ _ _=>(yai rfl (CA.never rfl) (zds Z) hr.m rfl (zaa (yaa 0) yac)))) yac)))))
theorem zgJ:GF P w (mkT K cls exc) mg base 3 "is_short" ydi:=gf Z.d_is_short zfp fun hr C hu nd =>
 (yaf (yan (yfe (yai rfl C (zdt Z) hr.m rfl (zaa (yaa 0) yac)) (yeS (zdz o_le o_le yad (r_bi (b_len rfl) rfl Z.b_len PySem.boot_len (zaa (yaa 0) yac)) (r_gI rfl Z.c_LEAF_SIGNS))))))
theorem zhF:GF P w (mkT K cls exc) mg base 1 "ends_in" ydz:=gf Z.d_ends_in zgH fun hr C hu nd =>
 (yaf (yan (r_bm rfl PySem.F.plainAttrs_str PySem.F.slot_str_count PySem.F.type_str_count (zif) zcn (yaa 0) (zaa yaU yac))))
theorem zdb:GM P w (mkT K cls exc) mg base 2 0 "lay_leaf" ybP:=gm Z.d_Shelf_lay_leaf zcw (show ("lay_leaf" : Str)∉flds 0 by decide +kernel) fun hr C hu nd =>
 (zab (yak (i:=2) nd (yal rfl C (zcJ Z) hr.m (yaa 0) (zaa (yaa 1) yac)))
  (zab (yak (i:=3) nd (r_ix rfl hu (yaa 1) yad))
  (zab (yaD (r_bm rfl PySem.F.plainAttrs_list PySem.F.slot_list_append PySem.F.type_list_append (zak) zan (yaM rfl Z.cf_Shelf (yaa 0)) (zaa (r_bi (b_len rfl) rfl Z.b_len PySem.boot_len (zaa (yaa 3) yac)) yac)))
  (zab (yaD (r_bm rfl PySem.F.plainAttrs_list PySem.F.slot_list_append PySem.F.type_list_append (zak) zan (yaM rfl Z.cf_Shelf (yaa 0)) (zaa (yai rfl C (zhF Z) hr.m rfl (zaa (yaa 3) yac)) yac)))
  (zab (yaD (r_bm rfl PySem.F.plainAttrs_list PySem.F.slot_list_append PySem.F.type_list_append (zak) zan (yaM rfl Z.cf_Shelf (yaa 0)) (zaa yad yac)))
  (zab (yaD (r_bm rfl PySem.F.plainAttrs_list PySem.F.slot_list_append PySem.F.type_list_append (zak) zan (yaM rfl Z.cf_Shelf (yaa 0)) (zaa yad yac)))
  (zab (yaD (r_bm rfl PySem.F.plainAttrs_list PySem.F.slot_list_append PySem.F.type_list_append (zak) zan (yaM rfl Z.cf_Shelf (yaa 0)) (zaa (yaa 2) yac)))
  (yaf (yaD (r_bm rfl PySem.F.plainAttrs_list PySem.F.slot_list_append PySem.F.type_list_append (zak) zan (yaM rfl Z.cf_Shelf (yaa 0)) (zaa (yaa 2) yac)))))))))))
theorem za1:GM P w (mkT K cls exc) mg base 4 0 "leaf" yaJ:=gm Z.d_Shelf_leaf zer (show ("leaf" : Str)∉flds 0 by decide +kernel) fun hr C hu nd =>
 (zab (r_if (ydm (za2 rfl (yai rfl C (zgJ Z) hr.m rfl (zaa (yaa 1) yac)))) (yaf (zaE Z.x_NoText zaD rfl (zaa yaU yac))) yas)
  (zab (yak (i:=2) nd (ybq (zaa yaU (zaa (yaa 1) yac))))
  (zab (r_if (yar (zfS rfl hu) (yaa 2) (yaM rfl Z.cf_Shelf (yaa 0)) rfl) (yaf (yaD (yal rfl C (zdb Z) hr.m (yaa 0) (zaa (yaa 2) yac)))) yas)
  (yaf (yan (r_ix rfl hu (yaM rfl Z.cf_Shelf (yaa 0)) (yaa 2)))))))
theorem ziH:GF P w (mkT K cls exc) mg base 98 "welded" yci:=gf Z.d_welded zhB fun hr C hu nd =>
 (zab (yak (i:=3) nd (yaj (yaO rfl) (r_ix rfl hu (yal rfl C (zap Z) hr.m (yaa 0) (zaa (yal rfl C (zbg Z) hr.m (yaa 0) (zaa (yaa 1) yac)) yac)) yad) (r_ix rfl hu (yal rfl C (zap Z) hr.m (yaa 0) (zaa (yal rfl C (zbf Z) hr.m (yaa 0) (zaa (yaa 2) yac)) yac)) yad)))
  (zab (yak (i:=4) nd (yai rfl C (zcK Z 90) hr.m rfl (zaa (yaa 0) (zaa (yaa 1) (zaa (yal rfl C (za1 Z) hr.m (yaa 0) (zaa (yaa 3) yac)) yac)))))
  (zab (yak (i:=5) nd (yai rfl C (zbt Z 90) hr.m rfl (zaa (yaa 0) (zaa (yaa 2) yac))))
  (zab (r_if (yar (o_eq rfl hu) (yaa 5) yad (yaq _)) (yaf (yan (yaa 4))) yas)
  (yaf (yan (yai rfl C (zbR Z 90) hr.m rfl (zaa (yaa 0) (zaa (yaa 4) (zaa (yaa 5) yac))))))))))
theorem zaK:GF P w (mkT K cls exc) mg base 99 "joined" yap:=gf Z.d_joined zhC fun hr C hu nd =>
 (zab (yaD (yai rfl C (za7 Z) hr.m rfl (zaa (yaj (yaO rfl) (yal rfl C (zah Z) hr.m (yaa 0) (zaa (yaa 1) yac)) (yal rfl C (zah Z) hr.m (yaa 0) (zaa (yaa 2) yac))) yac)))
  (zab (r_if (yar (o_eq rfl hu) (yaa 1) yad (yaq _)) (yaf (yan (yaa 2))) yas)
  (zab (r_if (yar (o_eq rfl hu) (yaa 2) yad (yaq _)) (yaf (yan (yaa 1))) yas)
  (zab (r_if (za2 rfl (yai rfl C (zfu Z) hr.m rfl (zaa (yaa 0) (zaa (yaa 1) (zaa (yaa 2) yac))))) (yaf (yan (yai rfl C (zbR Z 90) hr.m rfl (zaa (yaa 0) (zaa (yaa 1) (zaa (yaa 2) yac)))))) yas)
  (yaf (yan (yai rfl C (ziH Z) hr.m rfl (zaa (yaa 0) (zaa (yaa 1) (zaa (yaa 2) yac))))))))))
theorem zaW:∀ d,GF P w (mkT K cls exc) mg base (99+d+1) "back_of" (yaw d)
 | 0=>gf Z.d_back_of zdq fun _ _ _ _=>ydn
 | d+1=>gf Z.d_back_of zdq fun hr C hu nd =>
  (zab (r_if (yar (o_eq rfl hu) (yaa 2) yad (yaq _)) (yaf (yan (yaa 1))) yas)
  (zab (r_if (yar (o_eq rfl hu) (yaa 2) (yal rfl C (zah Z) (hr.mono (show 5<=99+(d+1) by lia)) (yaa 0) (zaa (yaa 1) yac)) (yaq _)) (yaf (yan yad)) yas)
  (zab (yak (i:=3) nd (yal rfl C (zap Z) (hr.mono (show 4<=99+(d+1) by lia)) (yaa 0) (zaa (yaa 1) yac)))
  (zab (r_if (yar (o_eq rfl hu) (r_ix rfl hu (yaa 3) yad) yaU (yaq _)) (yaf (yan (yal rfl C (za1 Z) (hr.mono (show 4<=99+(d+1) by lia)) (yaa 0) (zaa (zaM rfl (r_ix rfl hu (yaa 3) yad) (zaB (yaa 2)) za4) yac)))) yas)
  (zab (yak (i:=4) nd (yal rfl C (zah Z) (hr.mono (show 5<=99+(d+1) by lia)) (yaa 0) (zaa (r_ix rfl hu (yaa 3) yad) yac)))
  (zab (r_if (yar o_ge (yaa 2) (yaa 4) (yaq _)) (yaf (yan (yai rfl C (zaW d) (hr.mono (by lia)) rfl (zaa (yaa 0) (zaa (r_ix rfl hu (yaa 3) yad) (zaa (yaj ybg (yaa 2) (yaa 4)) yac)))))) yas)
  (yaf (yan (yai rfl C (zaK Z) (hr.mono (show 99<=99+(d+1) by lia)) rfl (zaa (yaa 0) (zaa (yai rfl C (zaW d) (hr.mono (by lia)) rfl (zaa (yaa 0) (zaa (r_ix rfl hu (yaa 3) yad) (zaa (yaa 2) yac)))) (zaa (r_ix rfl hu (yaa 3) yad) yac))))))))))))
theorem zaQ:∀ d,GF P w (mkT K cls exc) mg base (99+d+1) "front_of" (yat d)
 | 0=>gf Z.d_front_of zcG fun _ _ _ _=>ydn
 | d+1=>gf Z.d_front_of zcG fun hr C hu nd =>
  (zab (r_if (yar (o_eq rfl hu) (yaa 2) yad (yaq _)) (yaf (yan yad)) yas)
  (zab (r_if (yar (o_eq rfl hu) (yaa 2) (yal rfl C (zah Z) (hr.mono (show 5<=99+(d+1) by lia)) (yaa 0) (zaa (yaa 1) yac)) (yaq _)) (yaf (yan (yaa 1))) yas)
  (zab (yak (i:=3) nd (yal rfl C (zap Z) (hr.mono (show 4<=99+(d+1) by lia)) (yaa 0) (zaa (yaa 1) yac)))
  (zab (r_if (yar (o_eq rfl hu) (r_ix rfl hu (yaa 3) yad) yaU (yaq _)) (yaf (yan (yal rfl C (za1 Z) (hr.mono (show 4<=99+(d+1) by lia)) (yaa 0) (zaa (zaM rfl (r_ix rfl hu (yaa 3) yad) za4 (zaB (yaa 2))) yac)))) yas)
  (zab (yak (i:=4) nd (yal rfl C (zah Z) (hr.mono (show 5<=99+(d+1) by lia)) (yaa 0) (zaa (r_ix rfl hu (yaa 3) yad) yac)))
  (zab (r_if (yar o_le (yaa 2) (yaa 4) (yaq _)) (yaf (yan (yai rfl C (zaQ d) (hr.mono (by lia)) rfl (zaa (yaa 0) (zaa (r_ix rfl hu (yaa 3) yad) (zaa (yaa 2) yac)))))) yas)
  (yaf (yan (yai rfl C (zaK Z) (hr.mono (show 99<=99+(d+1) by lia)) rfl (zaa (yaa 0) (zaa (r_ix rfl hu (yaa 3) yad) (zaa (yai rfl C (zaQ d) (hr.mono (by lia)) rfl (zaa (yaa 0) (zaa (r_ix rfl hu (yaa 3) yad) (zaa (yaj ybg (yaa 2) (yaa 4)) yac)))) yac))))))))))))
theorem zcL:GF P w (mkT K cls exc) mg base 191 "kept_part" ybf:=gf Z.d_kept_part ze3 fun hr C hu nd =>
 (zab (yaD (yai rfl C (za0 Z) hr.m rfl (zaa (yaa 0) (zaa (yaa 1) (zaa (yaa 2) (zaa (yaa 3) yac))))))
  (yaf (yan (yai rfl C (zaW Z 90) hr.m rfl (zaa (yaa 0) (zaa (yai rfl C (zaQ Z 90) hr.m rfl (zaa (yaa 0) (zaa (yaa 1) (zaa (yaa 3) yac)))) (zaa (yaa 2) yac)))))))
theorem zch:GF P w (mkT K cls exc) mg base 192 "_law_halved" ybi:=gf Z.d_law_halved zes fun hr C hu nd =>
 (zab (yak (i:=3) nd (yai rfl C (zbu Z) hr.m rfl (zaa (yaa 2) yac)))
  (zab (r_if (yar o_le (yaa 3) (yaj yde (yaj ycr yad yad) yad) (yaq _)) (yaf (yan (ybq (zaa (yaa 1) (zaa (yaa 2) yac))))) yas)
  (yaf (yan (ybq (zaa (yai rfl C (zcL Z) hr.m rfl (zaa (yaa 0) (zaa (yaa 1) (zaa yad (zaa (yaj yde (yaa 3) yad) yac))))) (zaa (yai rfl C (zaJ Z) hr.m rfl (zaa (yaa 2) (zaa yad (zaa (yaj yde (yaa 3) yad) yac)))) yac)))))))
theorem zci:GF P w (mkT K cls exc) mg base 2 "_law_places" ybu:=gf Z.d_law_places zet fun {f cdv A outer s H E} hr C hu nd =>
 (zab (yak (i:=2) nd (ybh (zaa yad yac)))
  (zab (ycs rfl (za3 (E:=EN) rfl (yaa 0)) (ycz rfl rfl (zar (i:=3) nd (zar (i:=4) nd zaL))) (yaf (yaD (r_bm rfl PySem.F.plainAttrs_list PySem.F.slot_list_append PySem.F.type_list_append (zak) zan (yaa 2) (zaa (yaj (yaO rfl) (r_ix rfl hu (yaa 2) (yeA yad)) (yaj ybz (r_bi (b_len rfl) rfl Z.b_len PySem.boot_len (zaa (yaa 3) yac)) (yaa 4))) yac)))))
  (zab (yak (i:=5) nd (ybh yac))
  (zab (ycs rfl (yec (E:=EN) rfl (yaa 2)) (zaS (i:=6) nd) (yaf (yaD (r_bm rfl PySem.F.plainAttrs_list PySem.F.slot_list_extend PySem.F.type_list_extend (ygZ) zan (yaa 5) (zaa (ybh (zaa (yaa 6) (zaa (yaj ybg (yaa 6) yad) (zaa (yaj (yaO rfl) (yaa 6) yad) (zaa (yaj ybg (yaa 6) (yai rfl (C.nox) (zax Z) hr.m rfl (zaa (yaa 1) (zaa yad yac)))) (zaa (yaj (yaO rfl) (yaa 6) (yai rfl (C.nox) (zax Z) hr.m rfl (zaa (yaa 1) (zaa yad yac)))) yac)))))) yac)))))
  (zab (ycs rfl (zba (E:=EN) rfl Z.b_range yad) (zaS (i:=7) nd) (yaf (yaD (r_bm rfl PySem.F.plainAttrs_list PySem.F.slot_list_append PySem.F.type_list_append (zak) zan (yaa 5) (zaa (yai rfl (C.nox) (zax Z) hr.m rfl (zaa (yaa 1) (zaa (yaj (yaO rfl) (r_ix rfl hu (yaa 2) (yeA yad)) yad) yac))) yac)))))
  (yaf (yan (ye1 (jf:=[(2, "ends")]) (zbb (N:=["blocks", "stream", "ends", "plain", "many", "places", "end", "k"]) (sc:=yah ycZ) rfl (fun _=>rfl) (by decide +kernel)) rfl (yec (E:=(fun _=>E)) rfl (yaa 5)) (fun _ _ _ _ _=>zjo (zeF o_le o_le yad (yaa 0) (r_ix rfl hu (yaa 1) (yeA yad)))) (fun _ _ _ _ _=>(yaa 0))))))))))
theorem zcM:GF P w (mkT K cls exc) mg base 3 "_law_place" ybI:=gf Z.d_law_place ze4 fun hr C hu nd =>
 (zab (yak (i:=2) nd (yai rfl C (zci Z) hr.m rfl (zaa (yaa 0) (zaa (yaa 1) yac))))
  (yaf (yan (r_ix rfl hu (yaa 2) (yai rfl C (zax Z) hr.m rfl (zaa (yaa 1) (zaa (r_bi (b_len rfl) rfl Z.b_len PySem.boot_len (zaa (yaa 2) yac)) yac)))))))
theorem zcN:GF P w (mkT K cls exc) mg base 6 "check_gap" ycC:=gf Z.d_check_gap ze5 fun hr C hu nd =>
 (zab (yak (i:=3) nd (yal rfl C (zah Z) hr.m (yaa 0) (zaa (yaa 1) yac)))
  (yaf (r_if (ydm (zeF o_le o_le yad (yaa 2) (yaa 3))) (yaf (zaE Z.x_NoPlace zaD rfl (zaa yaU yac))) yas)))
theorem ziI:GF P w (mkT K cls exc) mg base 191 "put_in" ycI:=gf Z.d_put_in zhD fun hr C hu nd =>
 (zab (yak (i:=4) nd (yaj (yaO rfl) (yal rfl C (zah Z) hr.m (yaa 0) (zaa (yaa 1) yac)) (yal rfl C (zah Z) hr.m (yaa 0) (zaa (yaa 3) yac))))
  (zab (yaD (yai rfl C (zcN Z) hr.m rfl (zaa (yaa 0) (zaa (yaa 1) (zaa (yaa 2) yac)))))
  (zab (yaD (yai rfl C (za7 Z) hr.m rfl (zaa (yaa 4) yac)))
  (zab (yak (i:=5) nd (yai rfl C (zaK Z) hr.m rfl (zaa (yaa 0) (zaa (yai rfl C (zaQ Z 90) hr.m rfl (zaa (yaa 0) (zaa (yaa 1) (zaa (yaa 2) yac)))) (zaa (yaa 3) yac)))))
  (yaf (yan (yai rfl C (zaK Z) hr.m rfl (zaa (yaa 0) (zaa (yaa 5) (zaa (yai rfl C (zaW Z 90) hr.m rfl (zaa (yaa 0) (zaa (yaa 1) (zaa (yaa 2) yac)))) yac))))))))))
theorem ziJ:GF P w (mkT K cls exc) mg base 191 "cut_at" yck:=gf Z.d_cut_at zhE fun hr C hu nd =>
 (zab (yaD (yai rfl C (zcN Z) hr.m rfl (zaa (yaa 0) (zaa (yaa 1) (zaa (yaa 2) yac)))))
  (yaf (yan (ybq (zaa (yai rfl C (zaQ Z 90) hr.m rfl (zaa (yaa 0) (zaa (yaa 1) (zaa (yaa 2) yac)))) (zaa (yai rfl C (zaW Z 90) hr.m rfl (zaa (yaa 0) (zaa (yaa 1) (zaa (yaa 2) yac)))) yac))))))
theorem zfv:GF P w (mkT K cls exc) mg base 191 "taken_out" ybX:=gf Z.d_taken_out ze6 fun hr C hu nd =>
 (zab (yaD (yai rfl C (za0 Z) hr.m rfl (zaa (yaa 0) (zaa (yaa 1) (zaa (yaa 2) (zaa (yaa 3) yac))))))
  (yaf (yan (yai rfl C (zaK Z) hr.m rfl (zaa (yaa 0) (zaa (yai rfl C (zaQ Z 90) hr.m rfl (zaa (yaa 0) (zaa (yaa 1) (zaa (yaa 2) yac)))) (zaa (yai rfl C (zaW Z 90) hr.m rfl (zaa (yaa 0) (zaa (yaa 1) (zaa (yaa 3) yac)))) yac)))))))
theorem zgK:GF P w (mkT K cls exc) mg base 193 "_law_deed" ycR:=gf Z.d_law_deed zfq fun hr C hu nd =>
 (zab (yak (i:=3) nd (yai rfl C (zax Z) hr.m rfl (zaa (yaa 2) (zaa yad yac))))
  (zab (yea (yai rfl C (zcI Z) hr.m rfl (zaa (yaa 1) (zaa (yaa 2) yac))) (ycz rfl rfl (zar (i:=4) nd (zar (i:=5) nd zaL))))
  (zab (yea (yai rfl C (zcI Z) hr.m rfl (zaa (yaa 1) (zaa (yaa 2) yac))) (ycz rfl rfl (zar (i:=6) nd (zar (i:=7) nd zaL))))
  (zab (r_if (yar o_lt (yaa 3) yad (yaq _)) (zab (yea (yai rfl C (zch Z) hr.m rfl (zaa (yaa 0) (zaa (yaa 4) (zaa (yaa 5) yac)))) (ycz rfl rfl (zar (i:=4) nd (zar (i:=5) nd zaL))))
  (yaf (yea (yai rfl C (zch Z) hr.m rfl (zaa (yaa 0) (zaa (yaa 6) (zaa (yaa 7) yac)))) (ycz rfl rfl (zar (i:=6) nd (zar (i:=7) nd zaL)))))) yas)
  (zab (yak (i:=8) nd (r_bi (zjw rfl) rfl Z.b_sorted zhA (zaa (ycE (zaa (yai rfl C (zcM Z) hr.m rfl (zaa (yaa 5) (zaa (yaa 2) yac))) (zaa (yai rfl C (zcM Z) hr.m rfl (zaa (yaa 5) (zaa (yaa 2) yac))) yac))) yac)))
  (zab (yak (i:=9) nd (yai rfl C (zbu Z) hr.m rfl (zaa (yaa 5) yac)))
  (zab (yak (i:=10) nd (yai rfl C (zaJ Z) hr.m rfl (zaa (yaa 5) (zaa yad (zaa (r_ix rfl hu (yaa 8) yad) yac)))))
  (zab (yak (i:=11) nd (yai rfl C (zaJ Z) hr.m rfl (zaa (yaa 5) (zaa (r_ix rfl hu (yaa 8) yad) (zaa (yaa 9) yac)))))
  (zab (yak (i:=12) nd (zfO rfl C (zcf Z) hr.m (yaa 0)))
  (zab (r_if (yar (o_eq rfl hu) (yaa 3) yad (yaq _)) (yaf (yak (i:=13) nd (ycE (zaa (ybq (zaa (yai rfl C (zaK Z) hr.m rfl (zaa (yaa 0) (zaa (yaa 4) (zaa (yaa 6) yac)))) (zaa (yaj (yaO rfl) (yaa 5) (yaa 7)) yac))) yac)))) (yaf (r_if (yar (o_eq rfl hu) (yaa 3) yad (yaq _)) (yaf (yak (i:=13) nd (ycE (zaa (ybq (zaa (yai rfl C (ziI Z) hr.m rfl (zaa (yaa 0) (zaa (yaa 4) (zaa (r_ix rfl hu (yaa 8) yad) (zaa (yaa 6) yac))))) (zaa (yaj (yaO rfl) (yaj (yaO rfl) (yaa 10) (yaa 7)) (yai rfl C (zaJ Z) hr.m rfl (zaa (yaa 5) (zaa (r_ix rfl hu (yaa 8) yad) (zaa (yaa 9) yac))))) yac))) yac)))) (yaf (r_if (yar (o_eq rfl hu) (yaa 3) yad (yaq _)) (yaf (yak (i:=13) nd (ycE (zaa (ybq (zaa (yai rfl C (zfv Z) hr.m rfl (zaa (yaa 0) (zaa (yaa 4) (zaa (r_ix rfl hu (yaa 8) yad) (zaa (r_ix rfl hu (yaa 8) yad) yac))))) (zaa (yaj (yaO rfl) (yaa 10) (yaa 11)) yac))) yac)))) (yaf (r_if (yar (o_eq rfl hu) (yaa 3) yad (yaq _)) (yaf (yak (i:=13) nd (ycE (zaa (ybq (zaa (yai rfl C (zcL Z) hr.m rfl (zaa (yaa 0) (zaa (yaa 4) (zaa (r_ix rfl hu (yaa 8) yad) (zaa (r_ix rfl hu (yaa 8) yad) yac))))) (zaa (yai rfl C (zaJ Z) hr.m rfl (zaa (yaa 5) (zaa (r_ix rfl hu (yaa 8) yad) (zaa (r_ix rfl hu (yaa 8) yad) yac)))) yac))) yac)))) (zab (yea (yai rfl C (ziJ Z) hr.m rfl (zaa (yaa 0) (zaa (yaa 4) (zaa (r_ix rfl hu (yaa 8) yad) yac)))) (ycz rfl rfl (zar (i:=14) nd (zar (i:=15) nd zaL))))
  (yaf (yak (i:=13) nd (ycE (zaa (ybq (zaa (yaa 14) (zaa (yai rfl C (zaJ Z) hr.m rfl (zaa (yaa 5) (zaa yad (zaa (r_ix rfl hu (yaa 8) yad) yac)))) yac))) (zaa (ybq (zaa (yaa 15) (zaa (yaa 11) yac))) yac)))))))))))))
  (zab (yak (i:=16) nd (r_bi (yeD) rfl Z.b_max PyProof.Rows.boot_max (zaa (yal rfl C (zaq Z) hr.m (yaa 0) (zaa (yaa 4) yac)) (zaa (yal rfl C (zaq Z) hr.m (yaa 0) (zaa (yaa 6) yac)) yac))))
  (zab (r_if (yar o_gt (yaj ybg (zfO rfl C (zcf Z) hr.m (yaa 0)) (yaa 12)) (yaj ybz yad (yaj (yaO rfl) (yaa 16) yad)) (yaq _)) (yaf (yan (ycE yac))) yas)
  (yaf (yan (yaa 13)))))))))))))))
theorem zej:∀ d,GF P w (mkT K cls exc) mg base (99+d+1) "doubled" (ya0 d)
 | 0=>gf Z.d_doubled zdr fun _ _ _ _=>ydn
 | d+1=>gf Z.d_doubled zdr fun hr C hu nd =>
  (zab (r_if (yar (o_eq rfl hu) (yaa 2) yad (yaq _)) (yaf (yan yad)) yas)
  (zab (yak (i:=3) nd (yai rfl C (zej d) (hr.mono (by lia)) rfl (zaa (yaa 0) (zaa (yaa 1) (zaa (yaj yde (yaa 2) yad) yac)))))
  (zab (yak (i:=4) nd (yai rfl C (zaK Z) (hr.mono (show 99<=99+(d+1) by lia)) rfl (zaa (yaa 0) (zaa (yaa 3) (zaa (yaa 3) yac)))))
  (zab (r_if (yar (o_eq rfl hu) (yaj ydf (yaa 2) yad) yad (yaq _)) (yaf (yan (yaa 4))) yas)
  (yaf (yan (yai rfl C (zaK Z) (hr.mono (show 99<=99+(d+1) by lia)) rfl (zaa (yaa 0) (zaa (yaa 4) (zaa (yaa 1) yac))))))))))
theorem zgL:GF P w (mkT K cls exc) mg base 165 "repeated" yb5:=gf Z.d_repeated zfr fun hr C hu nd =>
 (zab (yak (i:=3) nd (yal rfl C (zah Z) hr.m (yaa 0) (zaa (yaa 1) yac)))
  (zab (r_if (yar o_lt (yaa 2) yad (yaq _)) (yaf (zaE Z.x_NoPlace zaD rfl (zaa yaU yac))) yas)
  (zab (yaD (yai rfl C (za7 Z) hr.m rfl (zaa (yaj ybz (yaa 3) (yaa 2)) yac)))
  (zab (r_if (yar (o_eq rfl hu) (yaa 1) yad (yaq _)) (yaf (yan yad)) yas)
  (yaf (yan (yai rfl C (zej Z 64) hr.m rfl (zaa (yaa 0) (zaa (yaa 1) (zaa (yaa 2) yac))))))))))
theorem zdc:∀ d,GF P w (mkT K cls exc) mg base (5+d+1) "halved" (ybQ d)
 | 0=>gf Z.d_halved zei fun _ _ _ _=>ydn
 | d+1=>gf Z.d_halved zei fun hr C hu nd =>
  (zab (r_if (yar (o_eq rfl hu) (r_bi (b_len rfl) rfl Z.b_len PySem.boot_len (zaa (yaa 1) yac)) yad (yaq _)) (yaf (yan (r_ix rfl hu (yaa 1) yad))) yas)
  (zab (yak (i:=2) nd (yaj yde (r_bi (b_len rfl) rfl Z.b_len PySem.boot_len (zaa (yaa 1) yac)) yad))
  (yaf (yan (yal rfl C (zam Z) (hr.mono (show 5<=5+(d+1) by lia)) (yaa 0) (zaa (yai rfl C (zdc d) (hr.mono (by lia)) rfl (zaa (yaa 0) (zaa (zaM rfl (yaa 1) za4 (zaB (yaa 2))) yac))) (zaa (yai rfl C (zdc d) (hr.mono (by lia)) rfl (zaa (yaa 0) (zaa (zaM rfl (yaa 1) (zaB (yaa 2)) za4) yac))) yac)))))))
theorem zjY:GF P w (mkT K cls exc) mg base 27 "built" ydR:=gf Z.d_built ziG fun {f cdv A outer s H E} hr C hu nd =>
 (zab (r_if (ydm (za2 rfl (yai rfl C (zdt Z) hr.m rfl (zaa (yaa 1) yac)))) (yaf (zaE Z.x_NoText zaD rfl (zaa yaU yac))) yas)
  (zab (r_if (yar o_gt (r_bi (b_len rfl) rfl Z.b_len PySem.boot_len (zaa (yaa 1) yac)) (r_gI rfl Z.c_MOST_PLAIN) (yaq _)) (yaf (zaE Z.x_TooLong zaD rfl (zaa yaU yac))) yas)
  (zab (r_if (yar (o_eq rfl hu) (yaa 1) yaU (yaq _)) (yaf (yan yad)) yas)
  (zab (zjp (jf:=[(0, "shelf"),(1, "plain")]) (zbb (N:=["shelf", "plain", "leaves"]) (sc:=yah yen) rfl (fun _=>rfl) (by decide +kernel)) rfl (zd2 (E:=(fun _=>E)) rfl Z.b_range yad (r_bi (b_len rfl) rfl Z.b_len PySem.boot_len (zaa (yaa 1) yac)) (r_gI rfl Z.c_LEAF_SIGNS)) (fun _ _ _ _ _=>zbh) (fun _ _ _ _ _=>(yal rfl (CA.never rfl) (za1 Z) hr.m (yaa 1) (zaa (zaM rfl (yaa 2) (zaB (yaa 0)) (zaB (yaj (yaO rfl) (yaa 0) (r_gI rfl Z.c_LEAF_SIGNS)))) yac))) nd (i:=2))
  (yaf (yan (yai rfl C (zdc Z 20) hr.m rfl (zaa (yaa 0) (zaa (yaa 2) yac)))))))))
theorem zgM:GF P w (mkT K cls exc) mg base 166 "_law_long" ycu:=gf Z.d_law_long zfs fun hr C hu nd =>
 (zab (yak (i:=2) nd yad)
  (zab (ycs rfl (za3 (E:=EN) rfl (yaa 1)) (ycz rfl rfl (zar (i:=3) nd (zar (i:=4) nd zaL))) (yaf (yak (i:=2) nd (yai rfl (C.nox) (zaK Z) hr.m rfl (zaa (yaa 0) (zaa (yaa 2) (zaa (yai rfl (C.nox) (zgL Z) hr.m rfl (zaa (yaa 0) (zaa (yai rfl (C.nox) (zjY Z) hr.m rfl (zaa (yaa 0) (zaa (yaa 3) yac))) (zaa (yaa 4) yac)))) yac)))))))
  (yaf (yan (yaa 2)))))
theorem zdu:GF P w (mkT K cls exc) mg base 6 "signs_between" yce:=gf Z.d_signs_between zc9 fun hr C hu nd =>
 (zab (yak (i:=4) nd (ybh yac))
  (zab (yak (i:=5) nd (ybh (zaa (ybq (zaa (yaa 1) (zaa yad yac))) yac)))
  (zab (zjj yeE (yar (o_ne rfl hu) (yaa 5) (ycE yac) (yaq _)) (zab (yak (i:=6) nd (yf7 rfl PySem.F.plainAttrs_list PySem.F.slot_list_pop PySem.F.type_list_pop (yh6) zan (yaa 5)))
  (zab (yak (i:=7) nd (r_ix rfl hu (yaa 6) yad))
  (zab (yak (i:=8) nd (r_ix rfl hu (yaa 6) yad))
  (zab (r_if (rt_w (yhY (yar o_ge (yaa 8) (yaa 3) (yaq _)) (ygW (yar o_le (yaj (yaO rfl) (yaa 8) (yal rfl (C.nox) (zah Z) hr.m (yaa 0) (zaa (yaa 7) yac))) (yaa 2) (yaq _))))) (yaf zgw) yas)
  (zab (yak (i:=9) nd (yal rfl (C.nox) (zap Z) hr.m (yaa 0) (zaa (yaa 7) yac)))
  (yaf (r_if (yar (o_eq rfl hu) (r_ix rfl hu (yaa 9) yad) yaU (yaq _)) (yaf (yaD (r_bm rfl PySem.F.plainAttrs_list PySem.F.slot_list_append PySem.F.type_list_append (zak) zan (yaa 4) (zaa (zaM rfl (r_ix rfl hu (yaa 9) yad) (zaB (r_bi (yeD) rfl Z.b_max PyProof.Rows.boot_max (zaa (yaj ybg (yaa 2) (yaa 8)) (zaa yad yac)))) (zaB (yaj ybg (yaa 3) (yaa 8)))) yac)))) (zab (yaD (r_bm rfl PySem.F.plainAttrs_list PySem.F.slot_list_append PySem.F.type_list_append (zak) zan (yaa 5) (zaa (ybq (zaa (r_ix rfl hu (yaa 9) yad) (zaa (yaj (yaO rfl) (yaa 8) (yal rfl (C.nox) (zah Z) hr.m (yaa 0) (zaa (r_ix rfl hu (yaa 9) yad) yac))) yac))) yac)))
  (yaf (yaD (r_bm rfl PySem.F.plainAttrs_list PySem.F.slot_list_append PySem.F.type_list_append (zak) zan (yaa 5) (zaa (ybq (zaa (r_ix rfl hu (yaa 9) yad) (zaa (yaa 8) yac))) yac)))))))))))))
  (yaf (yan (r_bm rfl PySem.F.plainAttrs_str PySem.F.slot_str_join PySem.F.type_str_join (yfH rfl) zcn yaU (zaa (yaa 4) yac)))))))
theorem zfa:GF P w (mkT K cls exc) mg base 7 "stretch_of" ycS:=gf Z.d_stretch_of zeu fun hr C hu nd =>
 (zab (yaD (yai rfl C (za0 Z) hr.m rfl (zaa (yaa 0) (zaa (yaa 1) (zaa (yaa 2) (zaa (yaa 3) yac))))))
  (zab (r_if (yar o_gt (yaj ybg (yaa 3) (yaa 2)) (r_gI rfl Z.c_MOST_PLAIN) (yaq _)) (yaf (zaE Z.x_TooLong zaD rfl (zaa yaU yac))) yas)
  (yaf (yan (yai rfl C (zdu Z) hr.m rfl (zaa (yaa 0) (zaa (yaa 1) (zaa (yaa 2) (zaa (yaa 3) yac)))))))))
theorem zev:GF P w (mkT K cls exc) mg base 2 "_law_stretch" ycF:=gf Z.d_law_stretch zdQ fun {f cdv A outer s H E} hr C hu nd =>
 (yaf (yan (r_bm rfl PySem.F.plainAttrs_str PySem.F.slot_str_join PySem.F.type_str_join (yfH rfl) zcn yaU (zaa (zdC rfl (jf:=[]) (zbE (N:=["blocks", "begin", "end"]) (sc:=yah ycH) rfl (fun _=>rfl) (by decide +kernel)) rfl (za3 (E:=(fun _=>E)) rfl (yai rfl C (zaJ Z) hr.m rfl (zaa (yaa 0) (zaa (yaa 1) (zaa (yaa 2) yac))))) (fun _ _ _ _ _=>zbh) (fun _ _ _ _ _=>(yaj yg2 (yaa 0) (yaa 1)))) yac))))
theorem zcO:GF P w (mkT K cls exc) mg base 8 "_law_reads" ya2:=gf Z.d_law_reads ze7 fun hr C hu nd =>
 (zab (yak (i:=4) nd (yai rfl C (zbu Z) hr.m rfl (zaa (yaa 2) yac)))
  (zab (r_if (yar (o_ne rfl hu) (yal rfl C (zah Z) hr.m (yaa 0) (zaa (yaa 1) yac)) (yaa 4) (yaq _)) (yaf (yan r_bl)) yas)
  (zab (ycs rfl (yec (E:=EN) rfl (yai rfl (C.nox) (zci Z) hr.m rfl (zaa (yaa 2) (zaa (yaa 3) yac)))) (zaS (i:=5) nd) (zab (yak (i:=6) nd (r_bi (ye3) rfl Z.b_min PyProof.Rows.boot_min (zaa (yaa 4) (zaa (yaj (yaO rfl) (yaa 5) yad) yac))))
  (yaf (r_if (yar (o_ne rfl hu) (yai rfl (C.nox) (zfa Z) hr.m rfl (zaa (yaa 0) (zaa (yaa 1) (zaa (yaa 5) (zaa (yaa 6) yac))))) (yai rfl (C.nox) (zev Z) hr.m rfl (zaa (yaa 2) (zaa (yaa 5) (zaa (yaa 6) yac)))) (yaq _)) (yaf (yan r_bl)) yas))))
  (yaf (yan r_bl)))))
theorem yiq {f:Addr} {fd:FuncData} (h4:Fun K "law" "law" yeI f fd):FnOk P w K mg base (CXE P w) 194 f fd ["script"] (spA (mkT K cls exc) yfj):=gl (T:=mkT K cls exc) h4 yht fun {cdv A outer s H E} hr C hu nd =>
 (zab (yak (i:=1) nd (zjr rfl C (ze8 Z) hr.m rfl))
  (zab (yak (i:=2) nd (yai rfl C (ze9 Z) hr.m rfl (zaa (yai rfl C (zce Z) hr.m rfl (zaa (yaa 0) (zaa yad yac))) yac)))
  (zab (yak (i:=3) nd (ybh (zaa (ybq (zaa (yai rfl C (zgM Z) hr.m rfl (zaa (yaa 1) (zaa (yaa 2) yac))) (zaa (yaa 2) yac))) yac)))
  (zab (ycs rfl (zjm (E:=EN) rfl rfl Z.b_enumerate (yaj (yaO rfl) (zaM rfl (yaa 0) za4 (zaB yad)) (ycE (zaa yad yac)))) (ycz rfl rfl (zar (i:=4) nd (zar (i:=5) nd zaL))) (zab (yak (i:=6) nd (yai rfl (C.nox) (zcx Z) hr.m rfl (zaa (yaa 5) (zaa (yaa 4) yac))))
  (zab (yak (i:=7) nd (yai rfl (C.nox) (zgK Z) hr.m rfl (zaa (yaa 1) (zaa (yaa 3) (zaa (yaa 6) yac)))))
  (zab (r_if (yar (o_eq rfl hu) (yaa 7) (ycE yac) (yaq _)) (yaf (yan r_bl)) yas)
  (yaf (ycs rfl (za3 (E:=EN) rfl (yaa 7)) (ycz rfl rfl (zar (i:=8) nd (zar (i:=9) nd zaL))) (zab (r_if (ydm (za2 rfl (yai rfl ((C.nox).nox) (zcO Z) hr.m rfl (zaa (yaa 1) (zaa (yaa 8) (zaa (yaa 9) (zaa (yaa 6) yac))))))) (yaf (yan r_bl)) yas)
  (yaf (r_if (yar o_lt (r_bi (b_len rfl) rfl Z.b_len PySem.boot_len (zaa (yaa 9) yac)) yad (yaq _)) (yaf (yaD (r_bm rfl PySem.F.plainAttrs_list PySem.F.slot_list_append PySem.F.type_list_append (zak) zan (yaa 3) (zaa (ybq (zaa (yaa 8) (zaa (yaa 9) yac))) yac)))) yas)))))))))
  (zab (yak (i:=6) nd (yai rfl C (zce Z) hr.m rfl (zaa (yaa 0) (zaa yad yac))))
  (yaf (yan (r_bi (b_all rfl) rfl Z.b_all PyProof.Rows.boot_all (zaa (zdC rfl (jf:=[(1, "shelf"),(6, "stream")]) (zbE (N:=["script", "shelf", "blocks", "found", "k", "cell", "stream", "made", "text", "some"]) (sc:=yah yeI) rfl (fun _=>rfl) (by decide +kernel)) rfl (za3 (E:=(fun _=>E)) rfl (yaa 3)) (fun _ _ _ _ _=>zbh) (fun _ _ _ _ _=>(yai rfl (CA.never rfl) (zcO Z) hr.m rfl (zaa (yaa 2) (zaa (yaa 0) (zaa (yaa 1) (zaa (yaa 3) yac))))))) yac)))))))))
end
end Sk
namespace Sk
open PySem PySem.Spec L2 Sm
abbrev FX (l:PySem.W.OpenLaw) (w:World) (K:PySem.W.Frag) (mg:Str->Option Value) (fa:Addr):Prop:=∃ fd:FuncData,(∀ (s:Shared) (v:Value),BindsTo s fd ⟨[v],[]⟩ [("script",v)])/\∀ base:Heap,K.In base->base.Ns mainGlobals mg->FnOk l.prog w K mg base (CXE l.prog w) 194 fa fd ["script"] (spL K)
theorem all_mk {l:PySem.W.OpenLaw} {w:World} {K:PySem.W.Frag} {h:Heap} {mg:Str->Option Value} {fa C0 X0 X1 X2 X3 X4 X5 X6:Addr} {tk_LEAF_SIGNS tk_MOST_PLAIN tk_MOST_SIGNS:Tok} (X:K.In h) (G:h.Ns mainGlobals mg) (hfa:mg "law" = some (.ref fa))
  (aC0:NA K "Shelf" (some (.ref C0))) (a0:DN K C0 "__init__" "Shelf.__init__" ydq) (a10:DN K C0 "many" "Shelf.many" yds) (a12:DN K C0 "has_piece" "Shelf.has_piece" ycx) (a13:DN K C0 "check_piece" "Shelf.check_piece" ycc) (a14:DN K C0 "check_text" "Shelf.check_text" ycm) (a15:DN K C0 "signs" "Shelf.signs" yda) (a17:DN K C0 "piece" "Shelf.piece" ydb) (a19:DN K C0 "last_leaf" "Shelf.last_leaf" ycy) (a20:DN K C0 "first_leaf" "Shelf.first_leaf" ycn) (a22:DN K C0 "check_fork" "Shelf.check_fork" yco) (a23:DN K C0 "lay" "Shelf.lay" ydH) (a24:DN K C0 "lay_fork" "Shelf.lay_fork" ycJ) (a25:DN K C0 "fork" "Shelf.fork" ydt) (a27:DN K C0 "height" "Shelf.height" yc4) (a36:DN K C0 "lay_leaf" "Shelf.lay_leaf" ycK) (a37:DN K C0 "leaf" "Shelf.leaf" ydu) (a1:DK K "_law_take" ydZ) (a2:DK K "_law_plain" ydD) (a3:DK K "_law_blocks" ydr) (a4:DK K "_law_mixed" ydE) (a5:DK K "_law_stream" ycV) (a6:DK K "_law_cell_stream" ycw) (a7:DK K "_law_drawn" ydF) (a8:DK K "_law_signs" yc8) (a9:DK K "_law_part" yd0) (a11:DK K "is_whole" yd1) (a16:DK K "check_stretch" ycW) (a18:DK K "check_length" yc3) (a21:DK K "are_close" ydG) (a26:DK K "with_last" ydI) (a28:DK K "turned_left" ydc) (a29:DK K "without_first" ycX) (a30:DK K "turned_right" yc5) (a31:DK K "linked" yep) (a32:DK K "is_plain_sign" ycY) (a33:DK K "is_plain" ydk) (a34:DK K "is_short" yd2) (a35:DK K "ends_in" yeg) (a38:DK K "welded" yeq) (a39:DK K "joined" yer) (a40:DK K "back_of" yeh) (a41:DK K "front_of" yd3) (a42:DK K "kept_part" ydJ) (a43:DK K "_law_halved" ydv) (a44:DK K "_law_places" ycZ) (a45:DK K "_law_place" ydK) (a46:DK K "check_gap" ydL) (a47:DK K "put_in" yes) (a48:DK K "cut_at" yet) (a49:DK K "taken_out" ydM) (a50:DK K "_law_deed" yd4) (a51:DK K "doubled" yei) (a52:DK K "repeated" yd5) (a53:DK K "halved" yeu) (a54:DK K "built" yen) (a55:DK K "_law_long" yd6) (a56:DK K "signs_between" yc0) (a57:DK K "stretch_of" ydw) (a58:DK K "_law_stretch" ycH) (a59:DK K "_law_reads" ydN) (a60:DK K "law" yeI) (kk0:Cls K C0) (mk0:PySem.W.makesIn K C0=true) (kc0:PySem.W.keepIn K (.ref C0)=true) (nf0_0:FA K C0 "pieces") (nf0_1:FA K C0 "numbers") (nf0_2:FA K C0 "sign_counts") (nf0_3:FA K C0 "end_counts") (nf0_4:FA K C0 "leaf_counts") (nf0_5:FA K C0 "heights") (nf0_6:FA K C0 "first_leaves") (nf0_7:FA K C0 "last_leaves") (z_abs:NA K "abs" none) (z_all:NA K "all" none) (z_bool:NA K "bool" none) (z_enumerate:NA K "enumerate" none) (z_int:NA K "int" none) (z_isinstance:NA K "isinstance" none) (z_len:NA K "len" none) (z_max:NA K "max" none) (z_min:NA K "min" none) (z_range:NA K "range" none) (z_sorted:NA K "sorted" none) (z_str:NA K "str" none) (z_sum:NA K "sum" none) (e_SkeinError:NA K "SkeinError" (some (.ref X0))) (e_NoText:NA K "NoText" (some (.ref X1))) (x_NoText:XI K X1) (e_NoPiece:NA K "NoPiece" (some (.ref X2))) (x_NoPiece:XI K X2) (e_Loose:NA K "Loose" (some (.ref X3))) (x_Loose:XI K X3) (e_Unlevel:NA K "Unlevel" (some (.ref X4))) (x_Unlevel:XI K X4) (e_TooLong:NA K "TooLong" (some (.ref X5))) (x_TooLong:XI K X5) (e_NoPlace:NA K "NoPlace" (some (.ref X6))) (x_NoPlace:XI K X6) (m_LEAF_SIGNS:NA K "LEAF_SIGNS" (some (.int 8 tk_LEAF_SIGNS))) (m_MOST_PLAIN:NA K "MOST_PLAIN" (some (.int 10000 tk_MOST_PLAIN))) (m_MOST_SIGNS:NA K "MOST_SIGNS" (some (.int 1000000000000000000 tk_MOST_SIGNS)))
  : FX l w K mg fa:=by
 have Z:∀ base:Heap,K.In base->Facts l.prog w K (fun n=>[C0][n]?) (fun n=>[X0,X1,X2,X3,X4,X5,X6][n]?) mg base:=fun base KB=>{
   b_abs:=PySem.W.mg_none_of X G z_abs,
   b_all:=PySem.W.mg_none_of X G z_all,
   b_bool:=PySem.W.mg_none_of X G z_bool,
   b_enumerate:=PySem.W.mg_none_of X G z_enumerate,
   b_int:=PySem.W.mg_none_of X G z_int,
   b_isinstance:=PySem.W.mg_none_of X G z_isinstance,
   b_len:=PySem.W.mg_none_of X G z_len,
   b_max:=PySem.W.mg_none_of X G z_max,
   b_min:=PySem.W.mg_none_of X G z_min,
   b_range:=PySem.W.mg_none_of X G z_range,
   b_sorted:=PySem.W.mg_none_of X G z_sorted,
   b_str:=PySem.W.mg_none_of X G z_str,
   b_sum:=PySem.W.mg_none_of X G z_sum,
   c_LEAF_SIGNS:=⟨_,PySem.W.mg_of X G m_LEAF_SIGNS⟩,
   c_MOST_PLAIN:=⟨_,PySem.W.mg_of X G m_MOST_PLAIN⟩,
   c_MOST_SIGNS:=⟨_,PySem.W.mg_of X G m_MOST_SIGNS⟩,
   cf_Shelf:=⟨C0,rfl,kk0,fun f hf=>by
   have hf2:f∈flds 0:=hf
   simp only [flds,List.mem_cons,List.not_mem_nil,or_false] at hf2
   rcases hf2 with rfl | rfl | rfl | rfl | rfl | rfl | rfl | rfl
   ·exact nf0_0
   ·exact nf0_1
   ·exact nf0_2
   ·exact nf0_3
   ·exact nf0_4
   ·exact nf0_5
   ·exact nf0_6
   ·exact nf0_7⟩,
   x_NoText:=gx KB X G rfl e_NoText x_NoText,
   x_NoPiece:=gx KB X G rfl e_NoPiece x_NoPiece,
   x_Loose:=gx KB X G rfl e_Loose x_Loose,
   x_Unlevel:=gx KB X G rfl e_Unlevel x_Unlevel,
   x_TooLong:=gx KB X G rfl e_TooLong x_TooLong,
   x_NoPlace:=gx KB X G rfl e_NoPlace x_NoPlace,
   d_Shelf_init:=di rfl (PySem.W.mg_of X G aC0) mk0 kc0 a0 bl1,
   d_law_take:=dg X G a1 bl2,
   d_law_plain:=dg X G a2 bl2,
   d_law_blocks:=dg X G a3 bl1,
   d_law_mixed:=dg X G a4 bl2,
   d_law_stream:=dg X G a5 bl2,
   d_law_cell_stream:=dg X G a6 bl2,
   d_law_drawn:=dg X G a7 bl2,
   d_law_signs:=dg X G a8 bl1,
   d_law_part:=dg X G a9 bl3,
   d_Shelf_many:=dm rfl kk0 a10 bl1,
   d_is_whole:=dg X G a11 bl1,
   d_Shelf_has_piece:=dm rfl kk0 a12 bl2,
   d_Shelf_check_piece:=dm rfl kk0 a13 bl2,
   d_Shelf_check_text:=dm rfl kk0 a14 bl2,
   d_Shelf_signs:=dm rfl kk0 a15 bl2,
   d_check_stretch:=dg X G a16 bl4,
   d_Shelf_piece:=dm rfl kk0 a17 bl2,
   d_check_length:=dg X G a18 bl1,
   d_Shelf_last_leaf:=dm rfl kk0 a19 bl2,
   d_Shelf_first_leaf:=dm rfl kk0 a20 bl2,
   d_are_close:=dg X G a21 bl3,
   d_Shelf_check_fork:=dm rfl kk0 a22 bl3,
   d_Shelf_lay:=dm rfl kk0 a23 bl2,
   d_Shelf_lay_fork:=dm rfl kk0 a24 bl2,
   d_Shelf_fork:=dm rfl kk0 a25 bl3,
   d_with_last:=dg X G a26 bl3,
   d_Shelf_height:=dm rfl kk0 a27 bl2,
   d_turned_left:=dg X G a28 bl3,
   d_without_first:=dg X G a29 bl2,
   d_turned_right:=dg X G a30 bl3,
   d_linked:=dg X G a31 bl3,
   d_is_plain_sign:=dg X G a32 bl1,
   d_is_plain:=dg X G a33 bl1,
   d_is_short:=dg X G a34 bl1,
   d_ends_in:=dg X G a35 bl1,
   d_Shelf_lay_leaf:=dm rfl kk0 a36 bl2,
   d_Shelf_leaf:=dm rfl kk0 a37 bl2,
   d_welded:=dg X G a38 bl3,
   d_joined:=dg X G a39 bl3,
   d_back_of:=dg X G a40 bl3,
   d_front_of:=dg X G a41 bl3,
   d_kept_part:=dg X G a42 bl4,
   d_law_halved:=dg X G a43 bl3,
   d_law_places:=dg X G a44 bl2,
   d_law_place:=dg X G a45 bl2,
   d_check_gap:=dg X G a46 bl3,
   d_put_in:=dg X G a47 bl4,
   d_cut_at:=dg X G a48 bl3,
   d_taken_out:=dg X G a49 bl4,
   d_law_deed:=dg X G a50 bl3,
   d_doubled:=dg X G a51 bl3,
   d_repeated:=dg X G a52 bl3,
   d_halved:=dg X G a53 bl2,
   d_built:=dg X G a54 bl2,
   d_law_long:=dg X G a55 bl2,
   d_signs_between:=dg X G a56 bl4,
   d_stretch_of:=dg X G a57 bl4,
   d_law_stretch:=dg X G a58 bl3,
   d_law_reads:=dg X G a59 bl4,
   d_law:=dg X G a60 bl1 }
 obtain ⟨fd,h1,F⟩:=dlaw (p := "script") X G hfa a60 bl1
 exact ⟨fd,h1,fun base KB _=>FnOk.imp (yiq (Z base KB) F) (zju (T:=mkT K (fun n=>[C0][n]?) (fun n=>[X0,X1,X2,X3,X4,X5,X6][n]?)) law_true)⟩
theorem walk {l:PySem.W.OpenLaw} {q:Program} {loose:List Str} {XP:(Str->Option Value)->Heap->Prop} {YP:World->Heap->Prop} {d:DefRec} {K:Params->PySem.W.Frag} (hn:l.most=some 63) (hdf:d.params.defaults=[])
  (hY:∀ (w:World) (h:Heap),YP w h->(K w.params).In h)
  (F:∀ (w:World) (mg:Str->Option Value) (fa:Addr) (h:Heap),(K w.params).In h->h.Ns mainGlobals mg->mg d.name=some (.ref fa)->FX l w (K w.params) mg fa) :
  PySem.W.WalkO q loose XP YP l.row.toRowW d [] (fun f vs=>PySem.call f vs) :=
 L2.walk_of (n:=63) (k:=194) (x := "script") (CX:=fun w=>CXE l.prog w) (sp:=fun w=>spL (K w.params)) hn (by decide) hdf ⟨rfl,by decide,by decide⟩ hY F (fun _ _ a ns hl _ hS=>⟨a,ns,rfl,hS,hl,fun _=>rfl⟩) fun _ _ _ _ _ z=>zhl z
end Sk
open PySem PySem.W PyProof.Rows
section
namespace PySem.W.Fast
def tw9527061452600606299:=0
def tw11173148321905407361:=0
def tw3447808420511004671:=0
def tw14906970026538276575:=0
def tw72550853301406431:=0
def tw11595489894049700543:=0
def tw6224260400609423007:=0
def tw822319386332723551:=0
def tw9696109613549986143:=0
def tw1387822989663856895:=0
def tw5864125101576419519:=0
def tw12611230919196158143:=0
def tw637257133829098623:=0
def tw5103806048301259871:=0
def tw15344943538198204479:=0
def tw2590736304559064095:=0
def tw17081086920224997407:=0
def tw5122836835884021694:=0
def tw13096103606737110942:=0
def tw16544472192013802334:=0
def tw17514857740710694622:=0
def tw17110022519168140862:=0
def tw1875690169718284766:=0
def tw1709998788335010206:=0
def tw4009735634786924894:=0
def tw88224825998000478:=0
def tw3364416065367993662:=0
def tw4772382442433267006:=0
def tw11590660818147670302:=0
def tw8235146570864226526:=0
def tw14171221314369396958:=0
def tw9482374581114389662:=0
def tw9067932082228354174:=0
def tw14355254675185359966:=0
def tw10969974317439770654:=0
def tw2125249138087694301:=0
def tw4136734787692861245:=0
def tw16450159751097037629:=0
def tw15621885815233336093:=0
def tw10179632754897651165:=0
def tw14389997188642976157:=0
def tw13298035274380900605:=0
def tw14110058214250557501:=0
def tw15601008542791542620:=0
def tw138186609329862364:=0
def tw4197702536885814876:=0
def tw2524295445252363836:=0
def tw10485141592508949980:=0
def tw8815949225802345820:=0
def tw4972655000941439132:=0
def tw14589023143329368220:=0
def tw16132636895454848827:=0
def tw3927756192092992315:=0
def tw14601879909187261883:=0
def tw9449829822258121979:=0
def tw6651533597330806971:=0
def tw6264648145393841211:=0
def tw156477343401920539:=0
def tw15118734667292391451:=0
def tw17324527320292072282:=0
def tw13407879990072647386:=0
def tw8187776727028350522:=0
def tw866444726385152474:=0
def tw11147547102040369530:=0
def tw1332538720352590170:=0
def tw4629609639938166906:=0
def tw6496283649624174553:=0
def tw10994649304098132889:=0
def tw17649099582824971129:=0
def tw11021705471362718553:=0
def tw12228753837992198969:=0
def tw1207329015550432985:=0
def tw9725302068309981913:=0
def tw16909827169222299193:=0
def tw1927672174245791097:=0
def tw13716274695934407993:=0
def tw6113793574265933945:=0
def tw5961885793409199161:=0
def tw10430897413390710841:=0
def tw7830265901734619161:=0
def tw3630199898531488760:=0
def tw7391763232566208440:=0
def tw10561034428862076824:=0
def tw7005942405215413112:=0
def tw12306511394456593208:=0
def tw3785433460218267288:=0
def tw18320825843249681976:=0
def tw3576762661986824696:=0
def tw14866588441973858776:=0
def tw7621451068563004696:=0
def tw11943339426885666807:=0
def tw14389210595037983671:=0
def tw11301474163726951287:=0
def tw16597324362946739991:=0
def tw3387890892418465559:=0
def tw17060709423605582615:=0
def tw10244968786091045559:=0
def tw11370935371968184823:=0
def tw17199378543045618039:=0
def tw9987705209345377655:=0
def tw3055361142583981367:=0
def tw5877644766909521175:=0
def tw484576360790639542:=0
def tw17357495310318064534:=0
def tw18294537441785140118:=0
def tw1816834699686285014:=0
def tw13143112002047344214:=0
def tw11058002410547102294:=0
def tw15225619316980053430:=0
def tw9247156787036690710:=0
def tw1269644809464388790:=0
def tw5169649244234523605:=0
def tw4837285087411347381:=0
def tw14592399082464370581:=0
def tw10032312891751130005:=0
def tw13447261339118894933:=0
def tw7927104838873404245:=0
def tw15793025356567925589:=0
def tw7414618407026165429:=0
def tw1203722656993799829:=0
def tw2674342033634981429:=0
def tw14366926949804708405:=0
def tw3287396350236100117:=0
def tw16507058853262639349:=0
def tw11103526754115568885:=0
def tw18170496535694306517:=0
def tw2228164323224296661:=0
def tw12762644078818977941:=0
def tw9680904403782107285:=0
def tw7116183275393556340:=0
def tw11075158150829581940:=0
def tw2758429619502721652:=0
def tw10199873278938151508:=0
def tw761819257007097332:=0
def tw767552584306472052:=0
def tw11621279988018152500:=0
def tw8768135600729988019:=0
def tw3226709089733110515:=0
def tw5503574061868023507:=0
def tw2448326857771817651:=0
def tw9554373933484582547:=0
def tw17175127907994402387:=0
def tw10961228854632377779:=0
def tw7629889657162347891:=0
def tw12136544071223780723:=0
def tw10636120604915321107:=0
def tw14580840519672681715:=0
def tw17311758276452608115:=0
def tw8464252019391607923:=0
def tw6978601415873864690:=0
def tw5578082192430716818:=0
def tw5457890720850401106:=0
def tw2982236576708962098:=0
def tw6290602119589482258:=0
def tw12301703634323430162:=0
def tw5444281819109624562:=0
def tw4501278650202863314:=0
def tw13141440908625273554:=0
def tw9707968739592442546:=0
def tw8367246440537959826:=0
def tw17761063510467389682:=0
def tw2754634624481472690:=0
def tw18425284898135540882:=0
def tw6907199215904368690:=0
def tw6109768010118718353:=0
def tw2005194531993718673:=0
def tw14363294691459681041:=0
def tw650793610567111441:=0
def tw13234489521586808497:=0
def tw17454463244648448465:=0
def tw2905347955397620113:=0
def tw13283682462264295729:=0
def tw1055875071452775697:=0
def tw6785415757790289041:=0
def tw14012588932043226161:=0
def tw3400451585708968977:=0
def tw17607248582363356144:=0
def tw14456130254882229200:=0
def tw6985204857276748752:=0
def tw13828231472590095280:=0
def tw13349585427454974832:=0
def tw10048208655540639600:=0
def tw15041883287983116144:=0
def tw11132453166385403696:=0
def tw15485552416218565360:=0
def tw6122182380526098960:=0
def tw7729514517164969488:=0
def tw13337982928374261232:=0
def tw14942315274664995088:=0
def tw14069464076399591664:=0
def tw10466165845464219888:=0
def tw13433001323730686160:=0
def tw4948515280369789104:=0
def tw10655845574683846736:=0
def tw9148078847231430639:=0
def tw7599279126812541711:=0
def tw11564651207333414639:=0
def tw16919656938366526063:=0
def tw12704589023980394031:=0
def tw3647992978263564655:=0
def tw17719845959212331311:=0
def tw10556632184368909583:=0
def tw9446159179946258447:=0
def tw1432060272756778926:=0
def tw17672357038146442158:=0
def tw1855512257111356302:=0
def tw18095300456693538670:=0
def tw6471380910158947182:=0
def tw7349340832442622766:=0
def tw2888826316540457774:=0
def tw1785225539640145678:=0
def tw14517837727959538158:=0
def tw9503026889395797390:=0
def tw3292727160926591342:=0
def tw1223064221496992046:=0
def tw9368226484297038094:=0
def tw10638317039620569294:=0
def tw1409494316199905390:=0
def tw10883208171755385741:=0
def tw15186682103688697613:=0
def tw8764800846775160525:=0
def tw6330098053004162573:=0
def tw7730158270203058669:=0
def tw7226548602546776461:=0
def tw2199022128428350861:=0
def tw3172539969363911021:=0
def tw6025644021633752429:=0
def tw11442589346045080845:=0
def tw10836804808969437325:=0
def tw16998130124828998701:=0
def tw14061234831223168620:=0
def tw15174133720530461196:=0
def tw14690247742658961900:=0
def tw15368912668489320812:=0
def tw11103589112920393036:=0
def tw17839052989574208812:=0
def tw1317272069262991596:=0
def tw12032640426066740396:=0
def tw1190084754789497387:=0
def tw6468367097754519627:=0
def tw2311757410556990507:=0
def tw2201945522526597802:=0
def tw17439905019858732714:=0
def tw614953188608809546:=0
def tw8569342874745446954:=0
def tw4286169207789888874:=0
def tw3381192466525615402:=0
def tw3323620873493924106:=0
def tw9378622137323686058:=0
def tw9007169662413631594:=0
def tw9524523038764084298:=0
def tw15844589992456876969:=0
def tw10098865728959206281:=0
def tw2182129235390504841:=0
def tw5653248760726725481:=0
def tw14788259063135516393:=0
def tw18145963063543359177:=0
def tw15212636562791988905:=0
def tw2565934030233087561:=0
def tw14220277041910479401:=0
def tw13748919519595893257:=0
def tw18180957172726502729:=0
def tw3354039111662066921:=0
def tw6081118623050221705:=0
def tw7297968757133594697:=0
def tw7670505831159739433:=0
def tw14295005451810074600:=0
def tw9068093031129143272:=0
def tw7795567205804442504:=0
def tw6857093778228354888:=0
def tw17170526142962409160:=0
def tw12775754756863970984:=0
def tw8840608080670336584:=0
def tw11027232319383561800:=0
def tw4528534877233339912:=0
def tw3319422824415045096:=0
def tw11947907425200225736:=0
def tw11361475164831612104:=0
def tw1962011637528911016:=0
def tw2483248312007431272:=0
def tw4756061451968063560:=0
def tw4007302426324580199:=0
def tw6315093715885854375:=0
def tw7628139223841302087:=0
def tw10984172209511838183:=0
def tw16852095805807468007:=0
def tw17993902596954530247:=0
def tw10144127087461719463:=0
def tw12871952533995212199:=0
def tw6416010463871114471:=0
def tw12791060442717883623:=0
def tw8526931955318749351:=0
def tw4519242619966024711:=0
def tw15790154586700177350:=0
def tw17901960737057580934:=0
def tw5076640470815817510:=0
def tw17757194148763139590:=0
def tw15825402454970080710:=0
def tw5159340506184615302:=0
def tw10435000468187935014:=0
def tw845985278077036774:=0
def tw5603352318963179590:=0
def tw9170749492185491494:=0
def tw15085679618618581925:=0
def tw2205902755364189093:=0
def tw1261599595156577061:=0
def tw14479855438795257605:=0
def tw17123341746290513669:=0
def tw67148768692864613:=0
def tw9331255673465909861:=0
def tw15756763722745460261:=0
def tw9745207556793277989:=0
def tw8945606295470727653:=0
def tw1700998906408604133:=0
def tw11262170871022383557:=0
def tw706618579142008197:=0
def tw14790512352856063333:=0
def tw6565430695988803845:=0
def tw14227900754567045317:=0
def tw2817652069085934629:=0
def tw1999692113793593220:=0
def tw11861307200244177796:=0
def tw13455365915344365380:=0
def tw12826506127421008644:=0
def tw2845210256761507556:=0
def tw8586153567967537860:=0
def tw7065375124330916452:=0
def tw8476312049674452516:=0
def tw5776086491703783972:=0
def tw17137848066475807236:=0
def tw7165608466635998724:=0
def tw9943563429390277092:=0
def tw8960530599003731428:=0
def tw12294021906365855172:=0
def tw9736780596589617476:=0
def tw12738164815902595332:=0
def tw15957224555810006148:=0
def tw16482136034012317732:=0
def tw2577626237801772036:=0
def tw561958206138987331:=0
def tw5901752634970873475:=0
def tw371315246984789603:=0
def tw697178813913010691:=0
def tw17477275004606681443:=0
def tw18122387278410828067:=0
def tw6146185637077392579:=0
def tw12815477957249617059:=0
def tw2496828821814035619:=0
def tw4324518496901802019:=0
def tw4692053283352130402:=0
def tw6980756723630583650:=0
def tw15473277417042644418:=0
def tw18281984016219504770:=0
def tw16760996168580365410:=0
def tw16045598226367349858:=0
def tw12140561715181260866:=0
def tw1924494795760251970:=0
def tw11183185495537888225:=0
def tw13202822756457550529:=0
def tw15129604484344010305:=0
def tw12774389559381944705:=0
def tw14296952811612735873:=0
def tw3466083102098099425:=0
def tw11618197149787887809:=0
def tw769884201091902465:=0
def tw16656888920388788192:=0
def tw13390697430260649952:=0
def tw7617218134192599936:=0
def tw17047592295739871968:=0
def tw3482304131044737760:=0
def tw14763575571528872576:=0
def tw4222003529635099264:=0
def tw11906100393020495488:=0
def tw11040369657804763616:=0
def tw16367797744042177760:=0
def tw1036380918384732288:=0
def tw6068176984784452640:=0
def tw451599130152010784:=0
end PySem.W.Fast
end
set_option maxRecDepth 100000 in
set_option maxHeartbeats 0 in
theorem PySem.Challenge.cw_skeinwood_k52_whole_long_texts_cut_and_p_holds : PySem.Challenge.rw_skeinwood_k52_whole_long_texts_cut_and_p.Holds := by
 w_on; o_law; k_head; (case hw => w_witness2)
 k_fill
 refine Sk.walk (l := PySem.Challenge.rw_skeinwood_k52_whole_long_texts_cut_and_p) rfl rfl (fun w h Y => PySem.W.kIn_of Y) ?F
 case F =>
  intro w mg fa h KX G hmg
  refine' Sk.all_mk KX G hmg ?aC0 ?a0 ?a10 ?a12 ?a13 ?a14 ?a15 ?a17 ?a19 ?a20 ?a22 ?a23 ?a24 ?a25 ?a27 ?a36 ?a37 ?a1 ?a2 ?a3 ?a4 ?a5 ?a6 ?a7 ?a8 ?a9 ?a11 ?a16 ?a18 ?a21 ?a26 ?a28 ?a29 ?a30 ?a31 ?a32 ?a33 ?a34 ?a35 ?a38 ?a39 ?a40 ?a41 ?a42 ?a43 ?a44 ?a45 ?a46 ?a47 ?a48 ?a49 ?a50 ?a51 ?a52 ?a53 ?a54 ?a55 ?a56 ?a57 ?a58 ?a59 ?a60 ?kk0 ?mk0 ?kc0 ?nf0_0 ?nf0_1 ?nf0_2 ?nf0_3 ?nf0_4 ?nf0_5 ?nf0_6 ?nf0_7 ?z_abs ?z_all ?z_bool ?z_enumerate ?z_int ?z_isinstance ?z_len ?z_max ?z_min ?z_range ?z_sorted ?z_str ?z_sum ?e_SkeinError ?e_NoText ?x_NoText ?e_NoPiece ?x_NoPiece ?e_Loose ?x_Loose ?e_Unlevel ?x_Unlevel ?e_TooLong ?x_TooLong ?e_NoPlace ?x_NoPlace ?m_LEAF_SIGNS ?m_MOST_PLAIN ?m_MOST_SIGNS
  (case aC0 => apply Sm.na;k_is)
  (case a0 => apply Sm.dn<;>k_is)
  (case a10 => apply Sm.dn<;>k_is)
  (case a12 => apply Sm.dn<;>k_is)
  (case a13 => apply Sm.dn<;>k_is)
  (case a14 => apply Sm.dn<;>k_is)
  (case a15 => apply Sm.dn<;>k_is)
  (case a17 => apply Sm.dn<;>k_is)
  (case a19 => apply Sm.dn<;>k_is)
  (case a20 => apply Sm.dn<;>k_is)
  (case a22 => apply Sm.dn<;>k_is)
  (case a23 => apply Sm.dn<;>k_is)
  (case a24 => apply Sm.dn<;>k_is)
  (case a25 => apply Sm.dn<;>k_is)
  (case a27 => apply Sm.dn<;>k_is)
  (case a36 => apply Sm.dn<;>k_is)
  (case a37 => apply Sm.dn<;>k_is)
  (case a1 => apply Sm.dk<;>k_is)
  (case a2 => apply Sm.dk<;>k_is)
  (case a3 => apply Sm.dk<;>k_is)
  (case a4 => apply Sm.dk<;>k_is)
  (case a5 => apply Sm.dk<;>k_is)
  (case a6 => apply Sm.dk<;>k_is)
  (case a7 => apply Sm.dk<;>k_is)
  (case a8 => apply Sm.dk<;>k_is)
  (case a9 => apply Sm.dk<;>k_is)
  (case a11 => apply Sm.dk<;>k_is)
  (case a16 => apply Sm.dk<;>k_is)
  (case a18 => apply Sm.dk<;>k_is)
  (case a21 => apply Sm.dk<;>k_is)
  (case a26 => apply Sm.dk<;>k_is)
  (case a28 => apply Sm.dk<;>k_is)
  (case a29 => apply Sm.dk<;>k_is)
  (case a30 => apply Sm.dk<;>k_is)
  (case a31 => apply Sm.dk<;>k_is)
  (case a32 => apply Sm.dk<;>k_is)
  (case a33 => apply Sm.dk<;>k_is)
  (case a34 => apply Sm.dk<;>k_is)
  (case a35 => apply Sm.dk<;>k_is)
  (case a38 => apply Sm.dk<;>k_is)
  (case a39 => apply Sm.dk<;>k_is)
  (case a40 => apply Sm.dk<;>k_is)
  (case a41 => apply Sm.dk<;>k_is)
  (case a42 => apply Sm.dk<;>k_is)
  (case a43 => apply Sm.dk<;>k_is)
  (case a44 => apply Sm.dk<;>k_is)
  (case a45 => apply Sm.dk<;>k_is)
  (case a46 => apply Sm.dk<;>k_is)
  (case a47 => apply Sm.dk<;>k_is)
  (case a48 => apply Sm.dk<;>k_is)
  (case a49 => apply Sm.dk<;>k_is)
  (case a50 => apply Sm.dk<;>k_is)
  (case a51 => apply Sm.dk<;>k_is)
  (case a52 => apply Sm.dk<;>k_is)
  (case a53 => apply Sm.dk<;>k_is)
  (case a54 => apply Sm.dk<;>k_is)
  (case a55 => apply Sm.dk<;>k_is)
  (case a56 => apply Sm.dk<;>k_is)
  (case a57 => apply Sm.dk<;>k_is)
  (case a58 => apply Sm.dk<;>k_is)
  (case a59 => apply Sm.dk<;>k_is)
  (case a60 => apply Sm.dk<;>k_is)
  (case kk0 => constructor<;>k_is)
  (case mk0 => k_is)
  (case kc0 => k_is)
  (case nf0_0 => apply Sm.fatt;k_is)
  (case nf0_1 => apply Sm.fatt;k_is)
  (case nf0_2 => apply Sm.fatt;k_is)
  (case nf0_3 => apply Sm.fatt;k_is)
  (case nf0_4 => apply Sm.fatt;k_is)
  (case nf0_5 => apply Sm.fatt;k_is)
  (case nf0_6 => apply Sm.fatt;k_is)
  (case nf0_7 => apply Sm.fatt;k_is)
  (case z_abs => apply Sm.na;k_is)
  (case z_all => apply Sm.na;k_is)
  (case z_bool => apply Sm.na;k_is)
  (case z_enumerate => apply Sm.na;k_is)
  (case z_int => apply Sm.na;k_is)
  (case z_isinstance => apply Sm.na;k_is)
  (case z_len => apply Sm.na;k_is)
  (case z_max => apply Sm.na;k_is)
  (case z_min => apply Sm.na;k_is)
  (case z_range => apply Sm.na;k_is)
  (case z_sorted => apply Sm.na;k_is)
  (case z_str => apply Sm.na;k_is)
  (case z_sum => apply Sm.na;k_is)
  (case e_SkeinError => apply Sm.na;k_is)
  (case e_NoText => apply Sm.na;k_is)
  (case x_NoText => apply Sm.xi;k_exc)
  (case e_NoPiece => apply Sm.na;k_is)
  (case x_NoPiece => apply Sm.xi;k_exc)
  (case e_Loose => apply Sm.na;k_is)
  (case x_Loose => apply Sm.xi;k_exc)
  (case e_Unlevel => apply Sm.na;k_is)
  (case x_Unlevel => apply Sm.xi;k_exc)
  (case e_TooLong => apply Sm.na;k_is)
  (case x_TooLong => apply Sm.xi;k_exc)
  (case e_NoPlace => apply Sm.na;k_is)
  (case x_NoPlace => apply Sm.xi;k_exc)
  (case m_LEAF_SIGNS => apply Sm.na;k_is)
  (case m_MOST_PLAIN => apply Sm.na;k_is)
  (case m_MOST_SIGNS => apply Sm.na;k_is)
